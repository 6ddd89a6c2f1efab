/-
  What gzhead.Parse reads, step by step, is what its bytes say: lists and numbers alone.
-/
import Derived.Test.YtgilfjojimgpaaaQl
namespace Go.Proofs.Ytgilfjojimgpaaa.Qo
open Go.Proofs.Ytgilfjojimgpaaa.Vm Go.Proofs.Ytgilfjojimgpaaa.Bm Go.Proofs.Ytgilfjojimgpaaa.Qm Go.Proofs.Ytgilfjojimgpaaa.Qd Go.Proofs.Ytgilfjojimgpaaa.Qh Go.Proofs.Ytgilfjojimgpaaa.Qi Go.Proofs.Ytgilfjojimgpaaa.Qj Go.Proofs.Ytgilfjojimgpaaa.Ql

theorem nu_le {l : List UInt8} {a : Nat} {e : Int} {k : Nat} (h : a ≤ l.length) : (nuR l a e k).2.1 ≤ l.length := by
  unfold nuR
  split
  · exact h
  · split
    · exact h
    · show a + k ≤ _; omega
theorem sz_le {l : List UInt8} {a : Nat} (h : a ≤ l.length) : (szR l a).2.1 ≤ l.length := by
  unfold szR
  split
  · exact h
  · split
    · show a + 2 ≤ _; omega
    · show a + 2 + _ ≤ _; omega
theorem ze_le {l : List UInt8} {a : Nat} (h : a ≤ l.length) : (zeR l a).2.1 ≤ l.length := by
  unfold zeR
  cases h1 : endQ (l.drop a) with
  | none => exact h
  | some p =>
    obtain ⟨t, r⟩ := p
    have h2 := congrArg List.length (endQ_some _ _ _ h1).1
    rw [List.length_drop, List.length_append, List.length_cons] at h2
    show a + t.length + 1 ≤ _
    omega
theorem fi_le {z : Int} {l : List UInt8} {a : Nat} {e : Int} {r : List UInt8 × Nat × Int} (h : a ≤ l.length) (hr : r.2.1 ≤ l.length) : (fiR z l a e r).2.1 ≤ l.length := by
  unfold fiR
  split
  · exact h
  · exact hr
theorem sm_le {l : List UInt8} {b a : Nat} {e : Int} (h : a ≤ l.length) : (smR l b a e).1 ≤ l.length := by
  unfold smR
  split
  · exact h
  · split
    · exact h
    · split <;> (show a + 2 ≤ _; omega)
/-- The places never go back. -/
theorem nu_ge {l : List UInt8} {a : Nat} {e : Int} {k : Nat} : a ≤ (nuR l a e k).2.1 := by
  unfold nuR
  split
  · exact Nat.le_refl _
  · split
    · exact Nat.le_refl _
    · exact Nat.le_add_right _ _
theorem sz_ge {l : List UInt8} {a : Nat} : a ≤ (szR l a).2.1 := by
  unfold szR
  split
  · exact Nat.le_refl _
  · split
    · show a ≤ a + 2; omega
    · show a ≤ a + 2 + _; omega
theorem ze_ge {l : List UInt8} {a : Nat} : a ≤ (zeR l a).2.1 := by
  unfold zeR
  split
  · exact Nat.le_refl _
  · show a ≤ a + _ + 1; omega
theorem fi_ge {z : Int} {l : List UInt8} {a : Nat} {e : Int} {r : List UInt8 × Nat × Int} (hr : a ≤ r.2.1) : a ≤ (fiR z l a e r).2.1 := by
  unfold fiR
  split
  · exact Nat.le_refl _
  · exact hr

section
variable {l : List UInt8} {A : Nat}
/-- Extra. -/
theorem fi_one {F : Nat} {z : Int} (hz : z ≠ 0 ↔ F / 4 % 2 = 1) (hA : A ≤ l.length) : match p1 F (l.drop A) with
    | none => ∃ b, fiR z l A 0 (szR l A) = ([], b, 2)
    | some (e, r) => ∃ b, fiR z l A 0 (szR l A) = (e, b, 0) ∧ r = l.drop b ∧ A ≤ b ∧ b ≤ l.length := by
  by_cases h : F / 4 % 2 = 1
  · rw [show fiR z l A 0 (szR l A) = szR l A from if_neg (by intro k; exact k.elim (fun k => k rfl) (hz.2 h))]
    unfold p1
    rw [if_pos h, List.length_drop]
    unfold szR
    by_cases h2 : l.length - A < 2
    · rw [if_pos (.inl h2), if_pos h2]
      exact ⟨A, rfl⟩
    · by_cases h3 : l.length - A - 2 < num ((l.drop A).take 2)
      · rw [if_pos (.inr h3), if_neg h2, if_pos (by omega)]
        exact ⟨A + 2, rfl⟩
      · rw [if_neg (by intro k; exact k.elim h2 h3), if_neg h2, if_neg (by omega)]
        exact ⟨A + 2 + num ((l.drop A).take 2), by rw [List.drop_drop], by rw [List.drop_drop]; congr 1; omega, by omega, by omega⟩
  · rw [show fiR z l A 0 (szR l A) = ([], A, 0) from if_pos (.inr (Decidable.not_not.1 (fun k => h (hz.1 k))))]
    unfold p1
    rw [if_neg h]
    exact ⟨A, rfl, rfl, Nat.le_refl _, hA⟩
/-- Name and note. -/
theorem fi_two {F b : Nat} {z : Int} (hz : z ≠ 0 ↔ F / b % 2 = 1) (hA : A ≤ l.length) : match p2 b F (l.drop A) with
    | none => ∃ b, fiR z l A 0 (zeR l A) = ([], b, 2)
    | some (e, r) => ∃ b, fiR z l A 0 (zeR l A) = (e, b, 0) ∧ r = l.drop b ∧ A ≤ b ∧ b ≤ l.length := by
  by_cases h : F / b % 2 = 1
  · rw [show fiR z l A 0 (zeR l A) = zeR l A from if_neg (by intro k; exact k.elim (fun k => k rfl) (hz.2 h))]
    unfold p2
    rw [if_pos h]
    unfold zeR
    cases h1 : endQ (l.drop A) with
    | none => exact ⟨A, rfl⟩
    | some p =>
      obtain ⟨t, r⟩ := p
      have h2 := (endQ_some _ _ _ h1).1
      have h3 := congrArg List.length h2
      rw [List.length_drop, List.length_append, List.length_cons] at h3
      refine ⟨A + t.length + 1, rfl, ?_, by omega, by omega⟩
      have h4 : (l.drop A).drop (t.length + 1) = r := by
        rw [h2, List.drop_append, List.drop_of_length_le (by omega), Nat.add_sub_cancel_left]; rfl
      rw [List.drop_drop] at h4
      rw [← h4]; congr 1
  · rw [show fiR z l A 0 (zeR l A) = ([], A, 0) from if_pos (.inr (Decidable.not_not.1 (fun k => h (hz.1 k))))]
    unfold p2
    rw [if_neg h]
    exact ⟨A, rfl, rfl, Nat.le_refl _, hA⟩
end
theorem fi_err {z : Int} {l : List UInt8} {a : Nat} (r : List UInt8 × Nat × Int) : fiR z l a 2 r = ([], a, 2) := by unfold fiR; rw [if_pos (.inl (by decide))]
theorem sm_err {l : List UInt8} {b a : Nat} : smR l b a 2 = (a, 2) := by unfold smR; rw [if_pos (by decide)]
theorem num_one (x : UInt8) : num [x] = x.toNat := by simp [num]
theorem at_one {l : List UInt8} {a : Nat} (h : a < l.length) : num ((l.drop a).take 1) = ((l.drop a).getD 0 0).toNat := by
  rw [List.drop_eq_getElem_cons h]
  exact num_one _

/-- What is read, step by step. -/
structure Rd where
  t : Int
  v : Int
  o : Int
  e : List UInt8
  n : List UInt8
  c : List UInt8
  a : Nat
  x : Int
def chain (l : List UInt8) (b : Nat) (z4 z8 z16 : Int) (m : Bool) : Rd :=
  let r1 := nuR l (b + 4) 0 4
  let r2 := nuR l r1.2.1 r1.2.2 1
  let r3 := nuR l r2.2.1 r2.2.2 1
  let r4 := fiR z4 l r3.2.1 r3.2.2 (szR l r3.2.1)
  let r5 := fiR z8 l r4.2.1 r4.2.2 (zeR l r4.2.1)
  let r6 := fiR z16 l r5.2.1 r5.2.2 (zeR l r5.2.1)
  let r7 := if m = true then smR l b r6.2.1 r6.2.2 else (r6.2.1, r6.2.2)
  ⟨r1.1, r2.1, r3.1, r4.1, r5.1, r6.1, r7.1, r7.2⟩
theorem getD_drop (l : List UInt8) (b k : Nat) : (l.drop (b + k)).getD 0 0 = (l.drop b).getD k 0 := by
  simp only [List.getD_eq_getElem?_getD, List.getElem?_drop, Nat.add_zero]
/-- The steps come to what the bytes say. -/
theorem chain_is {l : List UInt8} {b F : Nat} {z4 z8 z16 : Int} {x m : Bool} {f : Int} (hl : b + 10 ≤ l.length) (h3 : (l.drop b).take 3 = [31, 139, 8]) (hF : ((l.drop b).getD 3 0).toNat = F) (h32 : F < 32)
    (h4 : z4 ≠ 0 ↔ F / 4 % 2 = 1) (h8 : z8 ≠ 0 ↔ F / 8 % 2 = 1) (h16 : z16 ≠ 0 ↔ F / 16 % 2 = 1) (hx : x = decide (F % 2 = 1)) (hm : m = decide (F / 2 % 2 = 1)) (hf : f = ((F / 4 * 4 : Nat) : Int)) :
    ∃ k, prsQ crl (l.drop b) = ((chain l b z4 z8 z16 m).x, (if (chain l b z4 z8 z16 m).x = 0 then ⟨(chain l b z4 z8 z16 m).t, (chain l b z4 z8 z16 m).e, (chain l b z4 z8 z16 m).n, (chain l b z4 z8 z16 m).c, (chain l b z4 z8 z16 m).v, (chain l b z4 z8 z16 m).o, x, m, f⟩ else zQ), k) ∧ ((chain l b z4 z8 z16 m).x = 0 → (chain l b z4 z8 z16 m).a = b + k) := by
  have e1 : nuR l (b + 4) 0 4 = (((num (((l.drop b).drop 4).take 4) : Nat) : Int), b + 8, 0) := by
    unfold nuR; rw [if_neg (by simp), if_neg (by omega), List.drop_drop]
  have e2 : nuR l (b + 8) 0 1 = (((((l.drop b).getD 8 0).toNat : Nat) : Int), b + 9, 0) := by
    unfold nuR; rw [if_neg (by simp), if_neg (by omega), at_one (by omega), getD_drop]
  have e3 : nuR l (b + 9) 0 1 = (((((l.drop b).getD 9 0).toNat : Nat) : Int), b + 10, 0) := by
    unfold nuR; rw [if_neg (by simp), if_neg (by omega), at_one (by omega), getD_drop]
  have hlen : (l.drop b).length = l.length - b := List.length_drop
  have g1 := fi_one (l := l) (A := b + 10) h4 (by omega)
  obtain ⟨T, hT⟩ : ∃ T : Int, T = ((num (((l.drop b).drop 4).take 4) : Nat) : Int) := ⟨_, rfl⟩
  obtain ⟨V, hV⟩ : ∃ V : Int, V = ((((l.drop b).getD 8 0).toNat : Nat) : Int) := ⟨_, rfl⟩
  obtain ⟨O, hO⟩ : ∃ O : Int, O = ((((l.drop b).getD 9 0).toNat : Nat) : Int) := ⟨_, rfl⟩
  rw [← hT] at e1; rw [← hV] at e2; rw [← hO] at e3
  have hp : prsQ crl (l.drop b) = match p1 F (l.drop (b + 10)) with
    | none => (2, zQ, 0)
    | some (e, r1) => match p2 8 F r1 with
      | none => (2, zQ, 0)
      | some (n, r2) => match p2 16 F r2 with
        | none => (2, zQ, 0)
        | some (c, r3) =>
          if F / 2 % 2 = 1 then
            (if r3.length < 2 then (2, zQ, 0) else if num (r3.take 2) ≠ crl ((l.drop b).take ((l.drop b).length - r3.length)) % 65536 then (5, zQ, 0) else (0, heQ F (l.drop b) e n c, (l.drop b).length - r3.length + 2))
          else (0, heQ F (l.drop b) e n c, (l.drop b).length - r3.length) := by
    unfold prsQ
    rw [if_neg (by omega), if_neg (fun k => k h3), hF, if_neg (by omega), List.drop_drop]
    rfl
  rw [hp]
  have hcm : ∀ b1, (if m = true then smR l b b1 2 else (b1, 2)) = (b1, 2) := fun b1 => by cases m <;> simp [sm_err]
  cases c1 : p1 F (l.drop (b + 10)) with
  | none =>
    rw [c1] at g1
    obtain ⟨b1, g1⟩ := g1
    have hc : chain l b z4 z8 z16 m = ⟨T, V, O, [], [], [], b1, 2⟩ := by unfold chain; simp only [e1, e2, e3, g1, fi_err, hcm]
    rw [hc]
    exact ⟨0, by simp, fun k => by simp at k⟩
  | some p =>
    obtain ⟨e, r1⟩ := p
    rw [c1] at g1
    obtain ⟨b1, g1, q1, q2, q3⟩ := g1
    have g2 := fi_two (l := l) (A := b1) h8 q3
    dsimp only
    rw [q1]
    cases c2 : p2 8 F (l.drop b1) with
    | none =>
      rw [c2] at g2
      obtain ⟨b2, g2⟩ := g2
      have hc : chain l b z4 z8 z16 m = ⟨T, V, O, e, [], [], b2, 2⟩ := by unfold chain; simp only [e1, e2, e3, g1, g2, fi_err, hcm]
      rw [hc]
      exact ⟨0, by simp, fun k => by simp at k⟩
    | some p =>
      obtain ⟨n, r2⟩ := p
      rw [c2] at g2
      obtain ⟨b2, g2, q4, q5, q6⟩ := g2
      have g3 := fi_two (l := l) (A := b2) h16 q6
      dsimp only
      rw [q4]
      cases c3 : p2 16 F (l.drop b2) with
      | none =>
        rw [c3] at g3
        obtain ⟨b3, g3⟩ := g3
        have hc : chain l b z4 z8 z16 m = ⟨T, V, O, e, n, [], b3, 2⟩ := by unfold chain; simp only [e1, e2, e3, g1, g2, g3, hcm]
        rw [hc]
        exact ⟨0, by simp, fun k => by simp at k⟩
      | some p =>
        obtain ⟨c, r3⟩ := p
        rw [c3] at g3
        obtain ⟨b3, g3, q7, q8, q9⟩ := g3
        dsimp only
        rw [q7]
        have hsub : (l.drop b).length - (l.drop b3).length = b3 - b := by rw [List.length_drop, List.length_drop]; omega
        have hh : heQ F (l.drop b) e n c = ⟨T, e, n, c, V, O, x, m, f⟩ := by unfold heQ; rw [hx, hm, hf, hT, hV, hO]
        rw [hsub, hh]
        by_cases hs : F / 2 % 2 = 1
        · have hm' : m = true := by rw [hm]; exact decide_eq_true hs
          rw [if_pos hs, List.length_drop]
          by_cases h2 : l.length - b3 < 2
          · have hc : chain l b z4 z8 z16 m = ⟨T, V, O, e, n, c, b3, 2⟩ := by
              unfold chain; simp only [e1, e2, e3, g1, g2, g3]
              rw [if_pos hm', show smR l b b3 0 = (b3, 2) by unfold smR; rw [if_neg (by simp), if_pos h2]]
            rw [hc, if_pos h2]
            exact ⟨0, by simp, fun k => by simp at k⟩
          · rw [if_neg h2]
            by_cases h5 : num ((l.drop b3).take 2) ≠ crl ((l.drop b).take (b3 - b)) % 65536
            · have hc : chain l b z4 z8 z16 m = ⟨T, V, O, e, n, c, b3 + 2, 5⟩ := by
                unfold chain; simp only [e1, e2, e3, g1, g2, g3]
                rw [if_pos hm', show smR l b b3 0 = (b3 + 2, 5) by unfold smR; rw [if_neg (by simp), if_neg h2, if_pos h5]]
              rw [hc, if_pos h5]
              exact ⟨0, by simp, fun k => by simp at k⟩
            · have hc : chain l b z4 z8 z16 m = ⟨T, V, O, e, n, c, b3 + 2, 0⟩ := by
                unfold chain; simp only [e1, e2, e3, g1, g2, g3]
                rw [if_pos hm', show smR l b b3 0 = (b3 + 2, 0) by unfold smR; rw [if_neg (by simp), if_neg h2, if_neg h5]]
              rw [hc, if_neg h5]
              exact ⟨b3 - b + 2, by simp, fun _ => by show b3 + 2 = _; omega⟩
        · have hm' : ¬ m = true := by rw [hm, decide_eq_false hs]; simp
          have hc : chain l b z4 z8 z16 m = ⟨T, V, O, e, n, c, b3, 0⟩ := by
            unfold chain; simp only [e1, e2, e3, g1, g2, g3]
            rw [if_neg hm']
          rw [hc, if_neg hs]
          exact ⟨b3 - b, by simp, fun _ => by show b3 = _; omega⟩
end Go.Proofs.Ytgilfjojimgpaaa.Qo
