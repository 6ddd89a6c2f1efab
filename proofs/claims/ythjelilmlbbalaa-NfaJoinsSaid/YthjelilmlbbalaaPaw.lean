/-
  The reference's Size, Makes and Few (layer 17).
  The reference's Few (layer 17): whether trees are light enough to be matched.
  Conditions: as each theorem says.
-/
import Derived.Test.YthjelilmlbbalaaPan
import Derived.Test.YthjelilmlbbalaaPau
import Derived.Test.YthjelilmlbbalaaPal
namespace Go.Proofs.Ythjelilmlbbalaa.Ak
open Go.RowKit Go.Proofs.Ythjelilmlbbalaa.Bw Go.Proofs.Ythjelilmlbbalaa.Na Go.Proofs.Ythjelilmlbbalaa.Tm Go.Proofs.Ythjelilmlbbalaa.Rm Go.Proofs.Ythjelilmlbbalaa.Rv Go.Proofs.Ythjelilmlbbalaa.Ra Go.Proofs.Ythjelilmlbbalaa.Rf Go.Proofs.Ythjelilmlbbalaa.Rg Go.Proofs.Ythjelilmlbbalaa.Rn Go.Proofs.Ythjelilmlbbalaa.Ap Go.Proofs.Ythjelilmlbbalaa.Aj Go.Proofs.Ythjelilmlbbalaa.Ay

/-- Nodes that are a right tree. -/
def isT (l : List Nd) : Prop := ∃ t, okT t ∧ l = enc t ∧ l.length ≤ 400
open Classical in
/-- The size of nodes; 0: they are no right tree. -/
noncomputable def szL (l : List Nd) : Nat := if h : isT l then szQ h.choose else 0
open Classical in
noncomputable def wtL (l : List Nd) : Nat := if h : isT l then wtQ h.choose else 0
noncomputable def szSum (L : List (List Nd)) : Nat := (L.map szL).sum
noncomputable def wtSum (L : List (List Nd)) : Nat := (L.map wtL).sum
theorem szL_le (l : List Nd) : szL l ≤ 1000000 := by
  unfold szL
  split
  · exact szQ_le _
  · omega
theorem wtL_le (l : List Nd) : wtL l ≤ 100000 := by
  unfold wtL
  split
  · exact wtQ_le _
  · omega
theorem check_two (l : List Nd) : checkI l = 0 ∨ checkI l = 4 := by
  unfold checkI
  split
  · exact .inl rfl
  · exact .inr rfl
theorem sets_of {w : World} {A : Option Addr} {l : List Nd} (h : nds w A l) : ∀ x ∈ l, isSet x.s := fun x hx => by
  obtain ⟨i, hi⟩ := List.mem_iff_getElem?.1 hx
  obtain ⟨b, off, _, _, hp⟩ := h i x hi
  exact hp.s
theorem check_isT {w : World} {A : Option Addr} {l : List Nd} (h : nds w A l) : checkI l = 0 ↔ isT l := by
  rw [checkI_iff (sets_of h)]
  exact ⟨fun ⟨a, t, b, c⟩ => ⟨t, b, c, a⟩, fun ⟨t, b, c, a⟩ => ⟨a, t, b, c⟩⟩
theorem sum_snoc {f : List Nd → Nat} {L : List (List Nd)} {i : Nat} {l : List Nd} (h : L[i]? = some l) : ((L.take (i + 1)).map f).sum = ((L.take i).map f).sum + f l := by
  rw [List.take_add_one, h]
  simp
theorem sum_le {f : List Nd → Nat} {B : Nat} (hf : ∀ l, f l ≤ B) : ∀ L : List (List Nd), (L.map f).sum ≤ B * L.length
  | [] => by simp
  | l :: L => by
    have h1 := hf l
    have h2 := sum_le hf L
    simp only [List.map_cons, List.sum_cons, List.length_cons]
    rw [Nat.mul_add, Nat.mul_one]
    omega
set_option maxRecDepth 100000 in
theorem rSize_any {A : Option Addr} {cap : Nat} {l : List Nd} (hl : l.length ≤ 1000000) {w : World} (H : Hid (nds w A l)) :
    Calls Try.prog 12 #[.slice A l.length cap] w fun e w' => e = .returned (.int .i64 (szL l : Int)) ∧ Below w.heap.size w w' := by
  have HC := Lib.hid (rCheck_any (cap := cap) hl H)
  rcases check_two l with h0 | h4
  · have ht := (check_isT H.out).1 h0
    have hz : szL l = szQ ht.choose := by unfold szL; rw [dif_pos ht]
    obtain ⟨h1, h2, h3⟩ := ht.choose_spec
    have HE : Hid (∀ w', Below w.heap.size w w' → Calls Try.prog 33 #[.slice A l.length cap, .int .i64 0] w' fun e w'' => e = .returned (.int .i64 (szL l : Int)) ∧ Below w'.heap.size w' w'') := Lib.hid (fun w' k => by
      rw [hz]
      exact rsize_all (by omega) _ ht.choose (Nat.le_refl _) h1 0 w' (H.out.below k) ⟨[], by rw [List.drop_zero, List.append_nil]; exact h2⟩)
    rw [h0] at HC
    obtain ⟨N, hN⟩ : ∃ N, N = l.length := ⟨_, rfl⟩
    obtain ⟨Z, hZ⟩ : ∃ Z : Int, Z = (szL l : Int) := ⟨_, rfl⟩
    rw [← hN] at HC HE ⊢
    rw [← hZ] at HE ⊢
    clear hN hZ hz h1 h2 h3 ht h0 hl
    go_enter Try.func12, Try.ntmps12
    go_wp2_with (first | (go_at_call 24; refine HC.out.mono ?_; rintro e w9 ⟨rfl, k9⟩; have K9 := Lib.hid k9; have HE9 := Lib.hid (HE.out w9 k9); clear k9) | (go_at_call 33; refine HE9.out.mono ?_; rintro e w8 ⟨rfl, k8⟩; have K8 := Lib.hid k8; clear k8))
    go_ret
    exact ⟨rfl, grows K9.out K8.out⟩
  · have hz : szL l = 0 := by
      unfold szL
      rw [dif_neg (fun k => by have := (check_isT H.out).2 k; omega)]
    rw [hz]
    rw [h4] at HC
    obtain ⟨N, hN⟩ : ∃ N, N = l.length := ⟨_, rfl⟩
    rw [← hN] at HC ⊢
    clear hN hz h4 hl
    go_enter Try.func12, Try.ntmps12
    go_wp2_with (go_at_call 24; refine HC.out.mono ?_; rintro e w9 ⟨rfl, k9⟩; have K9 := Lib.hid k9; clear k9)
    go_ret
    exact ⟨rfl, K9.out⟩
set_option maxRecDepth 100000 in
theorem rWeight_any {A : Option Addr} {cap : Nat} {l : List Nd} (h4 : l.length ≤ 500) (ht : isT l) {w : World} (H : Hid (nds w A l)) :
    Calls Try.prog 25 #[.slice A l.length cap, .int .i64 0] w fun e w' => e = .returned (.int .i64 (wtL l : Int)) ∧ Below w.heap.size w w' := by
  have hz : wtL l = wtQ ht.choose := by unfold wtL; rw [dif_pos ht]
  obtain ⟨h1, h2, h3⟩ := ht.choose_spec
  rw [hz]
  exact rWeight_all h4 _ ht.choose (Nat.le_refl _) h1 0 w H.out ⟨[], by rw [List.drop_zero, List.append_nil]; exact h2⟩
theorem ret2 {a b c d : Int} (h : a = c) (k : b = d) : Ending.returned (.tuple #[.int .i64 a, .int .i64 b]) = .returned (.tuple #[.int .i64 c, .int .i64 d]) := by rw [h, k]
/-- What Makes answers. -/
noncomputable def makesQ (L : List (List Nd)) : Int × Int := if L.length = 0 then (0, 17) else if 32 < L.length then (0, 3) else if ∃ l ∈ L, checkI l ≠ 0 then (0, 4) else if 3000 < 1 + szSum L then (0, 3) else (((1 + szSum L : Nat) : Int), 0)
set_option maxHeartbeats 2000000 in
set_option maxRecDepth 100000 in
theorem rMakes_any {A : Option Addr} {cap : Nat} {L : List (List Nd)} (hL : L.length ≤ 1000000) (hl : ∀ l ∈ L, l.length ≤ 1000000) {w : World} (H : Hid (ndr w A L)) :
    Calls Try.prog 10 #[.slice A L.length cap] w fun e w' => e = .returned (.tuple #[.int .i64 (makesQ L).1, .int .i64 (makesQ L).2]) ∧ Below w.heap.size w w' := by
  have HLL := Lib.hid hl
  obtain ⟨N, hN⟩ : ∃ N, N = L.length := ⟨_, rfl⟩
  have HN := Lib.hid hN
  obtain ⟨R1, hR1⟩ : ∃ R1, R1 = (makesQ L).1 := ⟨_, rfl⟩
  obtain ⟨R2, hR2⟩ : ∃ R2, R2 = (makesQ L).2 := ⟨_, rfl⟩
  have H1 := Lib.hid hR1
  have H2 := Lib.hid hR2
  rw [← hN, ← hR1, ← hR2]
  rw [← hN] at hL
  clear hl hN hR1 hR2
  by_cases h0 : N = 0
  · have h0' : ((N : Int) == 0) = true := by simp [h0]
    have HQ : Hid (R1 = 0 ∧ R2 = 17) := Lib.hid (by rw [H1.out, H2.out]; unfold makesQ; rw [if_pos (by rw [← HN.out]; exact h0)]; exact ⟨rfl, rfl⟩)
    clear h0
    go_enter Try.func10, Try.ntmps10
    go_wp2
    go_ret2
    exact ⟨ret2 HQ.out.1.symm HQ.out.2.symm, Below.refl _ _⟩
  · have h0' : ((N : Int) == 0) = false := by rw [beq_eq_false_iff_ne]; omega
    by_cases h3 : 32 < N
    · have h3' : (32 : Int) < (N : Int) := by omega
      have HQ : Hid (R1 = 0 ∧ R2 = 3) := Lib.hid (by rw [H1.out, H2.out]; unfold makesQ; rw [if_neg (by rw [← HN.out]; exact h0), if_pos (by rw [← HN.out]; exact h3)]; exact ⟨rfl, rfl⟩)
      clear h0 h3
      go_enter Try.func10, Try.ntmps10
      go_wp2
      go_ret2
      exact ⟨ret2 HQ.out.1.symm HQ.out.2.symm, Below.refl _ _⟩
    · have h3' : ¬ (32 : Int) < (N : Int) := by omega
      have HC0 := Lib.hid h0
      have HC3 := Lib.hid h3
      clear h0
      go_enter Try.func10, Try.ntmps10
      go_wp2
      go_loopw [4, 5] (fun s4 s5 wr => ∃ i S : Nat, s4 = .int .i64 (S : Int) ∧ s5 = .int .i64 (i : Int) ∧ i ≤ N ∧ S ≤ 1000000 * 33 ∧ Hid (S = 1 + ((L.take i).map szL).sum) ∧ Hid (∀ a l, a < i → L[a]? = some l → checkI l = 0) ∧ Hid (Below w.heap.size w wr)) (fun _ s5 _ => N - (intOf s5).toNat)
      case atStart => exact ⟨0, 1, rfl, rfl, by omega, by omega, Lib.hid (by simp), Lib.hid (fun a l ha => absurd ha (by omega)), Lib.hid (Below.refl _ _)⟩
      case round =>
        obtain ⟨i, S, rfl, rfl, hi, hS, HS, HA, HB⟩ := hrel
        by_cases hiN : i < N
        · have hiN' : (i : Int) < (N : Int) := by omega
          have hi0 : (0 : Int) ≤ (i : Int) := by omega
          have HIN := Lib.hid hiN
          obtain ⟨l, hl⟩ : ∃ l, L[i]? = some l := ⟨_, List.getElem?_eq_getElem (by rw [← HN.out]; exact hiN)⟩
          have HL := Lib.hid hl
          have hll := HLL.out l (List.mem_of_getElem? hl)
          obtain ⟨b, off, rfl, hb, A', c', hrow, _, hnd⟩ := (H.out.below HB.out) i l hl
          have HND := Lib.hid hnd
          have HCC := Lib.hid (rCheck_any (cap := c') hll HND)
          have HSZ : Hid (∀ u, Below wr.heap.size wr u → Calls Try.prog 12 #[.slice A' l.length c'] u fun e w' => e = .returned (.int .i64 (szL l : Int)) ∧ Below u.heap.size u w') := Lib.hid (fun u k => rSize_any hll (Lib.hid (hnd.below k)))
          obtain ⟨X, hX⟩ : ∃ X, X = l.length := ⟨_, rfl⟩
          rw [← hX] at hrow HCC HSZ
          have HRC := Lib.hid hrow
          have HBB := Lib.hid hb
          rcases check_two l with hc | hc
          · rw [hc] at HCC
            obtain ⟨z, hz⟩ : ∃ z, z = szL l := ⟨_, rfl⟩
            have hzb : z ≤ 1000000 := by rw [hz]; exact szL_le l
            have HNX : Hid (S + z = 1 + ((L.take (i + 1)).map szL).sum) := Lib.hid (by have h1 := sum_snoc (f := szL) hl; have h2 := HS.out; omega)
            have HNB : Hid (S + z ≤ 1000000 * 33) := Lib.hid (by
              have h1 := sum_le (f := szL) (B := 1000000) szL_le (L.take (i + 1))
              have h2 := HNX.out
              have h4 : (L.take (i + 1)).length ≤ 32 := by rw [List.length_take, ← HN.out]; omega
              have h5 : 1000000 * (L.take (i + 1)).length ≤ 1000000 * 32 := Nat.mul_le_mul_left _ h4
              omega)
            have HA' : Hid (∀ a l, a < i + 1 → L[a]? = some l → checkI l = 0) := Lib.hid (fun a l' ha hl' => by
              rcases (show a < i ∨ a = i by omega) with h | rfl
              · exact HA.out a l' h hl'
              · rw [HL.out] at hl'
                obtain rfl := Option.some.inj hl'
                exact hc)
            rw [← hz] at HSZ
            clear hz hc hl hnd hX hll hiN hb h3
            go_wp2_with (first | (go_at_call 24; refine HCC.out.mono ?_; rintro e w9 ⟨rfl, k9⟩; have K9 := Lib.hid k9; have q1 := (K9.out.cell (p := ⟨b, off + i, none⟩) HBB.out).trans HRC.out; clear k9 hrow) | (go_at_call 12; refine (HSZ.out _ K9.out).mono ?_; rintro e w8 ⟨rfl, k8⟩; have K8 := Lib.hid (grows K9.out k8); clear k8))
            go_roundw
            case rel => exact ⟨i + 1, S + z, by go_num, by go_num, by have := HIN.out; omega, HNB.out, HNX, HA', Lib.hid (grows HB.out K8.out)⟩
            case measure => have := HIN.out; simp [intOf]; omega
          · have HQ : Hid (R1 = 0 ∧ R2 = 4) := Lib.hid (by
              rw [H1.out, H2.out]
              unfold makesQ
              rw [if_neg (by rw [← HN.out]; exact HC0.out), if_neg (by rw [← HN.out]; exact HC3.out), if_pos ⟨l, List.mem_of_getElem? hl, by rw [hc]; decide⟩]
              exact ⟨rfl, rfl⟩)
            rw [hc] at HCC
            clear hc hl hnd hX hll hiN hb h3
            go_wp2_with (go_at_call 24; refine HCC.out.mono ?_; rintro e w9 ⟨rfl, k9⟩; have K9 := Lib.hid k9; clear k9)
            go_ret2
            exact ⟨ret2 HQ.out.1.symm HQ.out.2.symm, grows HB.out K9.out⟩
        · have hiN' : ¬ (i : Int) < (N : Int) := by omega
          have HSS : Hid (S = 1 + szSum L) := Lib.hid (by rw [HS.out, List.take_of_length_le (by rw [← HN.out]; omega)]; rfl)
          have HNO : Hid (¬ ∃ l ∈ L, checkI l ≠ 0) := Lib.hid (by
            rintro ⟨l, hl, hc⟩
            obtain ⟨a, ha⟩ := List.mem_iff_getElem?.1 hl
            exact hc (HA.out a l (by have := (List.getElem?_eq_some_iff.1 ha).1; have := HN.out; omega) ha))
          clear hiN h3
          by_cases hb : 3000 < S
          · have hb' : (3000 : Int) < (S : Int) := by omega
            have HQ : Hid (R1 = 0 ∧ R2 = 3) := Lib.hid (by
              rw [H1.out, H2.out]
              unfold makesQ
              rw [if_neg (by rw [← HN.out]; exact HC0.out), if_neg (by rw [← HN.out]; exact HC3.out), if_neg HNO.out, if_pos (by rw [← HSS.out]; exact hb)]
              exact ⟨rfl, rfl⟩)
            clear hb
            go_wp2
            go_ret2
            exact ⟨ret2 HQ.out.1.symm HQ.out.2.symm, HB.out⟩
          · have hb' : ¬ (3000 : Int) < (S : Int) := by omega
            have HQ : Hid (R1 = (S : Int) ∧ R2 = 0) := Lib.hid (by
              rw [H1.out, H2.out]
              unfold makesQ
              rw [if_neg (by rw [← HN.out]; exact HC0.out), if_neg (by rw [← HN.out]; exact HC3.out), if_neg HNO.out, if_neg (by rw [← HSS.out]; exact hb), ← HSS.out]
              exact ⟨rfl, rfl⟩)
            clear hb
            go_wp2
            go_ret2
            exact ⟨ret2 HQ.out.1.symm HQ.out.2.symm, HB.out⟩
end Go.Proofs.Ythjelilmlbbalaa.Ak
namespace Go.Proofs.Ythjelilmlbbalaa.Al
open Go.RowKit Go.Proofs.Ythjelilmlbbalaa.Bw Go.Proofs.Ythjelilmlbbalaa.Na Go.Proofs.Ythjelilmlbbalaa.Tm Go.Proofs.Ythjelilmlbbalaa.Rm Go.Proofs.Ythjelilmlbbalaa.Rv Go.Proofs.Ythjelilmlbbalaa.Ra Go.Proofs.Ythjelilmlbbalaa.Rf Go.Proofs.Ythjelilmlbbalaa.Rg Go.Proofs.Ythjelilmlbbalaa.Rn Go.Proofs.Ythjelilmlbbalaa.Ap Go.Proofs.Ythjelilmlbbalaa.Aj Go.Proofs.Ythjelilmlbbalaa.Ay Go.Proofs.Ythjelilmlbbalaa.Ak

/-- What Few answers: yes only where there are few. -/
def ansF (L : List (List Nd)) (most : Nat) (w : World) (e : Ending) (w' : World) : Prop := ∃ b, e = .returned (.bool b) ∧ (b = true → L.length ≤ 40 ∧ (∀ l ∈ L, l.length ≤ 500) ∧ wtSum L ≤ most) ∧ Below w.heap.size w w'
theorem no_few {p : Prop} : false = true → p := fun h => by cases h
set_option maxHeartbeats 2000000 in
set_option maxRecDepth 100000 in
theorem rFew_any {A : Option Addr} {cap most : Nat} {L : List (List Nd)} {w : World} (H : Hid (ndr w A L)) :
    Calls Try.prog 7 #[.slice A L.length cap, .int .i64 (most : Int)] w fun e w' => ansF L most w e w' := by
  obtain ⟨N, hN⟩ : ∃ N, N = L.length := ⟨_, rfl⟩
  have HN := Lib.hid hN
  rw [← hN]
  clear hN
  by_cases h3 : 40 < N
  · have h3' : (40 : Int) < (N : Int) := by omega
    clear h3
    go_enter Try.func7, Try.ntmps7
    go_wp2
    go_ret
    exact ⟨_, rfl, no_few, Below.refl _ _⟩
  · have h3' : ¬ (40 : Int) < (N : Int) := by omega
    have hN40 : N ≤ 40 := by omega
    clear h3
    go_enter Try.func7, Try.ntmps7
    go_wp2
    go_loopw [5, 6] (fun s5 s6 wr => ∃ i S : Nat, s5 = .int .i64 (S : Int) ∧ s6 = .int .i64 (i : Int) ∧ i ≤ N ∧ S ≤ 100000 * 40 ∧ Hid (S = ((L.take i).map wtL).sum) ∧ Hid (∀ a l, a < i → L[a]? = some l → l.length ≤ 500) ∧ Hid (Below w.heap.size w wr)) (fun _ s6 _ => N - (intOf s6).toNat)
    case atStart => exact ⟨0, 0, rfl, rfl, by omega, by omega, Lib.hid (by simp), Lib.hid (fun a l ha => absurd ha (by omega)), Lib.hid (Below.refl _ _)⟩
    case round =>
      obtain ⟨i, S, rfl, rfl, hi, hS, HS, HA, HB⟩ := hrel
      by_cases hiN : i < N
      · have hiN' : (i : Int) < (N : Int) := by omega
        have hi0 : (0 : Int) ≤ (i : Int) := by omega
        have HIN := Lib.hid hiN
        obtain ⟨l, hl⟩ : ∃ l, L[i]? = some l := ⟨_, List.getElem?_eq_getElem (by rw [← HN.out]; exact hiN)⟩
        have HL := Lib.hid hl
        obtain ⟨b, off, rfl, hb, A', c', hrow, _, hnd⟩ := (H.out.below HB.out) i l hl
        have HND := Lib.hid hnd
        obtain ⟨X, hX⟩ : ∃ X, X = l.length := ⟨_, rfl⟩
        have HX := Lib.hid hX
        rw [← hX] at hrow
        have HRC := Lib.hid hrow
        have HBB := Lib.hid hb
        by_cases h5 : 500 < X
        · have h5' : (500 : Int) < (X : Int) := by omega
          clear h5 hl hnd hX hiN hb
          go_wp2
          go_ret
          exact ⟨_, rfl, no_few, HB.out⟩
        · have h5' : ¬ (500 : Int) < (X : Int) := by omega
          have H5 : Hid (l.length ≤ 500) := Lib.hid (by rw [← hX]; omega)
          have HCC := Lib.hid (rCheck_any (cap := c') (show l.length ≤ 1000000 by have := H5.out; omega) HND)
          rw [← hX] at HCC
          have HA' : Hid (∀ a l, a < i + 1 → L[a]? = some l → l.length ≤ 500) := Lib.hid (fun a l' ha hl' => by
            rcases (show a < i ∨ a = i by omega) with h | rfl
            · exact HA.out a l' h hl'
            · rw [HL.out] at hl'
              obtain rfl := Option.some.inj hl'
              exact H5.out)
          have HNX : Hid (S + wtL l = ((L.take (i + 1)).map wtL).sum) := Lib.hid (by have h1 := sum_snoc (f := wtL) hl; have h2 := HS.out; omega)
          have HNB : Hid (S + wtL l ≤ 100000 * 40) := Lib.hid (by
            have h1 := sum_le (f := wtL) (B := 100000) wtL_le (L.take (i + 1))
            have h2 := HNX.out
            have h4 : (L.take (i + 1)).length ≤ 40 := by rw [List.length_take, ← HN.out]; omega
            have h6 : 100000 * (L.take (i + 1)).length ≤ 100000 * 40 := Nat.mul_le_mul_left _ h4
            omega)
          rcases check_two l with hc | hc
          · have ht := (check_isT hnd).1 hc
            have HWT : Hid (∀ u, Below wr.heap.size wr u → Calls Try.prog 25 #[.slice A' l.length c', .int .i64 0] u fun e w' => e = .returned (.int .i64 (wtL l : Int)) ∧ Below u.heap.size u w') := Lib.hid (fun u k => rWeight_any H5.out ht (Lib.hid (hnd.below k)))
            rw [hc] at HCC
            rw [← hX] at HWT
            obtain ⟨z, hz⟩ : ∃ z, z = wtL l := ⟨_, rfl⟩
            have hzb : z ≤ 100000 := by rw [hz]; exact wtL_le l
            rw [← hz] at HWT HNX HNB
            clear hz hc hl hnd hX hiN hb h5 ht
            go_wp2_with (first | (go_at_call 24; refine HCC.out.mono ?_; rintro e w9 ⟨rfl, k9⟩; have K9 := Lib.hid k9; have q1 := (K9.out.cell (p := ⟨b, off + i, none⟩) HBB.out).trans HRC.out; clear k9 hrow) | (go_at_call 25; refine (HWT.out _ K9.out).mono ?_; rintro e w8 ⟨rfl, k8⟩; have K8 := Lib.hid (grows K9.out k8); clear k8))
            go_roundw
            case rel => exact ⟨i + 1, S + z, by go_num, by go_num, by have := HIN.out; omega, HNB.out, HNX, HA', Lib.hid (grows HB.out K8.out)⟩
            case measure => have := HIN.out; simp [intOf]; omega
          · have hw0 : wtL l = 0 := by unfold wtL; rw [dif_neg (fun k => by have := (check_isT hnd).2 k; omega)]
            rw [hw0] at HNX HNB
            rw [hc] at HCC
            clear hc hl hnd hX hiN hb h5 hw0
            go_wp2_with (go_at_call 24; refine HCC.out.mono ?_; rintro e w9 ⟨rfl, k9⟩; have K9 := Lib.hid k9; clear k9)
            go_roundw
            case rel => exact ⟨i + 1, S, rfl, by go_num, by have := HIN.out; omega, HNB.out, HNX, HA', Lib.hid (grows HB.out K9.out)⟩
            case measure => have := HIN.out; simp [intOf]; omega
      · have hiN' : ¬ (i : Int) < (N : Int) := by omega
        have HSS : Hid (S = wtSum L) := Lib.hid (by rw [HS.out, List.take_of_length_le (by rw [← HN.out]; omega)]; rfl)
        have HR : Hid (L.length ≤ 40 ∧ ∀ l ∈ L, l.length ≤ 500) := Lib.hid ⟨by rw [← HN.out]; exact hN40, fun l hl => by
          obtain ⟨a, ha⟩ := List.mem_iff_getElem?.1 hl
          exact HA.out a l (by have := (List.getElem?_eq_some_iff.1 ha).1; have := HN.out; omega) ha⟩
        clear hiN
        go_wp2
        go_ret
        exact ⟨_, rfl, fun h => ⟨HR.out.1, HR.out.2, by rw [← HSS.out]; have h1 := of_decide_eq_true h; omega⟩, HB.out⟩
end Go.Proofs.Ythjelilmlbbalaa.Al
