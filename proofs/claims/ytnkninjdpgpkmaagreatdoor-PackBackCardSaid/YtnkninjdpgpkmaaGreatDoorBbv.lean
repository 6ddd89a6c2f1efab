/-
  The parts of a text that was split, in numbers: nothing is wrong of them, they stand for the text, and what is inflated of them is the text.
  Conditions: as each theorem says.
-/
import Derived.Test.YtnkninjdpgpkmaaGreatDoorBbk
import Derived.Test.YtnkninjdpgpkmaaGreatDoorBbm
import Derived.Test.YtnkninjdpgpkmaaGreatDoorBbu
namespace Go.Proofs.YtnkninjdpgpkmaaGreatDoor.Hu
open Go.Proofs.YtnkninjdpgpkmaaGreatDoor.Bm Go.Proofs.YtnkninjdpgpkmaaGreatDoor.Nm Go.Proofs.YtnkninjdpgpkmaaGreatDoor.Ni Go.Proofs.YtnkninjdpgpkmaaGreatDoor.Ne Go.Proofs.YtnkninjdpgpkmaaGreatDoor.Nh Go.Proofs.YtnkninjdpgpkmaaGreatDoor.Pm Go.Proofs.YtnkninjdpgpkmaaGreatDoor.Km Go.Proofs.YtnkninjdpgpkmaaGreatDoor.Kw Go.Proofs.YtnkninjdpgpkmaaGreatDoor.Ks Go.Proofs.YtnkninjdpgpkmaaGreatDoor.Sm Go.Proofs.YtnkninjdpgpkmaaGreatDoor.Fm Go.Proofs.YtnkninjdpgpkmaaGreatDoor.Fa Go.Proofs.YtnkninjdpgpkmaaGreatDoor.Gm Go.Proofs.YtnkninjdpgpkmaaGreatDoor.Ga Go.Proofs.YtnkninjdpgpkmaaGreatDoor.Gr Go.Proofs.YtnkninjdpgpkmaaGreatDoor.Gp Go.Proofs.YtnkninjdpgpkmaaGreatDoor.Hm Go.Proofs.YtnkninjdpgpkmaaGreatDoor.Hv Go.Proofs.YtnkninjdpgpkmaaGreatDoor.Hs Go.Proofs.YtnkninjdpgpkmaaGreatDoor.Im

theorem has_fixL {y : Nat} (h : y < 288) : has fixL y := by
  have e : ∀ y : Fin 288, has fixL y.1 := by decide +kernel
  exact e ⟨y, h⟩
theorem has_fixD {y : Nat} (h : y < 32) : has fixD y := by
  have e : ∀ y : Fin 32, has fixD y.1 := by decide +kernel
  exact e ⟨y, h⟩
theorem hasO_fix (o : Opx) : hasO fixL fixD o := by
  unfold hasO
  split
  · exact has_fixL (by have := o.x.toNat_lt; omega)
  · exact ⟨has_fixL (by have := lS_le o.n; omega), has_fixD (by have := dS_le o.d; omega)⟩
theorem opsE_fix : ∀ os : List Opx, opsE fixL fixD os = 0
  | [] => by unfold opsE; rw [if_pos (has_fixL (by decide))]
  | o :: r => by unfold opsE; rw [if_pos (hasO_fix o)]; exact opsE_fix r
/-- One part. -/
theorem part_of {p : Pc} {i : Nat} {x : List UInt8} (h : p.sp = sp i x) (hx : x.length ≤ 65535) (b : List UInt8) :
    ptT b p.pz = (0, b ++ x) ∧ ptE p.pz = 0 ∧ ptC p.pz ≤ 2 * x.length ∧ ptB p.pz ≤ 1415 + 56 * x.length ∧ p.pz.os.length ≤ x.length := by
  unfold sp Pc.sp at h
  by_cases hi : i % 2 = 0
  · rw [if_pos hi] at h
    injection h with h1 h2 h3
    have hl : p.t.size = x.length := by rw [← h2]; exact Array.length_toList.symm
    have e1 : p.pz.k = 0 := by show (p.k : Int) = 0; omega
    have e2 : p.pz.os = [] := by show p.os.map Opx.int = []; rw [h3]; rfl
    have e3 : p.pz.t = p.t := rfl
    refine ⟨?_, ?_, ?_, ?_, by rw [e2]; simp⟩
    · unfold ptT
      rw [e1, if_neg (by rw [e3, hl]; omega), if_pos rfl, e3, h2]
    · unfold ptE
      rw [e1, e3, hl]
      have : wrM 0 ((x.length : Nat) : Int) p.pz.n1 p.pz.f1 p.pz.n2 p.pz.f2 = 0 := by unfold wrM; rw [if_neg (by omega), if_neg (by decide)]
      rw [if_neg (by rw [this]; simp), if_pos rfl]
    · unfold ptC; rw [e2, e3, hl]; simp [opsC]; omega
    · unfold ptB opsB
      have e4 : p.pz.pt.ops = [] := by show p.pz.os.map Opi.nat = []; rw [e2]; rfl
      rw [e4, e3, hl]; simp; omega
  · rw [if_neg hi] at h
    injection h with h1 h2 h3
    have hl : p.t.size = 0 := by
      have : p.t.data.toList.length = p.t.size := Array.length_toList
      rw [← this, h2]; rfl
    have e1 : p.pz.k = 1 := by show (p.k : Int) = 1; omega
    have e2 : p.pz.os = (opsM x 0).map Opx.int := by show p.os.map Opx.int = _; rw [h3]
    have e3 : p.pz.t = p.t := rfl
    have e4 : p.pz.pt.ops = opsM x 0 := by show p.pz.os.map Opi.nat = _; rw [e2, map_int_nat]
    have hmk := opsM_make x b x.length 0 (by omega) (Nat.zero_le _)
    rw [List.take_zero, List.append_nil, List.drop_zero] at hmk
    obtain ⟨m1, m2, m3⟩ := hmk
    obtain ⟨c1, c2⟩ := opsC_of _ b m2
    rw [m1] at c1 c2
    refine ⟨?_, ?_, ?_, ?_, by rw [e2, List.length_map]; omega⟩
    · unfold ptT
      rw [e1, if_neg (by omega), if_neg (by decide), e2, opsT_of _ b m2, m1]
    · unfold ptE
      rw [e1, e3]
      have : wrM 1 ((p.t.size : Nat) : Int) p.pz.n1 p.pz.f1 p.pz.n2 p.pz.f2 = 0 := by unfold wrM; rw [if_neg (by omega), if_neg (by decide)]
      rw [if_neg (by rw [this]; simp), if_neg (by decide)]
      have e5 : p.pz.pt.kind = 1 := by show p.pz.k.toNat = 1; rw [e1]; rfl
      unfold lis dis
      rw [if_pos e5, if_pos e5]
      exact opsE_fix _
    · unfold ptC; rw [e2, e3, hl]; omega
    · unfold ptB opsB
      rw [e4, e3, hl]; omega
/-- The bytes of pieces. -/
def pcT (l : List UInt8) (Q : List (Nat × Nat)) : List UInt8 := Q.flatMap (fun x => (l.drop x.1).take x.2)
theorem parts_of {l : List UInt8} : ∀ (Q : List (Nat × Nat)) (i : Nat) (b : List UInt8) (L : List Pc), L.map Pc.sp = partsOf l i Q → (∀ x ∈ Q, x.2 ≤ 65535) →
    ptsT b (L.map Pc.pz) = (0, b ++ pcT l Q) ∧ ptsE (L.map Pc.pz) = 0 ∧ ptsC (L.map Pc.pz) ≤ 2 * (pcT l Q).length ∧ ptsB (L.map Pc.pz) ≤ 1415 * L.length + 56 * (pcT l Q).length ∧ (∀ p ∈ L.map Pc.pz, p.os.length ≤ (pcT l Q).length)
  | [], i, b, L, h, _ => by
    have : L = [] := by simpa [partsOf] using h
    subst this
    exact ⟨by simp [ptsT, pcT], rfl, by simp [ptsC], by simp [ptsB], fun p hp => by cases hp⟩
  | x :: Q, i, b, [], h, _ => by simp [partsOf] at h
  | x :: Q, i, b, p :: L, h, hx => by
    rw [List.map_cons, partsOf] at h
    injection h with h1 h2
    have hl : ((l.drop x.1).take x.2).length ≤ 65535 := by rw [List.length_take]; have := hx x (List.mem_cons_self ..); omega
    obtain ⟨a1, a2, a3, a4, a5⟩ := part_of h1 hl b
    obtain ⟨b1, b2, b3, b4, b5⟩ := parts_of Q (i + 1) (b ++ (l.drop x.1).take x.2) L h2 (fun y hy => hx y (List.mem_cons_of_mem _ hy))
    have e : pcT l (x :: Q) = (l.drop x.1).take x.2 ++ pcT l Q := by simp [pcT]
    rw [e, List.length_append]
    refine ⟨?_, ?_, ?_, ?_, ?_⟩
    · simp only [List.map_cons, ptsT]
      rw [a1, if_pos rfl, b1, List.append_assoc]
    · rw [List.map_cons, ptsE_cons, if_pos a2]; exact b2
    · simp only [List.map_cons, ptsC]; omega
    · simp only [List.map_cons, ptsB, List.length_cons]; omega
    · intro q hq
      rw [List.map_cons] at hq
      rcases List.mem_cons.1 hq with rfl | hq
      · omega
      · have := b5 q hq; omega
theorem pcsF_small (n : Nat) : ∀ f off m, m ≤ n + f * n → ∀ x ∈ pcsF n f off m, x.2 ≤ n
  | 0, off, m, hm, x, hx => by
    simp only [pcsF, List.mem_singleton] at hx
    subst hx; show m ≤ n; omega
  | f + 1, off, m, hm, x, hx => by
    rw [pcsF] at hx
    by_cases h : n < m
    · rw [if_pos h] at hx
      rcases List.mem_cons.1 hx with rfl | hx
      · exact Nat.le_refl _
      · exact pcsF_small n f (off + n) (m - n) (by rw [Nat.succ_mul] at hm; omega) x hx
    · rw [if_neg h] at hx
      simp only [List.mem_singleton] at hx
      subst hx; show m ≤ n; omega
theorem pcsF_join (l : List UInt8) (n : Nat) : ∀ f off m, pcT l (pcsF n f off m) = (l.drop off).take m
  | 0, off, m => by simp [pcT, pcsF]
  | f + 1, off, m => by
    rw [pcsF]
    by_cases h : n < m
    · rw [if_pos h]
      have e : pcT l ((off, n) :: pcsF n f (off + n) (m - n)) = (l.drop off).take n ++ pcT l (pcsF n f (off + n) (m - n)) := by simp [pcT]
      rw [e, pcsF_join l n f, ← List.drop_drop]
      have : m = n + (m - n) := by omega
      rw [this, List.take_add, show n + (m - n) - n = m - n by omega]
    · rw [if_neg h]; simp [pcT]
/-- A text that was split. -/
theorem split_of {s : ByteArray} {z : Int} {L : List Pc} (hs : s.size ≤ 10000) (h : L.map Pc.sp = partsOf s.data.toList 0 (pcs (pn z) s.size)) :
    L.map Pc.pz ≠ [] ∧ ptsT [] (L.map Pc.pz) = (0, s.data.toList) ∧ ptsE (L.map Pc.pz) = 0 ∧ ptsC (L.map Pc.pz) ≤ 20000 ∧ ptsB (L.map Pc.pz) ≤ 1415 * (s.size + 1) + 56 * s.size ∧ (∀ p ∈ L.map Pc.pz, p.os.length ≤ 10000) ∧ (L.map Pc.pz).length ≤ 10001 := by
  have hz := pn_le z
  have e : pcT s.data.toList (pcs (pn z) s.size) = s.data.toList := by
    unfold pcs
    rw [pcsF_join, List.drop_zero, List.take_of_length_le (by rw [Array.length_toList]; exact Nat.le_refl _)]
  have hl : s.data.toList.length = s.size := Array.length_toList
  have h1 := parts_of _ 0 [] L h (fun x hx => by
    have := pcsF_small (pn z) s.size 0 s.size (by have := Nat.le_mul_of_pos_right s.size hz.1; omega) x hx
    omega)
  rw [e, hl, List.nil_append] at h1
  obtain ⟨a1, a2, a3, a4, a5⟩ := h1
  have hn : L.length = (pcs (pn z) s.size).length := by
    have h2 := congrArg List.length h
    rw [List.length_map] at h2
    have : ∀ (Q : List (Nat × Nat)) i, (partsOf s.data.toList i Q).length = Q.length := fun Q => by
      induction Q with
      | nil => intro i; rfl
      | cons x Q ih => intro i; simp [partsOf, ih]
    rw [h2, this]
  have h3 := pcsF_len (pn z) s.size 0 s.size
  have h4 := pcsF_pos (pn z) s.size 0 s.size
  unfold pcs at hn
  refine ⟨fun h0 => ?_, a1, a2, by omega, by omega, fun p hp => by have := a5 p hp; omega, by rw [List.length_map]; omega⟩
  have : (L.map Pc.pz).length = 0 := by rw [h0]; rfl
  rw [List.length_map] at this
  omega
/-- What is inflated of it. -/
theorem split_all {s S : ByteArray} {z : Int} {L : List Pc} (hs : s.size ≤ 10000) (h : L.map Pc.sp = partsOf s.data.toList 0 (pcs (pn z) s.size)) (hS : holds S (encPs ((L.map Pc.pz).map Pz.pt) 0)) (hSz : S.size ≤ 1000000) :
    limM (num S.data.toList) S.size 0 [] ∧ (allM (num S.data.toList) (8 * S.size) 0 [] 0).1 = 0 ∧ (allM (num S.data.toList) (8 * S.size) 0 [] 0).2.2.2 = s.data.toList := by
  obtain ⟨h1, h2, h3, h4, h5, h6, h7⟩ := split_of hs h
  obtain ⟨a1, a2, a3, a4⟩ := all_of h1 (by rw [h2]) h3 hS
  rw [h2] at a4
  have hl : s.data.toList.length = s.size := Array.length_toList
  exact ⟨⟨hSz, by rw [a4]; show s.data.toList.length ≤ _; omega, by rw [a2]; omega⟩, a1, a4⟩
theorem split_enc {s : ByteArray} {z : Int} {L : List Pc} (hs : s.size ≤ 10000) (h : L.map Pc.sp = partsOf s.data.toList 0 (pcs (pn z) s.size)) : encE (L.map Pc.pz) = 0 ∧ textM (L.map Pc.pz) = (0, s.data.toList) := by
  obtain ⟨h1, h2, h3, _⟩ := split_of hs h
  have e : textM (L.map Pc.pz) = (0, s.data.toList) := by rw [textM_cons h1, h2, if_pos rfl]
  exact ⟨by unfold encE; rw [e, if_neg (fun h => h rfl)]; exact h3, e⟩
end Go.Proofs.YtnkninjdpgpkmaaGreatDoor.Hu
