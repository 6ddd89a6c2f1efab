/-
  Layer 17: a rule is told of its tree alone just where it is told together; how far a list of rules is gone through.
-/
import Derived.Test.YthjelilmlbbalaaPba
namespace Go.Proofs.Ythjelilmlbbalaa.Or
open Go.RowKit Go.Proofs.Ythjelilmlbbalaa.Vm Go.Proofs.Ythjelilmlbbalaa.Vo Go.Proofs.Ythjelilmlbbalaa.Bw Go.Proofs.Ythjelilmlbbalaa.Na Go.Proofs.Ythjelilmlbbalaa.Ko Go.Proofs.Ythjelilmlbbalaa.Tm Go.Proofs.Ythjelilmlbbalaa.Rs Go.Proofs.Ythjelilmlbbalaa.Rm Go.Proofs.Ythjelilmlbbalaa.Rv Go.Proofs.Ythjelilmlbbalaa.Ra Go.Proofs.Ythjelilmlbbalaa.Rn Go.Proofs.Ythjelilmlbbalaa.An Go.Proofs.Ythjelilmlbbalaa.Aa Go.Proofs.Ythjelilmlbbalaa.Ab Go.Proofs.Ythjelilmlbbalaa.Ac Go.Proofs.Ythjelilmlbbalaa.Ad Go.Proofs.Ythjelilmlbbalaa.Ae Go.Proofs.Ythjelilmlbbalaa.As Go.Proofs.Ythjelilmlbbalaa.Aw Go.Proofs.Ythjelilmlbbalaa.Ax Go.Proofs.Ythjelilmlbbalaa.Ap Go.Proofs.Ythjelilmlbbalaa.Ao Go.Proofs.Ythjelilmlbbalaa.Ak Go.Proofs.Ythjelilmlbbalaa.Ay Go.Proofs.Ythjelilmlbbalaa.Rg Go.Proofs.Ythjelilmlbbalaa.Dm Go.Proofs.Ythjelilmlbbalaa.Dn Go.Proofs.Ythjelilmlbbalaa.Dw Go.Proofs.Ythjelilmlbbalaa.Dx Go.Proofs.Ythjelilmlbbalaa.Oa Go.Proofs.Ythjelilmlbbalaa.Oe Go.Proofs.Ythjelilmlbbalaa.Of Go.Proofs.Ythjelilmlbbalaa.Ol Go.Proofs.Ythjelilmlbbalaa.On Go.Proofs.Ythjelilmlbbalaa.Op Go.Proofs.Ythjelilmlbbalaa.Oq

/-- The first a numbers of C lie below i, the others do not. -/
structure gone (C : List Int) (a i : Nat) : Prop where
  lo : ∀ j x, j < a → C[j]? = some x → x < (i : Int)
  hi : ∀ j x, a ≤ j → C[j]? = some x → (i : Int) ≤ x
  le : a ≤ C.length
theorem gone_zero {C : List Int} {P : Nat → Prop} (h : isL C P) : gone C 0 0 :=
  ⟨fun j x hj => by omega, fun j x _ hx => by obtain ⟨q, rfl, _⟩ := (h.m x).1 (List.mem_of_getElem? hx); omega, Nat.zero_le _⟩
theorem asc_at : ∀ {C : List Int}, asc C → ∀ {j k : Nat} {x y : Int}, j < k → C[j]? = some x → C[k]? = some y → x < y
  | [], _, j, k, x, y, _, h, _ => by simp at h
  | c :: C, h, 0, k + 1, x, y, _, hx, hy => by
    obtain rfl := Option.some.inj hx
    exact h.1 y (List.mem_of_getElem? (by simpa using hy))
  | c :: C, h, j + 1, k + 1, x, y, hjk, hx, hy => asc_at (j := j) (k := k) h.2 (by omega) (by simpa using hx) (by simpa using hy)
theorem gone.yes {C : List Int} {P : Nat → Prop} {a i : Nat} (g : gone C a i) (h : isL C P) (ha : C[a]? = some (i : Int)) : P i ∧ gone C (a + 1) (i + 1) := by
  have hl := (List.getElem?_eq_some_iff.1 ha).1
  refine ⟨(h.mem i).1 (List.mem_of_getElem? ha), fun j x hj hx => ?_, fun j x hj hx => ?_, by omega⟩
  · by_cases e : j = a
    · rw [e, ha] at hx
      have := Option.some.inj hx
      omega
    · have := g.lo j x (by omega) hx
      omega
  · have := asc_at h.a (show a < j by omega) ha hx
    omega
theorem gone.no {C : List Int} {P : Nat → Prop} {a i : Nat} (g : gone C a i) (h : isL C P) (ha : C[a]? ≠ some (i : Int)) : ¬ P i ∧ gone C a (i + 1) := by
  have hn : ∀ j, C[j]? ≠ some (i : Int) := fun j hj => by
    by_cases h1 : j < a
    · have := g.lo j _ h1 hj
      omega
    · by_cases h2 : j = a
      · exact ha (h2 ▸ hj)
      · have hl := (List.getElem?_eq_some_iff.1 hj).1
        obtain ⟨y, hy⟩ : ∃ y, C[a]? = some y := ⟨_, List.getElem?_eq_getElem (by omega)⟩
        have h3 := g.hi a y (Nat.le_refl _) hy
        have h4 := asc_at h.a (show a < j by omega) hy hj
        omega
  refine ⟨fun hp => ?_, fun j x hj hx => ?_, fun j x hj hx => ?_, g.le⟩
  · obtain ⟨j, hj⟩ := List.mem_iff_getElem?.1 ((h.mem i).2 hp)
    exact hn j hj
  · have := g.lo j x hj hx
    omega
  · have h1 := g.hi j x hj hx
    have : x ≠ (i : Int) := fun e => hn j (e ▸ hx)
    omega
theorem gone.end {C : List Int} {P : Nat → Prop} {a n : Nat} (g : gone C a n) (h : isL C P) (hP : ∀ r, P r → r < n) : a = C.length := by
  have hle := g.le
  by_cases e : a = C.length
  · exact e
  · obtain ⟨y, hy⟩ : ∃ y, C[a]? = some y := ⟨_, List.getElem?_eq_getElem (by omega)⟩
    have h1 := g.hi a y (Nat.le_refl _) hy
    obtain ⟨q, rfl, hq⟩ := (h.m y).1 (List.mem_of_getElem? hy)
    have := hP q hq
    omega
theorem le_sz : ∀ {L : List (List Nd)} {l : List Nd}, l ∈ L → szL l ≤ (L.map szL).sum
  | x :: L, l, h => by
    rcases List.mem_cons.1 h with rfl | h
    · simp
    · have := le_sz h
      simp only [List.map_cons, List.sum_cons]
      omega
/-- One of the trees alone. -/
theorem mk_one {L : List (List Nd)} (h : mkOk L) {i : Nat} {l : List Nd} (hl : L[i]? = some l) : mkOk [l] := by
  have hm := List.mem_of_getElem? hl
  refine ⟨by simp, by simp, fun x hx => ?_, ?_⟩
  · obtain rfl := List.mem_singleton.1 hx
    exact h.t _ hm
  · have h1 := h.s
    have h2 : szL l ≤ szSum L := le_sz hm
    unfold szSum
    simp
    omega
theorem trs_one {L : List (List Nd)} {i : Nat} {l : List Nd} (hl : L[i]? = some l) : ∃ t, trs [l] = [t] ∧ (trs L)[i]? = some t := by
  unfold trs
  refine ⟨_, rfl, ?_⟩
  rw [List.getElem?_map, hl]
  rfl
theorem makes_one {L : List (List Nd)} (h : mkOk L) {i : Nat} {l : List Nd} (hl : L[i]? = some l) {w : World} {A : Option Addr} (w0 : ndr w A L) : (makesQ [l]).2 = 0 := by
  have k := mk_one h hl
  have hs := k.s
  obtain ⟨b, off, _, _, A', c', _, _, hn⟩ := w0 i l hl
  have hc : checkI l = 0 := (check_isT hn).2 (h.t l (List.mem_of_getElem? hl))
  unfold makesQ
  rw [if_neg (by simp), if_neg (by simp), if_neg (fun ⟨x, hx, hh⟩ => by obtain rfl := List.mem_singleton.1 hx; exact hh hc), if_neg (by omega)]
/-- What is told of a tree alone is something just where the rule is told together. -/
theorem alone {L : List (List Nd)} (h : mkOk L) {i : Nat} {l : List Nd} (hl : L[i]? = some l) {s : List Nat} {C : List Int} (hC : isU (auQ (trs [l])) (rul (auQ (trs [l])) (runs (auQ (trs [l])).E (auQ (trs [l])).first.toNat s)) C) : 0 < C.length ↔ isM (trs L) s i := by
  have hC := run_isM (mk_one h hl) s hC
  obtain ⟨t, e1, e2⟩ := trs_one hl
  rw [e1] at hC
  have hm : isM (trs L) s i ↔ Am.mt s t 0 s.length := by
    unfold isM
    rw [e2]
    exact ⟨fun ⟨t', h1, h2⟩ => by rw [Option.some.inj h1]; exact h2, fun h => ⟨t, rfl, h⟩⟩
  rw [hm]
  constructor
  · intro hp
    obtain ⟨y, hy⟩ : ∃ y, C[0]? = some y := ⟨_, List.getElem?_eq_getElem hp⟩
    obtain ⟨q, _, t', h1, h2⟩ := (hC.m y).1 (List.mem_of_getElem? hy)
    have hq := (List.getElem?_eq_some_iff.1 h1).1
    obtain rfl : q = 0 := by simp at hq; exact hq
    obtain rfl := Option.some.inj h1
    exact h2
  · intro hp
    have := (hC.mem 0).2 ⟨t, rfl, hp⟩
    exact List.length_pos_of_mem this
theorem isM_lt {L : List (List Nd)} {s : List Nat} {r : Nat} (h : isM (trs L) s r) : r < L.length := by
  obtain ⟨t, h1, _⟩ := h
  have := (List.getElem?_eq_some_iff.1 h1).1
  rw [trs_len] at this
  exact this
end Go.Proofs.Ythjelilmlbbalaa.Or
