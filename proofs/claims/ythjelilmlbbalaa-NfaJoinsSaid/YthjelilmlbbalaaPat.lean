/-
  Arguments opened: a set, an array of two sets.
  Conditions: as each theorem says.
-/
import Derived.Test.YthjelilmlbbalaaPas
import Derived.Test.YthjelilmlbbalaaPai
namespace Go.Proofs.Ythjelilmlbbalaa.Ty
open Go.ChangeShapes Go.WideShapes Go.ChangeAt Go.RowKit
open Go.Proofs.Ythjelilmlbbalaa.Tm Go.Proofs.Ythjelilmlbbalaa.Ta Go.Proofs.Ythjelilmlbbalaa.Tb Go.Proofs.Ythjelilmlbbalaa.Tf
set_option maxRecDepth 100000

theorem wf64 {x : Int} (h : (Lit.int .u64 x).wf = true) : ∃ n : Nat, x = (n : Int) ∧ n < 18446744073709551616 := by
  have h2 : 0 ≤ x ∧ x < 18446744073709551616 := by
    have e1 : IntKind.u64.min = 0 := by decide
    have e2 : IntKind.u64.max = 18446744073709551615 := by decide
    simp [Lit.wf, e1, e2] at h
    omega
  exact ⟨x.toNat, by omega, by omega⟩
theorem sets {x0 x1 x2 x3 : Nat} (h0 : x0 < 18446744073709551616) (h1 : x1 < 18446744073709551616) (h2 : x2 < 18446744073709551616) (h3 : x3 < 18446744073709551616) : isSet [x0, x1, x2, x3] :=
  ⟨rfl, fun x hx => by simp at hx; omega⟩
/-- Cells of a set. -/
theorem trod_set {H : Type} {enc : TypeId × Value → H} {w : World} {base : Nat} {spare : Nat → Bool} {held : Bool} {fuel : Nat} {l : List Value} {X : DataW H × List MemPlace}
    (hl : l.length = 4) (hf : DataW.trod enc Try.prog w base spare held fuel 64 l = some X) : ∃ a : List Nat, isSet a ∧ l = (sv a).toList := by
  obtain ⟨d, p⟩ := X
  obtain ⟨xs, m, _, _, _, hlen, hi⟩ := DataW.trod_array Try.underlying64 hf
  have hce : Try.prog.cellsOf 62 = 1 := by kernel_rfl
  match l, hl with
  | [c0, c1, c2, c3], _ =>
    match xs, hlen with
    | [x0, x1, x2, x3], _ =>
      have g0 := hi 0 (by omega)
      have g1 := hi 1 (by omega)
      have g2 := hi 2 (by omega)
      have g3 := hi 3 (by omega)
      simp [hce] at g0 g1 g2 g3
      obtain ⟨a0, e0, _, w0⟩ := DataW.trod_int Try.underlying62 g0
      obtain ⟨a1, e1, _, w1⟩ := DataW.trod_int Try.underlying62 g1
      obtain ⟨a2, e2, _, w2⟩ := DataW.trod_int Try.underlying62 g2
      obtain ⟨a3, e3, _, w3⟩ := DataW.trod_int Try.underlying62 g3
      simp at e0 e1 e2 e3
      subst e0; subst e1; subst e2; subst e3
      obtain ⟨n0, rfl, l0⟩ := wf64 w0
      obtain ⟨n1, rfl, l1⟩ := wf64 w1
      obtain ⟨n2, rfl, l2⟩ := wf64 w2
      obtain ⟨n3, rfl, l3⟩ := wf64 w3
      exact ⟨[n0, n1, n2, n3], sets l0 l1 l2 l3, rfl⟩
theorem open_set {H : Type} {enc : TypeId × Value → H} {w : World} {base : Nat} {spare : Nat → Bool} {held : Bool} {v : Value} {d : DataW H} {p : List MemPlace} {r : Reach} {b0 : Nat}
    (hv : Value.okWide Try.prog w r b0 64 v) (h : DataW.Trod enc Try.prog w base spare held 64 v d p) : ∃ a : List Nat, isSet a ∧ v = .agg (sv a) := by
  have hc : Try.prog.cellsOf 64 = 4 := by kernel_rfl
  simp only [Value.okWide, Try.underlying64] at hv
  obtain ⟨cs, rfl, h2, _⟩ := hv
  obtain ⟨fuel, hf⟩ := h
  obtain ⟨a, ha, e⟩ := trod_set (l := cs.toList) (by rw [hc] at h2; simpa using h2) hf
  exact ⟨a, ha, by rw [← Array.toArray_toList (xs := cs), e]⟩
theorem halves (l : List Value) (h : l.length = 8) : l = (l.drop (0 * 4)).take 4 ++ (l.drop (1 * 4)).take 4 := by
  match l, h with
  | [c0, c1, c2, c3, c4, c5, c6, c7], _ => rfl
end Go.Proofs.Ythjelilmlbbalaa.Ty
