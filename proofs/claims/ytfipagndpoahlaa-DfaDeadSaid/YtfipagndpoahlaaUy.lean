/-
  Arguments opened (layer 18): an automaton without choices.
  Conditions: as each theorem says.
-/
import Derived.Test.YtfipagndpoahlaaUb
import Derived.ProofKit
import Derived.OpenShut
import Derived.ChangeSlices
import Derived.Deep.Slices
namespace Go.Proofs.Ytfipagndpoahlaa.Uy
open Go.ChangeShapes Go.WideShapes Go.ChangeAt Go.RowKit
open Go.Proofs.Ytfipagndpoahlaa.Bw Go.Proofs.Ytfipagndpoahlaa.Na Go.Proofs.Ytfipagndpoahlaa.Ko Go.Proofs.Ytfipagndpoahlaa.Ua Go.Proofs.Ytfipagndpoahlaa.Ub

theorem pickU {α : Type} {P : Nat → α → Prop} : ∀ n, (∀ i, i < n → ∃ x, P i x) → ∃ l : List α, l.length = n ∧ ∀ i x, l[i]? = some x → P i x
  | 0, _ => ⟨[], rfl, fun i x h => by simp at h⟩
  | n + 1, h => by
    obtain ⟨l, hl, hP⟩ := pickU n (fun i hi => h i (by omega))
    obtain ⟨x, hx⟩ := h n (by omega)
    refine ⟨l ++ [x], by simp [hl], fun i y hy => ?_⟩
    by_cases hi : i < l.length
    · rw [List.getElem?_append_left hi] at hy
      exact hP i y hy
    · have hin : i = n := by
        have := (List.getElem?_eq_some_iff.1 hy).1
        simp at this; omega
      subst hin
      rw [List.getElem?_append_right (by omega), hl, Nat.sub_self] at hy
      simp at hy
      subst hy
      exact hx
theorem add_at (b o j : Nat) : (⟨b, o, none⟩ : Addr).add j = ⟨b, o + j, none⟩ := by unfold Addr.add; split <;> simp_all
set_option maxRecDepth 100000 in
theorem open_irow {H : Type} {enc : TypeId × Value → H} {w : World} {base : Nat} {held : Bool} {c : Value} {x : DataW H × List MemPlace} {fuel : Nat}
    (hf : DataW.trod enc Try.prog w base (fun _ => true) held fuel 24 [c] = some x) :
    ∃ (A : Option Addr) (cap : Nat) (l : List Int), c = .slice A l.length cap ∧ l.length ≤ cap ∧ l.length ≤ 9223372036854775807 ∧ row w A l.length (at' l) := by
  rcases Go.Deep.open_slice Try.underlying24 hf with ⟨h0, _⟩ | ⟨a, n, cap, m, nn, D, Pl, hcs, _, hl, hm, hmm, _, hi⟩
  · simp at h0
    exact ⟨none, 0, [], h0, Nat.le_refl _, by simp, fun i h => by simp at h⟩
  · simp at hcs
    unfold maxLen at hm
    have hC : Try.prog.cellsOf 3 = 1 := by kernel_rfl
    have key : ∀ i, i < n → ∃ z : Int, w.cell? (a.add i) = some (.int .i64 z) := by
      intro i hlt
      obtain ⟨cs, hc, htr⟩ := hi i (by rw [hmm]; split <;> omega)
      obtain ⟨_, hcl, hat⟩ := World.cells?_some hc
      rw [hC] at hcl hat
      obtain ⟨c0, rfl⟩ : ∃ c0, cs = [c0] := List.length_eq_one_iff.1 hcl
      obtain ⟨z, e0, _, _⟩ := DataW.trod_int Try.underlying3 htr
      simp at e0
      subst e0
      refine ⟨z, ?_⟩
      have := hat 0 (by omega)
      rw [Nat.mul_one, Go.Deep.add_add, Nat.add_zero] at this
      rw [this]; rfl
    obtain ⟨l, hl', hP⟩ := pickU n key
    subst hl'
    refine ⟨some a, cap, l, hcs, by omega, by omega, fun i hx => ?_⟩
    obtain ⟨b, off, spot⟩ := a
    have h1 := hP i _ (at_get hx)
    have h0 : 0 < l.length := by omega
    have hspot : spot = none := by simpa [Addr.add] using World.cell?_spot (hP 0 _ (List.getElem?_eq_getElem h0))
    subst hspot
    rw [add_at] at h1
    exact ⟨b, off, rfl, World.block_lt_of_cell? _ _ h1, h1⟩
set_option maxRecDepth 100000 in
theorem open_irows {H : Type} {enc : TypeId × Value → H} {w : World} {base : Nat} {held : Bool} {c : Value} {x : DataW H × List MemPlace} {fuel : Nat}
    (hf : DataW.trod enc Try.prog w base (fun _ => true) held fuel 23 [c] = some x) :
    ∃ (A : Option Addr) (cap : Nat) (l : List (List Int)), c = .slice A l.length cap ∧ l.length ≤ 9223372036854775807 ∧ irs w A l := by
  rcases Go.Deep.open_slice Try.underlying23 hf with ⟨h0, _⟩ | ⟨a, n, cap, m, nn, D, Pl, hcs, _, hl, hm, hmm, _, hi⟩
  · simp at h0
    exact ⟨none, 0, [], h0, by simp, fun i x h => by simp at h⟩
  · simp at hcs
    unfold maxLen at hm
    have hC : Try.prog.cellsOf 24 = 1 := by kernel_rfl
    have key : ∀ i, i < n → ∃ l : List Int, ∃ A c, w.cell? (a.add i) = some (.slice A l.length c) ∧ l.length ≤ c ∧ l.length ≤ 9223372036854775807 ∧ row w A l.length (at' l) := by
      intro i hlt
      obtain ⟨cs, hc, htr⟩ := hi i (by rw [hmm]; split <;> omega)
      obtain ⟨_, hcl, hat⟩ := World.cells?_some hc
      rw [hC] at hcl hat
      obtain ⟨c0, rfl⟩ : ∃ c0, cs = [c0] := List.length_eq_one_iff.1 hcl
      obtain ⟨A, q, l, rfl, h1, h2, h3⟩ := open_irow htr
      refine ⟨l, A, q, ?_, h1, h2, h3⟩
      have := hat 0 (by omega)
      rw [Nat.mul_one, Go.Deep.add_add, Nat.add_zero] at this
      rw [this]; rfl
    obtain ⟨l, hl', hP⟩ := pickU n key
    subst hl'
    refine ⟨some a, cap, l, hcs, by omega, fun i x hx => ?_⟩
    obtain ⟨b, off, spot⟩ := a
    obtain ⟨A, q, h1, h2, h3, h4⟩ := hP i x hx
    have h0 : 0 < l.length := by have := (List.getElem?_eq_some_iff.1 hx).1; omega
    obtain ⟨A0, q0, h10, _⟩ := hP 0 _ (List.getElem?_eq_getElem h0)
    have hspot : spot = none := by simpa [Addr.add] using World.cell?_spot h10
    subst hspot
    rw [add_at] at h1
    exact ⟨b, off, rfl, World.block_lt_of_cell? _ _ h1, A, q, h1, h2, h3, h4⟩
set_option maxRecDepth 100000 in
theorem open_cls {H : Type} {enc : TypeId × Value → H} {w : World} {base : Nat} {held : Bool} {cs : List Value} {x : DataW H × List MemPlace} {fuel : Nat}
    (hf : DataW.trod enc Try.prog w base (fun _ => true) held fuel 22 cs = some x) :
    ∃ l : List Int, l.length = 256 ∧ ∀ i, i < 256 → cs[i]? = some (.int .i64 (at' l i)) := by
  obtain ⟨d, p⟩ := x
  obtain ⟨xs, m, _, _, _, hlen, hi⟩ := DataW.trod_array Try.underlying22 hf
  have hce : Try.prog.cellsOf 3 = 1 := by kernel_rfl
  have key : ∀ i, i < 256 → ∃ z : Int, cs[i]? = some (.int .i64 z) := by
    intro i hlt
    have g := hi i (by omega)
    simp only [hce, Nat.mul_one] at g
    rw [List.getElem?_eq_getElem (show i < xs.length by omega)] at g
    obtain ⟨z, e0, _, _⟩ := DataW.trod_int Try.underlying3 g
    refine ⟨z, ?_⟩
    have e1 : ((cs.drop i).take 1)[0]? = some (.int .i64 z) := by rw [e0]; rfl
    rw [List.getElem?_take_of_lt (by omega), List.getElem?_drop, Nat.add_zero] at e1
    exact e1
  obtain ⟨l, hl', hP⟩ := pickU 256 key
  exact ⟨l, hl', fun i hi => hP i _ (at_get (by omega))⟩
set_option maxRecDepth 100000 in
theorem open_dfa {H : Type} {enc : TypeId × Value → H} {w : World} {base : Nat} {held : Bool} {v : Value} {d : DataW H} {p : List MemPlace} {r : Reach} {b0 : Nat}
    (hv : Value.okWide Try.prog w r b0 26 v) (h : DataW.Trod enc Try.prog w base (fun _ => true) held 26 v d p) :
    ∃ (V : Array Value) (D : Df), v = .agg V ∧ dfa w V D := by
  have ht := Try.underlying26
  simp only [Value.okWide, ht] at hv
  obtain ⟨cs, rfl, h2, _⟩ := hv
  obtain ⟨fuel, hf⟩ := h
  obtain ⟨ys, m, _, _, _, hlen, hi⟩ := DataW.trod_struct ht hf
  have hc3 : Try.prog.cellsOf 26 = 258 := by kernel_rfl
  have hca : Try.prog.cellsOf 22 = 256 := by kernel_rfl
  have hce : Try.prog.cellsOf 23 = 1 := by kernel_rfl
  have hcl : Try.prog.cellsOf 24 = 1 := by kernel_rfl
  rw [hc3] at h2
  have hsz : cs.toList.length = 258 := by simpa using h2
  have h3 : ys.length = 3 := hlen
  have g0 := hi 0 _ rfl
  have g1 := hi 1 _ rfl
  have g2 := hi 2 _ rfl
  simp [Value.cells, hca] at g0
  simp [Value.cells, hce] at g1
  simp [Value.cells, hcl] at g2
  rw [List.getElem?_eq_getElem (show 0 < ys.length by omega)] at g0
  rw [List.getElem?_eq_getElem (show 1 < ys.length by omega)] at g1
  rw [List.getElem?_eq_getElem (show 2 < ys.length by omega)] at g2
  obtain ⟨cl, l0, e0⟩ := open_cls g0
  have p1 : ∃ x, (cs.toList.drop 256).take 1 = [x] := List.length_eq_one_iff.1 (by simp; omega)
  have p2 : ∃ x, (cs.toList.drop 257).take 1 = [x] := List.length_eq_one_iff.1 (by simp; omega)
  obtain ⟨x1, p1⟩ := p1
  obtain ⟨x2, p2⟩ := p2
  rw [p1] at g1
  rw [p2] at g2
  obtain ⟨A1, c1, nx, rfl, b1, r1⟩ := open_irows g1
  obtain ⟨A2, c2, ru, rfl, _, b2, r2⟩ := open_irow g2
  refine ⟨cs, ⟨nx, cl, ru⟩, rfl, A1, c1, A2, c2, ?_, l0, b1, b2, r1, r2⟩
  refine Array.ext_getElem? (fun i => ?_)
  show cs[i]? = (dcs (.slice A1 nx.length c1) (.slice A2 ru.length c2) cl)[i]?
  unfold dcs
  by_cases h : i < 258
  · rw [celN_get _ h]
    unfold dcell
    by_cases h1 : i < 256
    · rw [if_pos h1]
      have := e0 i h1
      rw [List.getElem?_take_of_lt h1] at this
      simpa using this
    · rw [if_neg h1]
      by_cases h5 : i = 256
      · rw [if_pos h5, h5]
        have : ((cs.toList.drop 256).take 1)[0]? = some (.slice A1 nx.length c1) := by rw [p1]; rfl
        rw [List.getElem?_take_of_lt (by omega), List.getElem?_drop] at this
        simpa using this
      · rw [if_neg h5]
        obtain rfl : i = 257 := by omega
        have : ((cs.toList.drop 257).take 1)[0]? = some (.slice A2 ru.length c2) := by rw [p2]; rfl
        rw [List.getElem?_take_of_lt (by omega), List.getElem?_drop] at this
        simpa using this
  · rw [Array.getElem?_eq_none (by omega), Array.getElem?_eq_none (by rw [celN_size]; omega)]
end Go.Proofs.Ytfipagndpoahlaa.Uy
