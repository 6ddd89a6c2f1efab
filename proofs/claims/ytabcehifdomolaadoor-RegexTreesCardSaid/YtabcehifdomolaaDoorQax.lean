/-
  Arguments opened: a list of nodes.
  Conditions: as each theorem says.
-/
import Derived.Test.YtabcehifdomolaaDoorQaj
import Derived.Test.YtabcehifdomolaaDoorQaw
import Derived.Deep.Slices
namespace Go.Proofs.YtabcehifdomolaaDoor.Ry
open Go.ChangeShapes Go.WideShapes Go.ChangeAt Go.RowKit
open Go.Proofs.YtabcehifdomolaaDoor.Na Go.Proofs.YtabcehifdomolaaDoor.Tm Go.Proofs.YtabcehifdomolaaDoor.Ta Go.Proofs.YtabcehifdomolaaDoor.Tb Go.Proofs.YtabcehifdomolaaDoor.Tf Go.Proofs.YtabcehifdomolaaDoor.Ty Go.Proofs.YtabcehifdomolaaDoor.Rm Go.Proofs.YtabcehifdomolaaDoor.Ra

theorem pickL {α : Type} {P : Nat → α → Prop} : ∀ n, (∀ i, i < n → ∃ o, P i o) → ∃ l : List α, l.length = n ∧ ∀ i o, l[i]? = some o → P i o
  | 0, _ => ⟨[], rfl, fun i o h => by simp at h⟩
  | n + 1, h => by
    obtain ⟨l, hl, hp⟩ := pickL n (fun i hi => h i (by omega))
    obtain ⟨o, ho⟩ := h n (by omega)
    refine ⟨l ++ [o], by simp [hl], fun i x hx => ?_⟩
    by_cases hi : i < l.length
    · rw [List.getElem?_append_left hi] at hx; exact hp i x hx
    · have hlt := (List.getElem?_eq_some_iff.1 hx).1
      rw [List.length_append] at hlt
      have hin : i = l.length := by
        have : [o].length = 1 := rfl
        omega
      subst hin
      rw [List.getElem?_append_right (Nat.le_refl _), Nat.sub_self] at hx
      obtain rfl : o = x := by simpa using hx
      rw [hl]; exact ho
theorem len8 {α : Type} : ∀ l : List α, l.length = 8 → ∃ a b c d e f g h, l = [a, b, c, d, e, f, g, h]
  | [a, b, c, d, e, f, g, h], _ => ⟨a, b, c, d, e, f, g, h, rfl⟩
theorem len5 {α : Type} : ∀ l : List α, l.length = 5 → ∃ a b c d e, l = [a, b, c, d, e]
  | [a, b, c, d, e], _ => ⟨a, b, c, d, e, rfl⟩
theorem in64_of {z : Int} (h : (Lit.int .i64 z).wf = true) : in64 z := by
  simpa [in64, Lit.wf, IntKind.min, IntKind.max, IntKind.signed, IntKind.bits] using h
theorem add_pl (b off k : Nat) : Addr.add ⟨b, off, none⟩ k = ⟨b, off + k, none⟩ := by simp [Addr.add]

set_option maxRecDepth 100000 in
theorem open_nodes {H : Type} {enc : TypeId × Value → H} {w : World} {base : Nat} {held : Bool} {v : Value} {d : DataW H} {p : List MemPlace} {r : Reach} {b0 : Nat}
    (hv : Value.okWide Tryd.prog w r b0 22 v) (h : DataW.Trod enc Tryd.prog w base (fun _ => true) held 22 v d p) :
    ∃ (A : Option Addr) (cap : Nat) (l : List Nd), v = .slice A l.length cap ∧ l.length ≤ cap ∧ nds w A l := by
  obtain ⟨A, n, cap, rfl⟩ := okWide_slice Tryd.underlying22 hv
  obtain ⟨fuel, hf⟩ := h
  rcases Go.Deep.open_slice Tryd.underlying22 hf with ⟨h0, _⟩ | ⟨a, len, cap', m, nn, D, Pl, hcs, _, hl, hm, hmm, _, hi⟩
  · simp [Value.cells] at h0
    obtain ⟨rfl, rfl, rfl⟩ := h0
    exact ⟨none, 0, [], rfl, Nat.le_refl _, nds_nil _ _⟩
  · simp [Value.cells] at hcs
    obtain ⟨rfl, rfl, rfl⟩ := hcs
    have hC : Tryd.prog.cellsOf 38 = 8 := cellsN
    have hcs : Tryd.prog.cellsOf 36 = 4 := by kernel_rfl
    have hci : Tryd.prog.cellsOf 3 = 1 := by kernel_rfl
    have key : ∀ i, i < n → ∃ x : Nd, isSet x.s ∧ in64 x.k ∧ in64 x.n ∧ in64 x.lo ∧ in64 x.hi ∧ w.cell? (a.add (i * 8 + 0)) = some (.int .i64 x.k) ∧ w.cell? (a.add (i * 8 + 1)) = some (.int .i64 x.n) ∧ (∀ (q y : Nat), x.s[q]? = some y → w.cell? (a.add (i * 8 + (2 + q))) = some (.int .u64 (y : Int)))
        ∧ w.cell? (a.add (i * 8 + 6)) = some (.int .i64 x.lo) ∧ w.cell? (a.add (i * 8 + 7)) = some (.int .i64 x.hi) := by
      intro i hlt
      obtain ⟨cs, hc, htr⟩ := hi i (by rw [hmm]; split <;> omega)
      obtain ⟨_, hcl, hat⟩ := World.cells?_some hc
      rw [hC] at hcl hat
      obtain ⟨ys, n', _, _, _, hlen, hfi⟩ := DataW.trod_struct Tryd.underlying38 htr
      obtain ⟨c0, c1, c2, c3, c4, c5, c6, c7, rfl⟩ := len8 cs hcl
      obtain ⟨y0, y1, y2, y3, y4, rfl⟩ := len5 ys hlen
      have g0 := hfi 0 _ rfl
      have g1 := hfi 1 _ rfl
      have g2 := hfi 2 _ rfl
      have g3 := hfi 3 _ rfl
      have g4 := hfi 4 _ rfl
      simp [hcs, hci] at g0 g1 g2 g3 g4
      obtain ⟨x0, e0, _, w0⟩ := DataW.trod_int Tryd.underlying3 g0
      obtain ⟨x1, e1, _, w1⟩ := DataW.trod_int Tryd.underlying3 g1
      obtain ⟨s, hs, e2⟩ := trod_set rfl g2
      obtain ⟨x3, e3, _, w3⟩ := DataW.trod_int Tryd.underlying3 g3
      obtain ⟨x4, e4, _, w4⟩ := DataW.trod_int Tryd.underlying3 g4
      obtain ⟨s0, s1, s2, s3, rfl⟩ := four_of hs
      simp at e0 e1 e3 e4
      simp [sv] at e2
      obtain ⟨e20, e21, e22, e23⟩ := e2
      subst e0; subst e1; subst e3; subst e4; subst e20; subst e21; subst e22; subst e23
      refine ⟨⟨x0, x1, [s0, s1, s2, s3], x3, x4⟩, hs, in64_of w0, in64_of w1, in64_of w3, in64_of w4, ?_, ?_, ?_, ?_, ?_⟩
      · rw [← Go.Deep.add_add, hat 0 (by omega)]; rfl
      · rw [← Go.Deep.add_add, hat 1 (by omega)]; rfl
      · intro q y hq
        have hq4 : q < 4 := (List.getElem?_eq_some_iff.1 hq).1
        rw [← Go.Deep.add_add, hat (2 + q) (by omega)]
        match q, hq4, hq with
        | 0, _, hq => obtain rfl : s0 = y := by simpa using hq
                      rfl
        | 1, _, hq => obtain rfl : s1 = y := by simpa using hq
                      rfl
        | 2, _, hq => obtain rfl : s2 = y := by simpa using hq
                      rfl
        | 3, _, hq => obtain rfl : s3 = y := by simpa using hq
                      rfl
      · rw [← Go.Deep.add_add, hat 6 (by omega)]; rfl
      · rw [← Go.Deep.add_add, hat 7 (by omega)]; rfl
    obtain ⟨l, hl', hP⟩ := pickL n key
    subst hl'
    refine ⟨some a, cap, l, rfl, by omega, fun i x hx => ?_⟩
    obtain ⟨b, off, spot⟩ := a
    obtain ⟨h1, h2, h3, h4, h5, q0, q1, qs, q6, q7⟩ := hP i x hx
    have h0 : 0 < l.length := by have := (List.getElem?_eq_some_iff.1 hx).1; omega
    have hspot : spot = none := by simpa [Addr.add] using World.cell?_spot (hP 0 _ (List.getElem?_eq_getElem h0)).2.2.2.2.2.1
    subst hspot
    rw [add_pl] at q0 q1 q6 q7
    exact ⟨b, off, rfl, World.block_lt_of_cell? _ _ q0, ⟨h1, h2, h3, h4, h5, q0, q1, (fun q y hq => by have := qs q y hq; rw [add_pl] at this; rw [Nat.add_assoc]; rw [Nat.add_assoc]; exact this), q6, q7⟩⟩
end Go.Proofs.YtabcehifdomolaaDoor.Ry
