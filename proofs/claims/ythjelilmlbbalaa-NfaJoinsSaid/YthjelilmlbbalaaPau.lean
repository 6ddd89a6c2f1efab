/-
  Arguments opened: a list of nodes.
  Arguments opened (layer 17): a list of lists of nodes; an automaton.
  Conditions: as each theorem says.
-/
import Derived.Test.YthjelilmlbbalaaPaj
import Derived.Test.YthjelilmlbbalaaPat
import Derived.Deep.Slices
import Derived.Test.YthjelilmlbbalaaPav
namespace Go.Proofs.Ythjelilmlbbalaa.Ry
open Go.ChangeShapes Go.WideShapes Go.ChangeAt Go.RowKit
open Go.Proofs.Ythjelilmlbbalaa.Na Go.Proofs.Ythjelilmlbbalaa.Tm Go.Proofs.Ythjelilmlbbalaa.Ta Go.Proofs.Ythjelilmlbbalaa.Tb Go.Proofs.Ythjelilmlbbalaa.Tf Go.Proofs.Ythjelilmlbbalaa.Ty Go.Proofs.Ythjelilmlbbalaa.Rm Go.Proofs.Ythjelilmlbbalaa.Ra

theorem pickL {α : Type} {P : Nat → α → Prop} : ∀ n, (∀ i, i < n → ∃ o, P i o) → ∃ l : List α, l.length = n ∧ ∀ i o, l[i]? = some o → P i o
  | 0, _ => ⟨[], rfl, fun i o h => by simp at h⟩
  | n + 1, h => by
    obtain ⟨l, hl, hp⟩ := pickL n (fun i hi => h i (by omega))
    obtain ⟨o, ho⟩ := h n (by omega)
    refine ⟨l ++ [o], by simp [hl], fun i x hx => ?_⟩
    by_cases hi : i < l.length
    · rw [List.getElem?_append_left hi] at hx; exact hp i x hx
    · have hlt := (List.getElem?_eq_some_iff.1 hx).1
      rw [List.length_append] at hlt
      have hin : i = l.length := by
        have : [o].length = 1 := rfl
        omega
      subst hin
      rw [List.getElem?_append_right (Nat.le_refl _), Nat.sub_self] at hx
      obtain rfl : o = x := by simpa using hx
      rw [hl]; exact ho
theorem len8 {α : Type} : ∀ l : List α, l.length = 8 → ∃ a b c d e f g h, l = [a, b, c, d, e, f, g, h]
  | [a, b, c, d, e, f, g, h], _ => ⟨a, b, c, d, e, f, g, h, rfl⟩
theorem len5 {α : Type} : ∀ l : List α, l.length = 5 → ∃ a b c d e, l = [a, b, c, d, e]
  | [a, b, c, d, e], _ => ⟨a, b, c, d, e, rfl⟩
theorem in64_of {z : Int} (h : (Lit.int .i64 z).wf = true) : in64 z := by
  simpa [in64, Lit.wf, IntKind.min, IntKind.max, IntKind.signed, IntKind.bits] using h
theorem add_pl (b off k : Nat) : Addr.add ⟨b, off, none⟩ k = ⟨b, off + k, none⟩ := by simp [Addr.add]

set_option maxRecDepth 100000 in
theorem open_nodes {H : Type} {enc : TypeId × Value → H} {w : World} {base : Nat} {held : Bool} {v : Value} {d : DataW H} {p : List MemPlace} {r : Reach} {b0 : Nat}
    (hv : Value.okWide Try.prog w r b0 35 v) (h : DataW.Trod enc Try.prog w base (fun _ => true) held 35 v d p) :
    ∃ (A : Option Addr) (cap : Nat) (l : List Nd), v = .slice A l.length cap ∧ l.length ≤ cap ∧ nds w A l := by
  obtain ⟨A, n, cap, rfl⟩ := okWide_slice Try.underlying35 hv
  obtain ⟨fuel, hf⟩ := h
  rcases Go.Deep.open_slice Try.underlying35 hf with ⟨h0, _⟩ | ⟨a, len, cap', m, nn, D, Pl, hcs, _, hl, hm, hmm, _, hi⟩
  · simp [Value.cells] at h0
    obtain ⟨rfl, rfl, rfl⟩ := h0
    exact ⟨none, 0, [], rfl, Nat.le_refl _, nds_nil _ _⟩
  · simp [Value.cells] at hcs
    obtain ⟨rfl, rfl, rfl⟩ := hcs
    have hC : Try.prog.cellsOf 79 = 8 := cellsN
    have hcs : Try.prog.cellsOf 64 = 4 := by kernel_rfl
    have hci : Try.prog.cellsOf 3 = 1 := by kernel_rfl
    have key : ∀ i, i < n → ∃ x : Nd, isSet x.s ∧ in64 x.k ∧ in64 x.n ∧ in64 x.lo ∧ in64 x.hi ∧ w.cell? (a.add (i * 8 + 0)) = some (.int .i64 x.k) ∧ w.cell? (a.add (i * 8 + 1)) = some (.int .i64 x.n) ∧ (∀ (q y : Nat), x.s[q]? = some y → w.cell? (a.add (i * 8 + (2 + q))) = some (.int .u64 (y : Int)))
        ∧ w.cell? (a.add (i * 8 + 6)) = some (.int .i64 x.lo) ∧ w.cell? (a.add (i * 8 + 7)) = some (.int .i64 x.hi) := by
      intro i hlt
      obtain ⟨cs, hc, htr⟩ := hi i (by rw [hmm]; split <;> omega)
      obtain ⟨_, hcl, hat⟩ := World.cells?_some hc
      rw [hC] at hcl hat
      obtain ⟨ys, n', _, _, _, hlen, hfi⟩ := DataW.trod_struct Try.underlying79 htr
      obtain ⟨c0, c1, c2, c3, c4, c5, c6, c7, rfl⟩ := len8 cs hcl
      obtain ⟨y0, y1, y2, y3, y4, rfl⟩ := len5 ys hlen
      have g0 := hfi 0 _ rfl
      have g1 := hfi 1 _ rfl
      have g2 := hfi 2 _ rfl
      have g3 := hfi 3 _ rfl
      have g4 := hfi 4 _ rfl
      simp [hcs, hci] at g0 g1 g2 g3 g4
      obtain ⟨x0, e0, _, w0⟩ := DataW.trod_int Try.underlying3 g0
      obtain ⟨x1, e1, _, w1⟩ := DataW.trod_int Try.underlying3 g1
      obtain ⟨s, hs, e2⟩ := trod_set rfl g2
      obtain ⟨x3, e3, _, w3⟩ := DataW.trod_int Try.underlying3 g3
      obtain ⟨x4, e4, _, w4⟩ := DataW.trod_int Try.underlying3 g4
      obtain ⟨s0, s1, s2, s3, rfl⟩ := four_of hs
      simp at e0 e1 e3 e4
      simp [sv] at e2
      obtain ⟨e20, e21, e22, e23⟩ := e2
      subst e0; subst e1; subst e3; subst e4; subst e20; subst e21; subst e22; subst e23
      refine ⟨⟨x0, x1, [s0, s1, s2, s3], x3, x4⟩, hs, in64_of w0, in64_of w1, in64_of w3, in64_of w4, ?_, ?_, ?_, ?_, ?_⟩
      · rw [← Go.Deep.add_add, hat 0 (by omega)]; rfl
      · rw [← Go.Deep.add_add, hat 1 (by omega)]; rfl
      · intro q y hq
        have hq4 : q < 4 := (List.getElem?_eq_some_iff.1 hq).1
        rw [← Go.Deep.add_add, hat (2 + q) (by omega)]
        match q, hq4, hq with
        | 0, _, hq => obtain rfl : s0 = y := by simpa using hq
                      rfl
        | 1, _, hq => obtain rfl : s1 = y := by simpa using hq
                      rfl
        | 2, _, hq => obtain rfl : s2 = y := by simpa using hq
                      rfl
        | 3, _, hq => obtain rfl : s3 = y := by simpa using hq
                      rfl
      · rw [← Go.Deep.add_add, hat 6 (by omega)]; rfl
      · rw [← Go.Deep.add_add, hat 7 (by omega)]; rfl
    obtain ⟨l, hl', hP⟩ := pickL n key
    subst hl'
    refine ⟨some a, cap, l, rfl, by omega, fun i x hx => ?_⟩
    obtain ⟨b, off, spot⟩ := a
    obtain ⟨h1, h2, h3, h4, h5, q0, q1, qs, q6, q7⟩ := hP i x hx
    have h0 : 0 < l.length := by have := (List.getElem?_eq_some_iff.1 hx).1; omega
    have hspot : spot = none := by simpa [Addr.add] using World.cell?_spot (hP 0 _ (List.getElem?_eq_getElem h0)).2.2.2.2.2.1
    subst hspot
    rw [add_pl] at q0 q1 q6 q7
    exact ⟨b, off, rfl, World.block_lt_of_cell? _ _ q0, ⟨h1, h2, h3, h4, h5, q0, q1, (fun q y hq => by have := qs q y hq; rw [add_pl] at this; rw [Nat.add_assoc]; rw [Nat.add_assoc]; exact this), q6, q7⟩⟩
end Go.Proofs.Ythjelilmlbbalaa.Ry
namespace Go.Proofs.Ythjelilmlbbalaa.Ay
open Go.ChangeShapes Go.WideShapes Go.ChangeAt Go.RowKit
open Go.Proofs.Ythjelilmlbbalaa.Na Go.Proofs.Ythjelilmlbbalaa.Tm Go.Proofs.Ythjelilmlbbalaa.Ta Go.Proofs.Ythjelilmlbbalaa.Tb Go.Proofs.Ythjelilmlbbalaa.Tf Go.Proofs.Ythjelilmlbbalaa.Ty Go.Proofs.Ythjelilmlbbalaa.Rm Go.Proofs.Ythjelilmlbbalaa.Ra Go.Proofs.Ythjelilmlbbalaa.Ry Go.Proofs.Ythjelilmlbbalaa.An Go.Proofs.Ythjelilmlbbalaa.Aa

theorem len6 {α : Type} : ∀ l : List α, l.length = 6 → ∃ a b c d e f, l = [a, b, c, d, e, f]
  | [a, b, c, d, e, f], _ => ⟨a, b, c, d, e, f, rfl⟩
theorem len3 {α : Type} : ∀ l : List α, l.length = 3 → ∃ a b c, l = [a, b, c]
  | [a, b, c], _ => ⟨a, b, c, rfl⟩
/-- Rows of nodes. -/
def ndr (w : World) (A : Option Addr) (L : List (List Nd)) : Prop := ∀ i l, L[i]? = some l → ∃ b off : Nat, A = some ⟨b, off, none⟩ ∧ b < w.heap.size ∧ ∃ (A' : Option Addr) (c' : Nat), w.cell? ⟨b, off + i, none⟩ = some (.slice A' l.length c') ∧ l.length ≤ c' ∧ nds w A' l
theorem ndr.below {w w' : World} {A : Option Addr} {L : List (List Nd)} (h : ndr w A L) (k : Below w.heap.size w w') : ndr w' A L := fun i l hi => by
  obtain ⟨b, off, rfl, hb, A', c', hc, hl, he⟩ := h i l hi
  exact ⟨b, off, rfl, Nat.lt_of_lt_of_le hb k.size, A', c', (k.cell (p := ⟨b, off + i, none⟩) hb).trans hc, hl, he.below k⟩
set_option maxRecDepth 100000 in
theorem open_nodes_in {H : Type} {enc : TypeId × Value → H} {w : World} {base : Nat} {held : Bool} {c : Value} {x : DataW H × List MemPlace} {fuel : Nat}
    (hf : DataW.trod enc Try.prog w base (fun _ => true) held fuel 35 [c] = some x) :
    ∃ (A : Option Addr) (cap : Nat) (l : List Nd), c = .slice A l.length cap ∧ l.length ≤ cap ∧ nds w A l := by
  rcases Go.Deep.open_slice Try.underlying35 hf with ⟨h0, _⟩ | ⟨a, n, cap, m, nn, D, Pl, hcs, _, hl, hm, hmm, _, hi⟩
  · simp at h0
    exact ⟨none, 0, [], h0, Nat.le_refl _, nds_nil _ _⟩
  · simp at hcs
    have hC : Try.prog.cellsOf 79 = 8 := cellsN
    have hcS : Try.prog.cellsOf 64 = 4 := by kernel_rfl
    have hci : Try.prog.cellsOf 3 = 1 := by kernel_rfl
    have key : ∀ i, i < n → ∃ x : Nd, isSet x.s ∧ in64 x.k ∧ in64 x.n ∧ in64 x.lo ∧ in64 x.hi ∧ w.cell? (a.add (i * 8 + 0)) = some (.int .i64 x.k) ∧ w.cell? (a.add (i * 8 + 1)) = some (.int .i64 x.n) ∧ (∀ (q y : Nat), x.s[q]? = some y → w.cell? (a.add (i * 8 + (2 + q))) = some (.int .u64 (y : Int)))
        ∧ w.cell? (a.add (i * 8 + 6)) = some (.int .i64 x.lo) ∧ w.cell? (a.add (i * 8 + 7)) = some (.int .i64 x.hi) := by
      intro i hlt
      obtain ⟨cs, hc, htr⟩ := hi i (by rw [hmm]; split <;> omega)
      obtain ⟨_, hcl, hat⟩ := World.cells?_some hc
      rw [hC] at hcl hat
      obtain ⟨ys, n', _, _, _, hlen, hfi⟩ := DataW.trod_struct Try.underlying79 htr
      obtain ⟨c0, c1, c2, c3, c4, c5, c6, c7, rfl⟩ := len8 cs hcl
      obtain ⟨y0, y1, y2, y3, y4, rfl⟩ := len5 ys hlen
      have g0 := hfi 0 _ rfl
      have g1 := hfi 1 _ rfl
      have g2 := hfi 2 _ rfl
      have g3 := hfi 3 _ rfl
      have g4 := hfi 4 _ rfl
      simp [hcS, hci] at g0 g1 g2 g3 g4
      obtain ⟨x0, e0, _, w0⟩ := DataW.trod_int Try.underlying3 g0
      obtain ⟨x1, e1, _, w1⟩ := DataW.trod_int Try.underlying3 g1
      obtain ⟨s, hs, e2⟩ := trod_set rfl g2
      obtain ⟨x3, e3, _, w3⟩ := DataW.trod_int Try.underlying3 g3
      obtain ⟨x4, e4, _, w4⟩ := DataW.trod_int Try.underlying3 g4
      obtain ⟨s0, s1, s2, s3, rfl⟩ := four_of hs
      simp at e0 e1 e3 e4
      simp [sv] at e2
      obtain ⟨e20, e21, e22, e23⟩ := e2
      subst e0; subst e1; subst e3; subst e4; subst e20; subst e21; subst e22; subst e23
      refine ⟨⟨x0, x1, [s0, s1, s2, s3], x3, x4⟩, hs, in64_of w0, in64_of w1, in64_of w3, in64_of w4, ?_, ?_, ?_, ?_, ?_⟩
      · rw [← Go.Deep.add_add, hat 0 (by omega)]; rfl
      · rw [← Go.Deep.add_add, hat 1 (by omega)]; rfl
      · intro q y hq
        have hq4 : q < 4 := (List.getElem?_eq_some_iff.1 hq).1
        rw [← Go.Deep.add_add, hat (2 + q) (by omega)]
        match q, hq4, hq with
        | 0, _, hq => obtain rfl : s0 = y := by simpa using hq
                      rfl
        | 1, _, hq => obtain rfl : s1 = y := by simpa using hq
                      rfl
        | 2, _, hq => obtain rfl : s2 = y := by simpa using hq
                      rfl
        | 3, _, hq => obtain rfl : s3 = y := by simpa using hq
                      rfl
      · rw [← Go.Deep.add_add, hat 6 (by omega)]; rfl
      · rw [← Go.Deep.add_add, hat 7 (by omega)]; rfl
    obtain ⟨l, hl', hP⟩ := pickL n key
    subst hl'
    refine ⟨some a, cap, l, hcs, by omega, fun i x hx => ?_⟩
    obtain ⟨b, off, spot⟩ := a
    obtain ⟨h1, h2, h3, h4, h5, q0, q1, qs, q6, q7⟩ := hP i x hx
    have h0 : 0 < l.length := by have := (List.getElem?_eq_some_iff.1 hx).1; omega
    have hspot : spot = none := by simpa [Addr.add] using World.cell?_spot (hP 0 _ (List.getElem?_eq_getElem h0)).2.2.2.2.2.1
    subst hspot
    rw [add_pl] at q0 q1 q6 q7
    exact ⟨b, off, rfl, World.block_lt_of_cell? _ _ q0, ⟨h1, h2, h3, h4, h5, q0, q1, (fun q y hq => by have := qs q y hq; rw [add_pl] at this; rw [Nat.add_assoc]; rw [Nat.add_assoc]; exact this), q6, q7⟩⟩
set_option maxRecDepth 100000 in
theorem open_edges {H : Type} {enc : TypeId × Value → H} {w : World} {base : Nat} {held : Bool} {c : Value} {x : DataW H × List MemPlace} {fuel : Nat}
    (hf : DataW.trod enc Try.prog w base (fun _ => true) held fuel 61 [c] = some x) :
    ∃ (A : Option Addr) (cap : Nat) (l : List Eg), c = .slice A l.length cap ∧ l.length ≤ cap ∧ eds w A l := by
  rcases Go.Deep.open_slice Try.underlying61 hf with ⟨h0, _⟩ | ⟨a, n, cap, m, nn, D, Pl, hcs, _, hl, hm, hmm, _, hi⟩
  · simp at h0
    exact ⟨none, 0, [], h0, Nat.le_refl _, fun i x h => by simp at h⟩
  · simp at hcs
    have hC : Try.prog.cellsOf 66 = 6 := by kernel_rfl
    have hcS : Try.prog.cellsOf 64 = 4 := by kernel_rfl
    have hci : Try.prog.cellsOf 3 = 1 := by kernel_rfl
    have hcb : Try.prog.cellsOf 4 = 1 := by kernel_rfl
    have key : ∀ i, i < n → ∃ x : Eg, isSet x.s ∧ in64 x.to ∧ w.cell? (a.add (i * 6 + 0)) = some (.int .i64 x.to) ∧ w.cell? (a.add (i * 6 + 1)) = some (.bool x.free) ∧ (∀ (q y : Nat), x.s[q]? = some y → w.cell? (a.add (i * 6 + (2 + q))) = some (.int .u64 (y : Int))) := by
      intro i hlt
      obtain ⟨cs, hc, htr⟩ := hi i (by rw [hmm]; split <;> omega)
      obtain ⟨_, hcl, hat⟩ := World.cells?_some hc
      rw [hC] at hcl hat
      obtain ⟨ys, n', _, _, _, hlen, hfi⟩ := DataW.trod_struct Try.underlying66 htr
      obtain ⟨c0, c1, c2, c3, c4, c5, rfl⟩ := len6 cs hcl
      obtain ⟨y0, y1, y2, rfl⟩ := len3 ys hlen
      have g0 := hfi 0 _ rfl
      have g1 := hfi 1 _ rfl
      have g2 := hfi 2 _ rfl
      simp [hcS, hci, hcb] at g0 g1 g2
      obtain ⟨x0, e0, _, w0⟩ := DataW.trod_int Try.underlying3 g0
      obtain ⟨x1, e1, _⟩ := DataW.trod_bool Try.underlying4 g1
      obtain ⟨s, hs, e2⟩ := trod_set rfl g2
      obtain ⟨s0, s1, s2, s3, rfl⟩ := four_of hs
      simp at e0 e1
      simp [sv] at e2
      obtain ⟨e20, e21, e22, e23⟩ := e2
      subst e0; subst e1; subst e20; subst e21; subst e22; subst e23
      refine ⟨⟨x0, x1, [s0, s1, s2, s3]⟩, hs, in64_of w0, ?_, ?_, ?_⟩
      · rw [← Go.Deep.add_add, hat 0 (by omega)]; rfl
      · rw [← Go.Deep.add_add, hat 1 (by omega)]; rfl
      · intro q y hq
        have hq4 : q < 4 := (List.getElem?_eq_some_iff.1 hq).1
        rw [← Go.Deep.add_add, hat (2 + q) (by omega)]
        match q, hq4, hq with
        | 0, _, hq => obtain rfl : s0 = y := by simpa using hq
                      rfl
        | 1, _, hq => obtain rfl : s1 = y := by simpa using hq
                      rfl
        | 2, _, hq => obtain rfl : s2 = y := by simpa using hq
                      rfl
        | 3, _, hq => obtain rfl : s3 = y := by simpa using hq
                      rfl
    obtain ⟨l, hl', hP⟩ := pickL n key
    subst hl'
    refine ⟨some a, cap, l, hcs, by omega, fun i x hx => ?_⟩
    obtain ⟨b, off, spot⟩ := a
    obtain ⟨h1, h2, q0, q1, qs⟩ := hP i x hx
    have h0 : 0 < l.length := by have := (List.getElem?_eq_some_iff.1 hx).1; omega
    have hspot : spot = none := by simpa [Addr.add] using World.cell?_spot (hP 0 _ (List.getElem?_eq_getElem h0)).2.2.1
    subst hspot
    rw [add_pl] at q0 q1
    exact ⟨b, off, rfl, World.block_lt_of_cell? _ _ q0, ⟨h1, h2, q0, q1, (fun q y hq => by have := qs q y hq; rw [add_pl] at this; rw [Nat.add_assoc]; rw [Nat.add_assoc]; exact this)⟩⟩
set_option maxRecDepth 100000 in
theorem open_trees_in {H : Type} {enc : TypeId × Value → H} {w : World} {base : Nat} {held : Bool} {c : Value} {x : DataW H × List MemPlace} {fuel : Nat}
    (hf : DataW.trod enc Try.prog w base (fun _ => true) held fuel 22 [c] = some x) :
    ∃ (A : Option Addr) (cap : Nat) (l : List (List Nd)), c = .slice A l.length cap ∧ l.length ≤ cap ∧ ndr w A l := by
  rcases Go.Deep.open_slice Try.underlying22 hf with ⟨h0, _⟩ | ⟨a, n, cap, m, nn, D, Pl, hcs, _, hl, hm, hmm, _, hi⟩
  · simp at h0
    exact ⟨none, 0, [], h0, Nat.le_refl _, fun i x h => by simp at h⟩
  · simp at hcs
    have hC : Try.prog.cellsOf 35 = 1 := by kernel_rfl
    have key : ∀ i, i < n → ∃ l : List Nd, ∃ A c, w.cell? (a.add i) = some (.slice A l.length c) ∧ l.length ≤ c ∧ nds w A l := by
      intro i hlt
      obtain ⟨cs, hc, htr⟩ := hi i (by rw [hmm]; split <;> omega)
      obtain ⟨_, hcl, hat⟩ := World.cells?_some hc
      rw [hC] at hcl hat
      obtain ⟨c0, rfl⟩ : ∃ c0, cs = [c0] := List.length_eq_one_iff.1 hcl
      obtain ⟨A, q, l, rfl, h1, h2⟩ := open_nodes_in htr
      refine ⟨l, A, q, ?_, h1, h2⟩
      have := hat 0 (by omega)
      rw [Nat.mul_one, Go.Deep.add_add, Nat.add_zero] at this
      rw [this]; rfl
    obtain ⟨l, hl', hP⟩ := pickL n key
    subst hl'
    refine ⟨some a, cap, l, hcs, by omega, fun i x hx => ?_⟩
    obtain ⟨b, off, spot⟩ := a
    obtain ⟨A, q, h1, h2, h3⟩ := hP i x hx
    have h0 : 0 < l.length := by have := (List.getElem?_eq_some_iff.1 hx).1; omega
    obtain ⟨A0, q0, h10, _⟩ := hP 0 _ (List.getElem?_eq_getElem h0)
    have hspot : spot = none := by simpa [Addr.add] using World.cell?_spot h10
    subst hspot
    rw [add_pl] at h1
    exact ⟨b, off, rfl, World.block_lt_of_cell? _ _ h1, A, q, h1, h2, h3⟩
set_option maxRecDepth 100000 in
theorem open_edgerows {H : Type} {enc : TypeId × Value → H} {w : World} {base : Nat} {held : Bool} {c : Value} {x : DataW H × List MemPlace} {fuel : Nat}
    (hf : DataW.trod enc Try.prog w base (fun _ => true) held fuel 25 [c] = some x) :
    ∃ (A : Option Addr) (cap : Nat) (l : List (List Eg)), c = .slice A l.length cap ∧ l.length ≤ cap ∧ edr w A l := by
  rcases Go.Deep.open_slice Try.underlying25 hf with ⟨h0, _⟩ | ⟨a, n, cap, m, nn, D, Pl, hcs, _, hl, hm, hmm, _, hi⟩
  · simp at h0
    exact ⟨none, 0, [], h0, Nat.le_refl _, fun i x h => by simp at h⟩
  · simp at hcs
    have hC : Try.prog.cellsOf 61 = 1 := by kernel_rfl
    have key : ∀ i, i < n → ∃ l : List Eg, ∃ A c, w.cell? (a.add i) = some (.slice A l.length c) ∧ l.length ≤ c ∧ eds w A l := by
      intro i hlt
      obtain ⟨cs, hc, htr⟩ := hi i (by rw [hmm]; split <;> omega)
      obtain ⟨_, hcl, hat⟩ := World.cells?_some hc
      rw [hC] at hcl hat
      obtain ⟨c0, rfl⟩ : ∃ c0, cs = [c0] := List.length_eq_one_iff.1 hcl
      obtain ⟨A, q, l, rfl, h1, h2⟩ := open_edges htr
      refine ⟨l, A, q, ?_, h1, h2⟩
      have := hat 0 (by omega)
      rw [Nat.mul_one, Go.Deep.add_add, Nat.add_zero] at this
      rw [this]; rfl
    obtain ⟨l, hl', hP⟩ := pickL n key
    subst hl'
    refine ⟨some a, cap, l, hcs, by omega, fun i x hx => ?_⟩
    obtain ⟨b, off, spot⟩ := a
    obtain ⟨A, q, h1, h2, h3⟩ := hP i x hx
    have h0 : 0 < l.length := by have := (List.getElem?_eq_some_iff.1 hx).1; omega
    obtain ⟨A0, q0, h10, _⟩ := hP 0 _ (List.getElem?_eq_getElem h0)
    have hspot : spot = none := by simpa [Addr.add] using World.cell?_spot h10
    subst hspot
    rw [add_pl] at h1
    exact ⟨b, off, rfl, World.block_lt_of_cell? _ _ h1, A, q, h1, h2, h3⟩
set_option maxRecDepth 100000 in
theorem open_trees {H : Type} {enc : TypeId × Value → H} {w : World} {base : Nat} {held : Bool} {v : Value} {d : DataW H} {p : List MemPlace} {r : Reach} {b0 : Nat}
    (hv : Value.okWide Try.prog w r b0 22 v) (h : DataW.Trod enc Try.prog w base (fun _ => true) held 22 v d p) :
    ∃ (A : Option Addr) (cap : Nat) (l : List (List Nd)), v = .slice A l.length cap ∧ l.length ≤ cap ∧ ndr w A l := by
  obtain ⟨A, n, cap, rfl⟩ := okWide_slice Try.underlying22 hv
  obtain ⟨fuel, hf⟩ := h
  exact open_trees_in hf
theorem open_row_in {H : Type} {enc : TypeId × Value → H} {w : World} {base : Nat} {held : Bool} {c : Value} {x : DataW H × List MemPlace} {fuel : Nat}
    (hf : DataW.trod enc Try.prog w base (fun _ => true) held fuel 26 [c] = some x) :
    ∃ (A : Option Addr) (cap : Nat) (l : List Int), c = .slice A l.length cap ∧ l.length ≤ cap ∧ row w A l.length (at0 l) ∧ ∀ z ∈ l, in64 z := by
  rcases Go.Deep.open_slice Try.underlying26 hf with ⟨h0, _⟩ | ⟨a, n, cap, m, nn, D, Pl, hcs, _, hl, hm, hmm, _, hi⟩
  · simp at h0
    exact ⟨none, 0, [], h0, Nat.le_refl _, fun i h => by simp at h, by simp⟩
  · simp at hcs
    have hC : Try.prog.cellsOf 3 = 1 := by kernel_rfl
    have key : ∀ i, i < n → ∃ z : Int, in64 z ∧ w.cell? (a.add i) = some (.int .i64 z) := by
      intro i hlt
      obtain ⟨cs, hc, htr⟩ := hi i (by rw [hmm]; split <;> omega)
      obtain ⟨_, hcl, hat⟩ := World.cells?_some hc
      rw [hC] at hcl hat
      obtain ⟨c0, rfl⟩ : ∃ c0, cs = [c0] := List.length_eq_one_iff.1 hcl
      obtain ⟨z, e0, _, w0⟩ := DataW.trod_int Try.underlying3 htr
      simp at e0
      subst e0
      refine ⟨z, in64_of w0, ?_⟩
      have := hat 0 (by omega)
      rw [Nat.mul_one, Go.Deep.add_add, Nat.add_zero] at this
      rw [this]; rfl
    obtain ⟨l, hl', hP⟩ := pickL n key
    subst hl'
    refine ⟨some a, cap, l, hcs, by omega, fun i hx => ?_, fun z hz => ?_⟩
    · obtain ⟨b, off, spot⟩ := a
      obtain ⟨_, h1⟩ := hP i _ (at0_get hx)
      have h0 : 0 < l.length := by omega
      have hspot : spot = none := by simpa [Addr.add] using World.cell?_spot (hP 0 _ (List.getElem?_eq_getElem h0)).2
      subst hspot
      rw [add_pl] at h1
      exact ⟨b, off, rfl, World.block_lt_of_cell? _ _ h1, h1⟩
    · obtain ⟨i, hi'⟩ := List.mem_iff_getElem?.1 hz
      exact (hP i z hi').1
set_option maxRecDepth 100000 in
theorem open_ints' {H : Type} {enc : TypeId × Value → H} {w : World} {base : Nat} {held : Bool} {v : Value} {d : DataW H} {p : List MemPlace} {r : Reach} {b0 : Nat}
    (hv : Value.okWide Try.prog w r b0 26 v) (h : DataW.Trod enc Try.prog w base (fun _ => true) held 26 v d p) :
    ∃ (A : Option Addr) (cap : Nat) (l : List Int), v = .slice A l.length cap ∧ l.length ≤ cap ∧ row w A l.length (at0 l) ∧ ∀ z ∈ l, in64 z := by
  obtain ⟨A, n, cap, rfl⟩ := okWide_slice Try.underlying26 hv
  obtain ⟨fuel, hf⟩ := h
  exact open_row_in hf
set_option maxRecDepth 100000 in
theorem open_nfa {H : Type} {enc : TypeId × Value → H} {w : World} {base : Nat} {held : Bool} {v : Value} {d : DataW H} {p : List MemPlace} {r : Reach} {b0 : Nat}
    (hv : Value.okWide Try.prog w r b0 28 v) (h : DataW.Trod enc Try.prog w base (fun _ => true) held 28 v d p) :
    ∃ (A1 A2 : Option Addr) (c1 c2 : Nat) (A : Au), v = .agg #[.slice A1 A.E.length c1, .int .i64 A.first, .slice A2 A.R.length c2] ∧ A.E.length ≤ c1 ∧ A.R.length ≤ c2 ∧ nfa w A1 A2 A ∧ ∀ z ∈ A.R, in64 z := by
  have ht := Try.underlying28
  simp only [Value.okWide, ht] at hv
  obtain ⟨cs, rfl, h2, _⟩ := hv
  obtain ⟨fuel, hf⟩ := h
  obtain ⟨ys, m, _, _, _, hlen, hi⟩ := DataW.trod_struct ht hf
  have hc3 : Try.prog.cellsOf 28 = 3 := by kernel_rfl
  have hce : Try.prog.cellsOf 25 = 1 := by kernel_rfl
  have hci : Try.prog.cellsOf 3 = 1 := by kernel_rfl
  have hcl : Try.prog.cellsOf 26 = 1 := by kernel_rfl
  rw [hc3] at h2
  obtain ⟨l⟩ := cs
  have hl : l.length = 3 := by simpa using h2
  obtain ⟨c0, c1, c2, rfl⟩ := len3 l hl
  obtain ⟨y0, y1, y2, rfl⟩ := len3 ys hlen
  have g0 := hi 0 _ rfl
  have g1 := hi 1 _ rfl
  have g2 := hi 2 _ rfl
  simp [Value.cells, hce, hci, hcl] at g0 g1 g2
  obtain ⟨A1, q1, E, e0, l1, r1⟩ := open_edgerows g0
  obtain ⟨k, e1, _, w1⟩ := DataW.trod_int Try.underlying3 g1
  obtain ⟨A2, q2, R, e2, l2, r2, z2⟩ := open_row_in g2
  simp at e0 e1 e2
  subst e0; subst e1; subst e2
  exact ⟨A1, A2, q1, q2, ⟨E, k, R⟩, rfl, l1, l2, ⟨r1, r2, in64_of w1⟩, z2⟩
end Go.Proofs.Ythjelilmlbbalaa.Ay
