/-
  Arguments opened: a case (a string, an integer, a string, a list of ints, a list of bools).
  Arguments opened: a case, with the bounds of its ints.
  Conditions: as each theorem says.
-/
import Derived.Test.YtnkninjdpgpkmaaGreatDoorBak
import Derived.Deep.Grids
namespace Go.Proofs.YtnkninjdpgpkmaaGreatDoor.Iv
open Go.ChangeShapes Go.WideShapes Go.ChangeAt Go.RowKit Go.Proofs.YtnkninjdpgpkmaaGreatDoor.Na Go.Proofs.YtnkninjdpgpkmaaGreatDoor.Ky

/-- A row of bools that is read. -/
def rowB (w : World) (A : Option Addr) (n : Nat) (f : Nat → Bool) : Prop := ∀ i, i < n → ∃ b off, A = some ⟨b, off, none⟩ ∧ b < w.heap.size ∧ w.cell? ⟨b, off + i, none⟩ = some (.bool (f i))
theorem rowB.below {w w' : World} {A : Option Addr} {n : Nat} {f : Nat → Bool} (h : rowB w A n f) (k : Below w.heap.size w w') : rowB w' A n f := fun i hi => by
  obtain ⟨b, off, rfl, hb, hc⟩ := h i hi
  exact ⟨b, off, rfl, Nat.lt_of_lt_of_le hb k.size, (k.cell (p := ⟨b, off + i, none⟩) hb).trans hc⟩
theorem open_rowB {H : Type} {enc : TypeId × Value → H} {P : Program} {w : World} {base : Nat} {held : Bool} {t e : TypeId} {c : Value} {x : DataW H × List MemPlace} {fuel : Nat}
    (ht : P.underlying t = some (.slice e)) (he : P.underlying e = some .bool) (hc : P.cellsOf e = 1) (hf : DataW.trod enc P w base (fun _ => true) held fuel t [c] = some x) :
    ∃ (A : Option Addr) (n cap : Nat) (f : Nat → Bool), c = .slice A n cap ∧ n ≤ 9223372036854775807 ∧ rowB w A n f := by
  rcases Go.Deep.open_bools ht he hc hf with ⟨h0, _⟩ | ⟨a, len, cap, B, hcs, _, hl, hm, _, hcell⟩
  · simp at h0
    exact ⟨none, 0, 0, fun _ => false, h0, by omega, fun i hi => absurd hi (by omega)⟩
  · simp at hcs
    unfold maxLen at hm
    refine ⟨some a, len, cap, B, hcs, by omega, fun i hi => ?_⟩
    have h1 := hcell i (by omega)
    obtain ⟨b, off, spot⟩ := a
    have hspot : spot = none := by simpa [Addr.add] using World.cell?_spot (hcell 0 (by omega))
    subst hspot
    rw [add_plain] at h1
    exact ⟨b, off, rfl, World.block_lt_of_cell? _ _ h1, h1⟩

set_option maxRecDepth 100000 in
theorem open_case {H : Type} {enc : TypeId × Value → H} {w : World} {base : Nat} {held : Bool} {v : Value} {d : DataW H} {p : List MemPlace} {r : Reach} {b0 : Nat}
    (hv : Value.okWide Tryz.prog w r b0 25 v) (h : DataW.Trod enc Tryz.prog w base (fun _ => true) held 25 v d p) :
    ∃ (s : ByteArray) (z : Int) (q : ByteArray) (A1 : Option Addr) (n1 c1 : Nat) (f1 : Nat → Int) (A2 : Option Addr) (n2 c2 : Nat) (f2 : Nat → Bool), v = .agg #[.string s, .int .i64 z, .string q, .slice A1 n1 c1, .slice A2 n2 c2] ∧ s.size ≤ maxLen ∧ (Lit.int .i64 z).wf = true ∧ q.size ≤ maxLen
      ∧ n1 ≤ 9223372036854775807 ∧ row w A1 n1 f1 ∧ n2 ≤ 9223372036854775807 ∧ rowB w A2 n2 f2 := by
  have ht := Tryz.underlying25
  simp only [Value.okWide, ht] at hv
  obtain ⟨cs, rfl, h2, _⟩ := hv
  obtain ⟨fuel, hf⟩ := h
  obtain ⟨ys, m, _, _, _, hlen, hi⟩ := DataW.trod_struct ht hf
  have hc5 : Tryz.prog.cellsOf 25 = 5 := by kernel_rfl
  have hcs : Tryz.prog.cellsOf 9 = 1 := by kernel_rfl
  have hci : Tryz.prog.cellsOf 3 = 1 := by kernel_rfl
  have hcl : Tryz.prog.cellsOf 22 = 1 := by kernel_rfl
  have hcm : Tryz.prog.cellsOf 23 = 1 := by kernel_rfl
  have hcb : Tryz.prog.cellsOf 4 = 1 := by kernel_rfl
  rw [hc5] at h2
  obtain ⟨l⟩ := cs
  have hl : l.length = 5 := by simpa using h2
  obtain ⟨c0, c1, c2, c3, c4, rfl⟩ := len5 l hl
  obtain ⟨y0, y1, y2, y3, y4, rfl⟩ := len5 ys hlen
  have g0 := hi 0 _ rfl
  have g1 := hi 1 _ rfl
  have g2 := hi 2 _ rfl
  have g3 := hi 3 _ rfl
  have g4 := hi 4 _ rfl
  simp [Value.cells, hcs, hci, hcl, hcm] at g0 g1 g2 g3 g4
  obtain ⟨b, e0, _, w0⟩ := DataW.trod_string Tryz.underlying9 g0
  obtain ⟨k, e1, _, w1⟩ := DataW.trod_int Tryz.underlying3 g1
  obtain ⟨z, e2, _, w2⟩ := DataW.trod_string Tryz.underlying9 g2
  obtain ⟨A1, n1, q1, f1, e3, l1, r1⟩ := open_row' Tryz.underlying22 Tryz.underlying3 hci g3
  obtain ⟨A2, n2, q2, f2, e4, l2, r2⟩ := open_rowB Tryz.underlying23 Tryz.underlying4 hcb g4
  simp at e0 e1 e2
  subst e0; subst e1; subst e2; subst e3; subst e4
  exact ⟨b, k, z, A1, n1, q1, f1, A2, n2, q2, f2, rfl, w0, w1, w2, l1, r1, l2, r2⟩
end Go.Proofs.YtnkninjdpgpkmaaGreatDoor.Iv
namespace Go.Proofs.YtnkninjdpgpkmaaGreatDoor.Iva
open Go.ChangeShapes Go.WideShapes Go.ChangeAt Go.RowKit Go.Proofs.YtnkninjdpgpkmaaGreatDoor.Na Go.Proofs.YtnkninjdpgpkmaaGreatDoor.Ky Go.Proofs.YtnkninjdpgpkmaaGreatDoor.Iv

theorem open_rowI {H : Type} {enc : TypeId × Value → H} {P : Program} {w : World} {base : Nat} {held : Bool} {t e : TypeId} {c : Value} {x : DataW H × List MemPlace} {fuel : Nat}
    (ht : P.underlying t = some (.slice e)) (he : P.underlying e = some (.int .i64)) (hc : P.cellsOf e = 1) (hf : DataW.trod enc P w base (fun _ => true) held fuel t [c] = some x) :
    ∃ (A : Option Addr) (n cap : Nat) (f : Nat → Int), c = .slice A n cap ∧ n ≤ 9223372036854775807 ∧ row w A n f ∧ (∀ i, i < n → f i ≤ 9223372036854775807) := by
  rcases open_ints ht he hc hf with ⟨h0, _⟩ | ⟨a, len, cap, zs, hcs, _, hl, hm, hz, _, hcell, hwf⟩
  · simp at h0
    exact ⟨none, 0, 0, fun _ => 0, h0, by omega, row_none _ _ _, fun i hi => by omega⟩
  · simp at hcs
    unfold maxLen at hm
    have hzl : zs.length = cap := by simpa using hz
    refine ⟨some a, len, cap, fun i => zs.getD i 0, hcs, by omega, fun i hi => ?_, fun i hi => ?_⟩
    · have h1 := hcell i (by omega)
      obtain ⟨b, off, spot⟩ := a
      have hspot : spot = none := by simpa [Addr.add] using World.cell?_spot (hcell 0 (by omega))
      subst hspot
      rw [add_plain] at h1
      exact ⟨b, off, rfl, World.block_lt_of_cell? _ _ h1, h1⟩
    · have hlt : i < zs.length := by omega
      have e : zs.getD i 0 = zs[i] := by rw [List.getD_eq_getElem?_getD, List.getElem?_eq_getElem hlt]; rfl
      show zs.getD i 0 ≤ _
      rw [e]
      have h2 : -9223372036854775808 ≤ zs[i] ∧ zs[i] ≤ 9223372036854775807 := by simpa [Lit.wf, IntKind.min, IntKind.max, IntKind.signed, IntKind.bits] using hwf _ (List.getElem_mem hlt)
      exact h2.2

set_option maxRecDepth 100000 in
theorem open_case_b {H : Type} {enc : TypeId × Value → H} {w : World} {base : Nat} {held : Bool} {v : Value} {d : DataW H} {p : List MemPlace} {r : Reach} {b0 : Nat}
    (hv : Value.okWide Tryz.prog w r b0 25 v) (h : DataW.Trod enc Tryz.prog w base (fun _ => true) held 25 v d p) :
    ∃ (s : ByteArray) (z : Int) (q : ByteArray) (A1 : Option Addr) (n1 c1 : Nat) (f1 : Nat → Int) (A2 : Option Addr) (n2 c2 : Nat) (f2 : Nat → Bool), v = .agg #[.string s, .int .i64 z, .string q, .slice A1 n1 c1, .slice A2 n2 c2] ∧ s.size ≤ maxLen ∧ (Lit.int .i64 z).wf = true ∧ q.size ≤ maxLen
      ∧ n1 ≤ 9223372036854775807 ∧ row w A1 n1 f1 ∧ (∀ i, i < n1 → f1 i ≤ 9223372036854775807) ∧ n2 ≤ 9223372036854775807 ∧ rowB w A2 n2 f2 := by
  have ht := Tryz.underlying25
  simp only [Value.okWide, ht] at hv
  obtain ⟨cs, rfl, h2, _⟩ := hv
  obtain ⟨fuel, hf⟩ := h
  obtain ⟨ys, m, _, _, _, hlen, hi⟩ := DataW.trod_struct ht hf
  have hc5 : Tryz.prog.cellsOf 25 = 5 := by kernel_rfl
  have hcs : Tryz.prog.cellsOf 9 = 1 := by kernel_rfl
  have hci : Tryz.prog.cellsOf 3 = 1 := by kernel_rfl
  have hcl : Tryz.prog.cellsOf 22 = 1 := by kernel_rfl
  have hcm : Tryz.prog.cellsOf 23 = 1 := by kernel_rfl
  have hcb : Tryz.prog.cellsOf 4 = 1 := by kernel_rfl
  rw [hc5] at h2
  obtain ⟨l⟩ := cs
  have hl : l.length = 5 := by simpa using h2
  obtain ⟨c0, c1, c2, c3, c4, rfl⟩ := len5 l hl
  obtain ⟨y0, y1, y2, y3, y4, rfl⟩ := len5 ys hlen
  have g0 := hi 0 _ rfl
  have g1 := hi 1 _ rfl
  have g2 := hi 2 _ rfl
  have g3 := hi 3 _ rfl
  have g4 := hi 4 _ rfl
  simp [Value.cells, hcs, hci, hcl, hcm] at g0 g1 g2 g3 g4
  obtain ⟨b, e0, _, w0⟩ := DataW.trod_string Tryz.underlying9 g0
  obtain ⟨k, e1, _, w1⟩ := DataW.trod_int Tryz.underlying3 g1
  obtain ⟨z, e2, _, w2⟩ := DataW.trod_string Tryz.underlying9 g2
  obtain ⟨A1, n1, q1, f1, e3, l1, r1, hf1⟩ := open_rowI Tryz.underlying22 Tryz.underlying3 hci g3
  obtain ⟨A2, n2, q2, f2, e4, l2, r2⟩ := open_rowB Tryz.underlying23 Tryz.underlying4 hcb g4
  simp at e0 e1 e2
  subst e0; subst e1; subst e2; subst e3; subst e4
  exact ⟨b, k, z, A1, n1, q1, f1, A2, n2, q2, f2, rfl, w0, w1, w2, l1, r1, hf1, l2, r2⟩
end Go.Proofs.YtnkninjdpgpkmaaGreatDoor.Iva
