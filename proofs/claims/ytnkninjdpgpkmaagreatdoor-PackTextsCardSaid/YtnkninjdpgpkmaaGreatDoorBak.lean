/-
  A head that came in as an argument, opened: a truth, two integers and two lists of ints; a package variable of nineteen ints.
  Conditions: as each theorem says.
-/
import Derived.Test.YtnkninjdpgpkmaaGreatDoorBac
import Derived.Test.YtnkninjdpgpkmaaGreatDoorBaj
import Derived.Test.YtnkninjdpgpkmaaGreatDoorRows
import Derived.LaidMore
import Derived.Stop.Joined
namespace Go.Proofs.YtnkninjdpgpkmaaGreatDoor.Ky
open Go.ChangeShapes Go.WideShapes Go.ChangeAt Go.RowKit Go.Proofs.YtnkninjdpgpkmaaGreatDoor.Na Go.Proofs.YtnkninjdpgpkmaaGreatDoor.Km Go.Proofs.YtnkninjdpgpkmaaGreatDoor.Nm

theorem open_row' {H : Type} {enc : TypeId × Value → H} {P : Program} {w : World} {base : Nat} {held : Bool} {t e : TypeId} {c : Value} {x : DataW H × List MemPlace} {fuel : Nat}
    (ht : P.underlying t = some (.slice e)) (he : P.underlying e = some (.int .i64)) (hc : P.cellsOf e = 1) (hf : DataW.trod enc P w base (fun _ => true) held fuel t [c] = some x) :
    ∃ (A : Option Addr) (n cap : Nat) (f : Nat → Int), c = .slice A n cap ∧ n ≤ 9223372036854775807 ∧ row w A n f := by
  rcases open_ints ht he hc hf with ⟨h0, _⟩ | ⟨a, len, cap, zs, hcs, _, hl, hm, hz, _, hcell, _⟩
  · simp at h0
    exact ⟨none, 0, 0, fun _ => 0, h0, by omega, row_none _ _ _⟩
  · simp at hcs
    unfold maxLen at hm
    refine ⟨some a, len, cap, fun i => zs.getD i 0, hcs, by omega, fun i hi => ?_⟩
    have hzl : zs.length = cap := by simpa using hz
    have h1 := hcell i (by omega)
    obtain ⟨b, off, spot⟩ := a
    have hspot : spot = none := by simpa [Addr.add] using World.cell?_spot (hcell 0 (by omega))
    subst hspot
    rw [add_plain] at h1
    exact ⟨b, off, rfl, World.block_lt_of_cell? _ _ h1, h1⟩

theorem len5 {α : Type} : ∀ l : List α, l.length = 5 → ∃ a b c d e, l = [a, b, c, d, e]
  | [a, b, c, d, e], _ => ⟨a, b, c, d, e, rfl⟩

set_option maxRecDepth 100000 in
theorem open_head {H : Type} {enc : TypeId × Value → H} {w : World} {base : Nat} {held : Bool} {v : Value} {d : DataW H} {p : List MemPlace} {r : Reach} {b0 : Nat}
    (hv : Value.okWide Tryz.prog w r b0 77 v) (h : DataW.Trod enc Tryz.prog w base (fun _ => true) held 77 v d p) :
    ∃ (b : Bool) (k z : Int) (A1 : Option Addr) (n1 c1 : Nat) (f1 : Nat → Int) (A2 : Option Addr) (n2 c2 : Nat) (f2 : Nat → Int), v = .agg #[.bool b, .int .i64 k, .int .i64 z, .slice A1 n1 c1, .slice A2 n2 c2] ∧ (Lit.int .i64 k).wf = true ∧ (Lit.int .i64 z).wf = true
      ∧ n1 ≤ 9223372036854775807 ∧ row w A1 n1 f1 ∧ n2 ≤ 9223372036854775807 ∧ row w A2 n2 f2 := by
  have ht := Tryz.underlying77
  simp only [Value.okWide, ht] at hv
  obtain ⟨cs, rfl, h2, _⟩ := hv
  obtain ⟨fuel, hf⟩ := h
  obtain ⟨ys, m, _, _, _, hlen, hi⟩ := DataW.trod_struct ht hf
  have hc5 : Tryz.prog.cellsOf 77 = 5 := by kernel_rfl
  have hcb : Tryz.prog.cellsOf 4 = 1 := by kernel_rfl
  have hci : Tryz.prog.cellsOf 3 = 1 := by kernel_rfl
  have hcl : Tryz.prog.cellsOf 22 = 1 := by kernel_rfl
  rw [hc5] at h2
  obtain ⟨l⟩ := cs
  have hl : l.length = 5 := by simpa using h2
  obtain ⟨c0, c1, c2, c3, c4, rfl⟩ := len5 l hl
  obtain ⟨y0, y1, y2, y3, y4, rfl⟩ := len5 ys hlen
  have g0 := hi 0 _ rfl
  have g1 := hi 1 _ rfl
  have g2 := hi 2 _ rfl
  have g3 := hi 3 _ rfl
  have g4 := hi 4 _ rfl
  simp [Value.cells, hcb, hci, hcl] at g0 g1 g2 g3 g4
  obtain ⟨b, e0, _⟩ := DataW.trod_bool Tryz.underlying4 g0
  obtain ⟨k, e1, _, w1⟩ := DataW.trod_int Tryz.underlying3 g1
  obtain ⟨z, e2, _, w2⟩ := DataW.trod_int Tryz.underlying3 g2
  obtain ⟨A1, n1, q1, f1, e3, l1, r1⟩ := open_row' Tryz.underlying22 Tryz.underlying3 hci g3
  obtain ⟨A2, n2, q2, f2, e4, l2, r2⟩ := open_row' Tryz.underlying22 Tryz.underlying3 hci g4
  simp at e0 e1 e2
  subst e0; subst e1; subst e2; subst e3; subst e4
  exact ⟨b, k, z, A1, n1, q1, f1, A2, n2, q2, f2, rfl, w1, w2, l1, r1, l2, r2⟩

/-- The order of the code of lengths, in memory. -/
def ordM (w : World) : Prop := 0 < w.heap.size ∧ ∀ i, i < 19 → w.cell? ⟨0, i, none⟩ = some (.int .i64 (ord i : Nat))
theorem ordM.below {w w' : World} (h : ordM w) (k : Below w.heap.size w w') : ordM w' :=
  ⟨Nat.lt_of_lt_of_le h.1 k.size, fun i hi => (k.cell (p := ⟨0, i, none⟩) h.1).trans (h.2 i hi)⟩
/-- What is laid. -/
def laidO : List (String × DataW Unit) := [("collimator/block.order", Rows.laid_collimator_block_order)]
theorem gO : Tryz.prog.globalNamed "collimator/block.order" = some 0 := by kernel_rfl
theorem tO : (Tryz.prog.globals[0]?).map (·.type) = some 198 := by kernel_rfl
theorem door_met (os : Os) (args : Array Value) : laidMetH Tryz.prog laidO ((World.doorLaid Tryz.prog 400 os).forCall (fun _ _ => 0) ⟨#[], args, []⟩).memory :=
  laidMetH_of_parts3 (fuel := 8) (laidMet_of_run' 8 (by kernel_rfl) (by kernel_rfl)) (by kernel_rfl) (by kernel_rfl)
set_option maxRecDepth 100000 in
theorem of_laid {W : World} (h : laidMetH Tryz.prog laidO W) : ordM W := by
  rw [MakeChecks.laidMetH_plain _ _ _ (by kernel_rfl)] at h
  obtain ⟨ps, ⟨g0, t0, cs0, f0, p0, q0, hg0, ht0, hv0, hd0, _, _⟩, _, _⟩ := h
  obtain rfl := Option.some.inj (gO.symm.trans hg0)
  obtain rfl := Option.some.inj (tO.symm.trans ht0)
  obtain ⟨xs, m1, _, hx1, hlen, hn3, hel⟩ := DataW.trod_array Tryz.underlying198 hd0
  have c3 : Tryz.prog.cellsOf 3 = 1 := by kernel_rfl
  have c19 : Tryz.prog.cellsOf 198 = 19 := by kernel_rfl
  rw [c19] at hlen
  simp only [Prod.mk.injEq] at hx1
  have hD : xs.map (·.1) = ords.map (fun o : Nat => (DataW.lit (.int .i64 (o : Int)) : DataW Unit)) := by
    have h1 : (DataW.agg (ords.map (fun o : Nat => (DataW.lit (.int .i64 (o : Int)) : DataW Unit))) : DataW Unit) = DataW.agg (List.map (fun x => x.fst) xs) := hx1.1
    exact (DataW.agg.inj h1).symm
  have hcell := World.var?_cell hg0 hv0
  have key : ∀ i, i < 19 → W.cell? ⟨0, i, none⟩ = some (.int .i64 (ord i : Nat)) := by
    intro i hi
    have h := hel i hi
    rw [c3, Nat.mul_one] at h
    rw [List.getElem?_eq_getElem (by omega)] at h
    obtain ⟨k, e1, e2, _⟩ := DataW.trod_int Tryz.underlying3 h
    have e3 := congrArg (fun l => l[i]?) hD
    simp only [List.getElem?_map] at e3
    rw [List.getElem?_eq_getElem (by omega), List.getElem?_eq_getElem (show i < ords.length from hi), e2] at e3
    simp only [Option.map_some, Option.some.injEq, DataW.lit.injEq, Lit.int.injEq, true_and] at e3
    have e4 : (ord i : Nat) = ords[i]'hi := by
      unfold ord nth; rw [List.getD_eq_getElem?_getD, List.getElem?_eq_getElem (show i < ords.length from hi)]; rfl
    have h5 := congrArg (fun l => l[0]?) e1
    simp only [List.getElem?_take, List.getElem?_drop] at h5
    have h6 := hcell i
    simp at h5 h6
    rw [h6]
    rw [h5, e3, e4]
    rfl
  exact ⟨World.block_lt_of_cell? _ _ (key 0 (by omega)), key⟩
end Go.Proofs.YtnkninjdpgpkmaaGreatDoor.Ky
