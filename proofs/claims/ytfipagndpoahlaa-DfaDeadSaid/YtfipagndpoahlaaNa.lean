/-
  Rows of ints: a slice that is read, an array or a slice of the call's own known whole.
  Conditions: as each theorem says. Nothing of the program is named here.
-/
import Derived.WalkKit
import Derived.Deep.WholeRow
import Derived.Test.YtfipagndpoahlaaBw
namespace Go.Proofs.Ytfipagndpoahlaa.Na
open Go.RowKit Go.Proofs.Ytfipagndpoahlaa.Bw

/-- Cells of n ints. -/
def arr (n : Nat) (f : Nat → Int) : Array Value := Array.ofFn (n := n) fun i => .int .i64 (f i.val)
theorem arr_size (n : Nat) (f : Nat → Int) : (arr n f).size = n := by simp [arr]
theorem arr_get {n : Nat} (f : Nat → Int) {i : Nat} (h : i < n) : (arr n f)[i]? = some (.int .i64 (f i)) := by simp [arr, h]
theorem arr_congr {n : Nat} {f g : Nat → Int} (h : ∀ i, i < n → f i = g i) : arr n f = arr n g := by
  apply Array.ext
  · simp [arr]
  · intro i h1 h2
    simp [arr] at h1
    simp [arr, h i h1]
theorem arr_set (n : Nat) (f : Nat → Int) (k : Nat) (v : Int) : (arr n f).setIfInBounds k (.int .i64 v) = arr n (fun i => if i = k then v else f i) := by
  apply Array.ext
  · simp [arr]
  · intro i h1 h2
    have hi : i < (arr n f).size := by simpa using h1
    rw [Array.getElem_setIfInBounds hi]
    by_cases h : i = k
    · subst h; simp [arr]
    · rw [if_neg (fun e => h e.symm)]; simp [arr, h]
theorem arr_zero (n : Nat) : Array.replicate n (Value.int .i64 0) = arr n (fun _ => 0) := by
  apply Array.ext
  · simp [arr]
  · intro i h1 h2
    simp [arr]
theorem arr_one (n : Nat) (f : Nat → Int) : (arr n f).all (·.oneCell') = true := by
  rw [Array.all_eq_true]
  intro i hi
  simp [arr, Value.oneCell']

/-- The first n cells from A on hold these ints. -/
def row (w : World) (A : Option Addr) (n : Nat) (f : Nat → Int) : Prop := ∀ i, i < n → ∃ b off : Nat, A = some ⟨b, off, none⟩ ∧ b < w.heap.size ∧ w.cell? ⟨b, off + i, none⟩ = some (.int .i64 (f i))
theorem row.below {w w' : World} {A : Option Addr} {n : Nat} {f : Nat → Int} (h : row w A n f) (k : Below w.heap.size w w') : row w' A n f := fun i hi => by
  obtain ⟨b, off, e, hb, hc⟩ := h i hi
  exact ⟨b, off, e, Nat.lt_of_lt_of_le hb k.size, (k.cell (p := ⟨b, off + i, none⟩) hb).trans hc⟩
theorem row.congr {w : World} {A : Option Addr} {n : Nat} {f g : Nat → Int} (h : row w A n f) (e : ∀ i, i < n → f i = g i) : row w A n g := fun i hi => by
  rw [← e i hi]; exact h i hi
theorem row_of_blk {w : World} {g : Nat} {t : TypeId} {n : Nat} {f : Nat → Int} (h : Blk w g t (arr n f)) : row w (some ⟨g, 0, none⟩) n f := fun i hi =>
  ⟨g, 0, rfl, h.lt, by rw [Nat.zero_add, h.cell, arr_get f hi]⟩
theorem row_none (w : World) (A : Option Addr) (f : Nat → Int) : row w A 0 f := fun i hi => absurd hi (by omega)
theorem ret_i64 {a b : Int} (h : a = b) : Ending.returned (.int .i64 a) = .returned (.int .i64 b) := by rw [h]
theorem ret_bool {a b : Bool} (h : a = b) : Ending.returned (.bool a) = .returned (.bool b) := by rw [h]
theorem below_alloc (w : World) (o : Obj) : Below w.heap.size w (w.alloc o) := (Below.refl _ _).alloc (Nat.le_refl _) o
theorem size_alloc (w : World) (o : Obj) : (w.alloc o).heap.size = w.heap.size + 1 := by show (w.heap.push o).size = _; simp
theorem _root_.Go.Proofs.Ytfipagndpoahlaa.Bw.Blk.apartStore {w : World} {g : Nat} {t : TypeId} {cs : Array Value} (h : Blk w g t cs) {p : Addr} {u : Value} (hp : g ≠ p.block) : Blk (w.setCell p u) g t cs := by
  unfold Blk at h ⊢
  rw [Below.heap_setCell _ _ _ _ (fun e => hp e)]; exact h
theorem Below_setRow {B : Nat} {a w : World} (h : Below B a w) {g : Nat} (hg : B ≤ g) (cs : Array Value) : Below B a (w.setRow g cs) :=
  ⟨h.os, h.tape, h.output, by rw [setRow_size]; exact h.size, fun k hk => (setRow_other w g k cs (by omega)).trans (h.block k hk)⟩
theorem start3 (w : World) (t1 t2 t3 : TypeId) (c1 c2 c3 : Array Value) :
    Blk (((w.alloc (.cells c1 t1)).alloc (.cells c2 t2)).alloc (.cells c3 t3)) w.heap.size t1 c1 ∧ Blk (((w.alloc (.cells c1 t1)).alloc (.cells c2 t2)).alloc (.cells c3 t3)) (w.heap.size + 1) t2 c2
    ∧ Blk (((w.alloc (.cells c1 t1)).alloc (.cells c2 t2)).alloc (.cells c3 t3)) (w.heap.size + 1 + 1) t3 c3 ∧ Below w.heap.size w (((w.alloc (.cells c1 t1)).alloc (.cells c2 t2)).alloc (.cells c3 t3)) := by
  refine ⟨((Blk.fresh w _ _).below (below_alloc _ _)).below (below_alloc _ _), ?_, ?_, grows (below_alloc _ _) (grows (below_alloc _ _) (below_alloc _ _))⟩
  · have := (Blk.fresh (w.alloc (.cells c1 t1)) t2 c2).below (below_alloc _ (.cells c3 t3))
    rw [size_alloc] at this; exact this
  · have := Blk.fresh ((w.alloc (.cells c1 t1)).alloc (.cells c2 t2)) t3 c3
    rw [size_alloc, size_alloc] at this; exact this
theorem below_drew {B : Nat} {a b : World} (h : Below B a b) : Below B a b.drew := ⟨h.os, h.tape, h.output, h.size, h.block⟩
end Go.Proofs.Ytfipagndpoahlaa.Na
