/-
  The table: what Table hands back.
  Conditions: none.
-/
import Derived.Test.YtgilfjojimgpaaaCe
import Derived.Deep.WholeRow
namespace Go.Proofs.Ytgilfjojimgpaaa.Ct
open Go.RowKit Go.Proofs.Ytgilfjojimgpaaa.Cm Go.Proofs.Ytgilfjojimgpaaa.Ce Go.PlainAid

/-- The table's cells when so many entries stand. -/
def tabTo (k : Nat) : Array Value := Array.ofFn (n := 256) fun i => .int .u32 ((if i.val < k then entry i.val else 0 : Nat) : Int)
theorem tabTo_size (k : Nat) : (tabTo k).size = 256 := by simp [tabTo]
theorem tabTo_zero : tabTo 0 = Array.replicate 256 (.int .u32 0) := by
  apply Array.ext
  · simp [tabTo]
  · intro i h1 h2
    simp [tabTo]
theorem tabTo_succ (k : Nat) : (tabTo k).setIfInBounds k (.int .u32 (entry k)) = tabTo (k + 1) := by
  apply Array.ext
  · simp [tabTo]
  · intro i h1 h2
    have hi : i < (tabTo k).size := by simpa using h1
    rw [Array.getElem_setIfInBounds hi]
    split
    · next h => subst h; simp [tabTo]
    · next h =>
      have : (i < k) ↔ (i < k + 1) := by omega
      simp [tabTo, this]
theorem tabTo_get (k : Nat) (hk : k < 256) : (tabTo 256)[k]? = some (.int .u32 (entry k)) := by
  simp [tabTo, hk]

theorem tabTo_one (k : Nat) : (tabTo k).all (·.oneCell') = true := by
  rw [Array.all_eq_true]
  intro i hi
  simp [tabTo, Value.oneCell']

theorem start3 (w : World) (A B C : Obj) : (((w.alloc A).alloc B).alloc C).heap[w.heap.size]? = some A ∧ (((w.alloc A).alloc B).alloc C).heap[w.heap.size + 1]? = some B
    ∧ (((w.alloc A).alloc B).alloc C).heap[w.heap.size + 1 + 1]? = some C ∧ Below w.heap.size w (((w.alloc A).alloc B).alloc C) := by
  have h (w : World) (A : Obj) (k : Nat) (h : k < w.heap.size) : (w.alloc A).heap[k]? = w.heap[k]? := Below.heap_alloc w A k h
  have hs (w : World) (A : Obj) : (w.alloc A).heap.size = w.heap.size + 1 := by show (w.heap.push A).size = _; simp
  refine ⟨?_, ?_, ?_, (((Below.refl _ _).alloc (by simp) _).alloc (by simp) _).alloc (by simp; omega) _⟩
  · rw [h _ _ _ (by rw [hs, hs]; omega), h _ _ _ (by rw [hs]; omega), heap_alloc_last]
  · rw [h _ _ _ (by rw [hs, hs]; omega), ← hs w A, heap_alloc_last]
  · rw [← hs w A, ← hs (w.alloc A) B, heap_alloc_last]
theorem Below_setRow {B : Nat} {a w : World} (h : Below B a w) {g : Nat} (hg : B ≤ g) (cs : Array Value) : Below B a (w.setRow g cs) :=
  ⟨h.os, h.tape, h.output, by rw [setRow_size]; exact h.size, fun k hk => (setRow_other w g k cs (by omega)).trans (h.block k hk)⟩

theorem info27 : (Try.prog.info? 66).map (fun i => (i.zero, i.size)) = some (some (.agg (Array.replicate 256 (.int .u32 0))), 256) := by kernel_rfl

set_option maxRecDepth 100000 in
theorem Table_any (w : World) :
    Calls Try.prog 49 #[] w fun e w' => e = .returned (.agg (tabTo 256)) ∧ Below w.heap.size w w' := by
  obtain ⟨hz, hsz⟩ := zero_of_info info27
  rw [← tabTo_zero] at hz
  go_enter Try.func49, Try.ntmps49
  go_wp2_with fail
  refine (entryBy_any _).mono ?_
  rintro e w1 ⟨rfl, rfl⟩
  go_wp2
  go_loopw [5] (fun i wr => ∃ (k : Nat), i = .int .i64 k ∧ k ≤ 256 ∧ Hid (wr.heap[w.heap.size]? = some (.cells (tabTo 0) 66 (0, 0))) ∧ wr.cell? ⟨w.heap.size + 1, 0, none⟩ = some (.int .u32 3988292384)
      ∧ Hid (wr.heap[w.heap.size + 1 + 1]? = some (.cells (tabTo k) 66 (0, 0))) ∧ Below w.heap.size w wr)
    (fun i _ => (256 - intOf i).toNat)
  case atStart =>
    refine ⟨0, rfl, by omega, Lib.hid ?_, ?_, Lib.hid ?_, ?_⟩
    · exact (start3 w _ _ _).1
    · rw [cell_of_row _ _ _ _ _ _ (start3 w _ _ _).2.1]; rfl
    · exact (start3 w _ _ _).2.2.1
    · exact (start3 w _ _ _).2.2.2
  case round =>
    obtain ⟨k, rfl, hk, HR, hbox, HT, hbel⟩ := hrel
    by_cases h8 : k < 256
    · have hcell : wr.cell? ⟨w.heap.size + 1 + 1, k, none⟩ = (tabTo k)[k]? := cell_of_row _ _ _ _ _ _ HT.out
      obtain ⟨v, hv⟩ : ∃ v, (tabTo k)[k]? = some v := ⟨_, Array.getElem?_eq_getElem (by rw [tabTo_size]; exact h8)⟩
      rw [hv] at hcell
      have hfr := frozen_of_row wr _ k _ _ HT.out
      clear hv hz hsz
      go_wp2_with fail
      refine (closure_any k h8 _ _ hbox).mono ?_
      rintro e w' ⟨rfl, rfl⟩
      go_wp2
      go_roundw
      case rel =>
        refine ⟨k + 1, by go_num, by omega, Lib.hid ?_, ?_, Lib.hid ?_, hbel.setCell (by simp; omega) _⟩
        · rw [heap_setCell_other _ _ _ _ (by simp; omega)]; exact HR.out
        · rw [World.cell?_of_block (w := wr) (heap_setCell_other _ _ _ _ (by simp))]; exact hbox
        · rw [heap_setCell_same _ _ _ _ _ _ HT.out, tabTo_succ]
      case measure => simp [intOf]; omega
    · have hk8 := Lib.hid (show k = 256 by omega)
      have HT' : Hid (wr.heap[w.heap.size + 1 + 1]? = some (.cells (tabTo 256) 66 (0, 0))) := by rw [hk8.out] at HT; exact HT
      have HZ := Lib.hid hsz
      have hlt : ¬ ((k : Int) < 256) := by omega
      clear hz hsz hk h8
      go_wp2_with (first | (refine wpList_load_row rfl 66 _ rfl (w.heap.size + 1 + 1) rfl _ _ _ _ HT'.out Try.underlying66 rfl (by rw [tabTo_size]; exact HZ.out) ?_) | (refine wpList_store_row rfl 66 _ _ rfl w.heap.size (tabTo 256) rfl rfl _ _ HR.out (by rw [tabTo_size]; exact HZ.out) (by rw [tabTo_size, tabTo_size]) (tabTo_one 256) ?_))
      refine bodyPost_ret (v := .agg (tabTo 256)) ?_ rfl ⟨rfl, Below_setRow hbel (Nat.le_refl _) _⟩
      exact results_cell_row rfl _ _ w.heap.size 66 _ _ _ rfl (setRow_heap _ _ _ _ _ _ HR.out) Try.underlying66 rfl (by rw [tabTo_size]; exact HZ.out)
end Go.Proofs.Ytgilfjojimgpaaa.Ct
