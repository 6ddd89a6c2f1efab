/-
  countByLength, kraft, firstCodes: arrays of sixteen ints.
  Conditions: the lengths are valid.
-/
import Derived.Test.YtgbdecnaamlekaaDoorNi
import Derived.Deep.RegionHeld3
import Derived.BigRegion
namespace Go.Proofs.YtgbdecnaamlekaaDoor.Nc
open Go.RowKit Go.Proofs.YtgbdecnaamlekaaDoor.Na Go.Proofs.YtgbdecnaamlekaaDoor.Nm Go.Proofs.YtgbdecnaamlekaaDoor.Bw Go.Proofs.YtgbdecnaamlekaaDoor.Ni

theorem infoC : (Tryd.prog.info? 113).map (fun i => (i.zero, i.size)) = some (some (.agg (Array.replicate 16 (.int .i64 0))), 16) := by kernel_rfl
theorem infoA : (Tryd.prog.info? 112).map (fun i => (i.zero, i.size)) = some (some (.agg (Array.replicate 16 (.int .i64 0))), 16) := by kernel_rfl

/-- The row of lengths, in Nat. -/
def lens (w : World) (A : Option Addr) (l : List Nat) : Prop := row w A l.length (fun i => (nth l i : Int))
theorem lens.get {w : World} {A : Option Addr} {l : List Nat} (h : lens w A l) {k : Nat} (hk : k < l.length) : ∃ b off : Nat, A = some ⟨b, off, none⟩ ∧ b < w.heap.size ∧ w.cell? ⟨b, off + k, none⟩ = some (.int .i64 (nth l k : Int)) := h k hk
theorem lens.below {w w' : World} {A : Option Addr} {l : List Nat} (h : lens w A l) (k : Below w.heap.size w w') : lens w' A l := row.below h k

set_option maxRecDepth 100000 in
theorem count_any {A : Option Addr} {cap : Nat} {l : List Nat} (hn : l.length ≤ 320) (hl : ∀ i, nth l i ≤ 15) {w : World} (HC : Hid (lens w A l)) :
    Calls Tryd.prog 92 #[.slice A l.length cap] w fun e w' => e = .returned (.agg (arr 16 (fun i => (ct l i : Int)))) ∧ Below w.heap.size w w' := by
  obtain ⟨hz, hsz⟩ := zero_of_info infoC
  rw [arr_zero] at hz
  obtain ⟨n, hln⟩ : ∃ n, n = l.length := ⟨_, rfl⟩
  rw [← hln] at hn ⊢
  have HL := Lib.hid hln
  clear hln
  go_enter Tryd.func92, Tryd.ntmps92
  go_wp2
  go_loopw [7] (fun i wr => ∃ k : Nat, i = .int .i64 k ∧ k ≤ n ∧ Hid (Blk wr w.heap.size 113 (arr 16 (fun _ => 0))) ∧ Hid (Blk wr (w.heap.size + 1) 113 (arr 16 (fun i => (ct (l.take k) i : Int)))) ∧ Hid (Below w.heap.size w wr))
    (fun i _ => n - (intOf i).toNat)
  case atStart =>
    refine ⟨0, rfl, by omega, Lib.hid ?_, Lib.hid ?_, Lib.hid ?_⟩
    · exact (Blk.fresh w _ _).below (below_alloc _ _)
    · have := Blk.fresh (w.alloc (.cells (arr 16 (fun _ => 0)) 113)) 113 (arr 16 (fun _ => 0))
      rw [size_alloc] at this
      simpa [ct_nil] using this
    · exact grows (below_alloc _ _) (below_alloc _ _)
  case round =>
    obtain ⟨k, rfl, hk, HR, HT, HB⟩ := hrel
    by_cases hkn : k < n
    · obtain ⟨b, off, rfl, hbl, hc0⟩ := HC.out.get (k := k) (by rw [← HL.out]; exact hkn)
      have hc := (HB.out.cell (p := ⟨b, off + k, none⟩) hbl).trans hc0
      clear hc0 hz hsz
      obtain ⟨x, hx⟩ : ∃ x, x = nth l k := ⟨_, rfl⟩
      rw [← hx] at hc
      have hx15 : x ≤ 15 := by rw [hx]; exact hl k
      have HX := Lib.hid hx
      clear hx hl
      rcases Nat.eq_zero_or_pos x with rfl | h0
      · go_wp2
        go_roundw
        case rel =>
          refine ⟨k + 1, by go_num, by omega, HR, Lib.hid ?_, HB⟩
          have h := HT.out
          rw [arr_congr (g := fun i => (ct (l.take (k + 1)) i : Int)) (fun i _ => ?_)] at h
          · exact h
          · rw [ct_next (by rw [← HL.out]; exact hkn), if_neg (by have := HX.out; omega)]; rfl
        case measure => simp [intOf]; omega
      · obtain ⟨y, hy⟩ : ∃ y, y = ct (l.take k) x := ⟨_, rfl⟩
        have hy320 : y ≤ 320 := by
          have := ct_le (l.take k) x
          rw [List.length_take] at this; omega
        have hty : wr.cell? ⟨w.heap.size + 1, x, none⟩ = some (.int .i64 y) := by rw [HT.out.cell, arr_get _ (by omega), hy]
        have hfr := HT.out.frozen x
        have HY := Lib.hid hy
        clear hy
        go_wp2
        go_roundw
        case rel =>
          refine ⟨k + 1, by go_num, by omega, Lib.hid ?_, Lib.hid ?_, Lib.hid (HB.out.setCell (by simp) _)⟩
          · exact HR.out.apartStore (by simp)
          · have h := HT.out.store x (.int .i64 (y + 1))
            rw [arr_set, arr_congr (g := fun i => (ct (l.take (k + 1)) i : Int)) (fun i _ => ?_)] at h
            · exact h
            · rw [ct_next (by rw [← HL.out]; exact hkn), ← HX.out]
              by_cases e : i = x
              · rw [if_pos e, if_pos ⟨e, by omega⟩, e, HY.out]; omega
              · rw [if_neg e, if_neg (fun h => e h.1)]; rfl
        case measure => simp [intOf]; omega
    · have hk8 := Lib.hid (show k = l.length by rw [← HL.out]; omega)
      have HT' : Hid (Blk wr (w.heap.size + 1) 113 (arr 16 (fun i => (ct l i : Int)))) := by
        rw [hk8.out, List.take_length] at HT; exact HT
      have HZ := Lib.hid hsz
      clear hz hsz
      go_wp2_with (first | (refine wpList_load_row rfl 113 _ rfl (w.heap.size + 1) rfl _ _ _ _ HT'.out Tryd.underlying113 rfl (by rw [arr_size]; exact HZ.out) ?_) | (refine wpList_store_row rfl 113 _ _ rfl w.heap.size (arr 16 (fun i => (ct l i : Int))) rfl rfl _ _ HR.out (by rw [arr_size]; exact HZ.out) (by rw [arr_size, arr_size]) (arr_one 16 _) ?_))
      refine bodyPost_ret (v := .agg (arr 16 (fun i => (ct l i : Int)))) ?_ rfl ⟨rfl, Below_setRow HB.out (Nat.le_refl _) _⟩
      exact results_cell_row rfl _ _ w.heap.size 113 _ _ _ rfl (setRow_heap _ _ _ _ _ _ HR.out) Tryd.underlying113 rfl (by rw [arr_size]; exact HZ.out)
end Go.Proofs.YtgbdecnaamlekaaDoor.Nc
