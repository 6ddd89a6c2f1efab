/-
  kraft, firstCodes: an array of sixteen ints handed in.
  Conditions: not many lengths.
-/
import Derived.Test.YtgbdecnaamlekaaDoorNc
import Derived.Test.YtgbdecnaamlekaaDoorVm
namespace Go.Proofs.YtgbdecnaamlekaaDoor.Nd
open Go.RowKit Go.Proofs.YtgbdecnaamlekaaDoor.Vm Go.Proofs.YtgbdecnaamlekaaDoor.Na Go.Proofs.YtgbdecnaamlekaaDoor.Nm Go.Proofs.YtgbdecnaamlekaaDoor.Bw Go.Proofs.YtgbdecnaamlekaaDoor.Ni Go.Proofs.YtgbdecnaamlekaaDoor.Nc

theorem wrap_add_shl (s y d : Nat) (h : s + y * 2 ^ d ≤ 4611686018427387904) : wrap64 ((s : Int) + wrap64 ((y : Int) * 2 ^ d)) = ((s + y * 2 ^ d : Nat) : Int) := by
  have e : ((y : Int) * 2 ^ d) = ((y * 2 ^ d : Nat) : Int) := by simp
  rw [e]
  obtain ⟨m, hm⟩ : ∃ m, m = y * 2 ^ d := ⟨_, rfl⟩
  rw [← hm] at h ⊢
  rw [wrap64_in (n := (m : Int)) (by omega) (by omega), wrap64_in (by omega) (by omega)]; simp
theorem first_zero (l : List Nat) : arr 16 (fun _ => 0) = arr 16 (fun i => if i ≤ 0 then (fst l i : Int) else 0) := arr_congr (fun i _ => by
  by_cases e : i ≤ 0
  · have e0 : i = 0 := by omega
    subst e0; rfl
  · rw [if_neg e])
theorem wrap_two (x y : Nat) (h : x + y ≤ 1000000000000) : wrap64 (2 * ((x : Int) + y)) = ((2 * (x + y) : Nat) : Int) := by
  rw [wrap64_in (by omega) (by omega)]; simp

set_option maxRecDepth 100000 in
theorem kraft_any {l : List Nat} (hn : l.length ≤ 320) (w : World) :
    Calls Tryd.prog 93 #[.agg (arr 16 (fun i => (ct l i : Int)))] w fun e w' => e = .returned (.int .i64 (ksum l 16)) ∧ Below w.heap.size w w' := by
  obtain ⟨hz, hsz⟩ := zero_of_info infoC
  go_enter Tryd.func93, Tryd.ntmps93
  go_wp2
  go_loopw [5, 3] (fun i s wr => ∃ k : Nat, i = .int .i64 k ∧ s = .int .i64 (ksum l k) ∧ k ≤ 16 ∧ Hid (Blk wr w.heap.size 113 (arr 16 (fun i => (ct l i : Int)))) ∧ Hid (Below w.heap.size w wr))
    (fun i _ _ => 16 - (intOf i).toNat)
  case atStart =>
    exact ⟨0, rfl, rfl, by omega, Lib.hid (Blk.fresh w _ _), Lib.hid (below_alloc _ _)⟩
  case round =>
    obtain ⟨k, rfl, rfl, hk, HT, HB⟩ := hrel
    clear hz hsz
    by_cases hk16 : k < 16
    · obtain ⟨y, hy⟩ : ∃ y, y = ct l k := ⟨_, rfl⟩
      have hy320 : y ≤ 320 := by rw [hy]; exact Nat.le_trans (ct_le l k) hn
      have hty : wr.cell? ⟨w.heap.size, k, none⟩ = some (.int .i64 y) := by rw [HT.out.cell, arr_get _ hk16, hy]
      have HY := Lib.hid hy
      clear hy
      go_wp2
      go_roundw
      case rel =>
        refine ⟨k + 1, by go_num, ?_, by omega, HT, HB⟩
        rw [wrap_add_shl _ _ _ (by
          have := ksum_le l (k + 1)
          rw [ksum, ← HY.out] at this
          have h2 : (k + 1) * (l.length * 32768) ≤ 16 * (320 * 32768) := Nat.mul_le_mul (by omega) (Nat.mul_le_mul_right _ hn)
          omega), HY.out, ksum]
      case measure => simp [intOf]; omega
    · have hk8 := Lib.hid (show k = 16 by omega)
      go_wp2
      go_ret
      exact ⟨ret_i64 (by rw [hk8.out]), HB.out⟩

set_option maxRecDepth 100000 in
theorem first_any {l : List Nat} (hn : l.length ≤ 320) (w : World) :
    Calls Tryd.prog 94 #[.agg (arr 16 (fun i => (ct l i : Int)))] w fun e w' => e = .returned (.agg (arr 16 (fun i => (fst l i : Int)))) ∧ Below w.heap.size w w' := by
  obtain ⟨hz, hsz⟩ := zero_of_info infoA
  obtain ⟨hz', hsz'⟩ := zero_of_info infoC
  rw [arr_zero] at hz
  go_enter Tryd.func94, Tryd.ntmps94
  go_wp2
  go_loopw [5] (fun i wr => ∃ k : Nat, i = .int .i64 k ∧ k ≤ 15 ∧ Hid (Blk wr w.heap.size 113 (arr 16 (fun i => (ct l i : Int)))) ∧ Hid (Blk wr (w.heap.size + 1) 112 (arr 16 (fun _ => 0)))
      ∧ Hid (Blk wr (w.heap.size + 1 + 1) 112 (arr 16 (fun i => if i ≤ k then (fst l i : Int) else 0))) ∧ Hid (Below w.heap.size w wr))
    (fun i _ => 16 - (intOf i).toNat)
  case atStart =>
    obtain ⟨s1, s2, s3, s4⟩ := start3 w 113 112 112 (arr 16 (fun i => (ct l i : Int))) (arr 16 (fun _ => 0)) (arr 16 (fun _ => 0))
    exact ⟨0, rfl, by omega, Lib.hid s1, Lib.hid s2, Lib.hid (first_zero l ▸ s3), Lib.hid s4⟩
  case round =>
    obtain ⟨k, rfl, hk, HC, HR, HT, HB⟩ := hrel
    by_cases hk16 : k < 15
    · clear hz hsz hz' hsz'
      obtain ⟨y, hy⟩ : ∃ y, y = ct l k := ⟨_, rfl⟩
      obtain ⟨x, hx⟩ : ∃ x, x = fst l k := ⟨_, rfl⟩
      have hb : x + y ≤ 65536 * 320 := by
        have := fst_le l k
        have h2 : 2 ^ (k + 1) * l.length ≤ 2 ^ 16 * 320 := Nat.mul_le_mul (Nat.pow_le_pow_right (by omega) (by omega)) hn
        omega
      have hty : wr.cell? ⟨w.heap.size, k, none⟩ = some (.int .i64 y) := by rw [HC.out.cell, arr_get _ (by omega), hy]
      have htx : wr.cell? ⟨w.heap.size + 1 + 1, k, none⟩ = some (.int .i64 x) := by rw [HT.out.cell, arr_get _ (by omega), if_pos (Nat.le_refl _), hx]
      have htz : wr.cell? ⟨w.heap.size + 1 + 1, k + 1, none⟩ = some (.int .i64 0) := by rw [HT.out.cell, arr_get _ (by omega), if_neg (by omega)]
      have hfr := HT.out.frozen (k + 1)
      have HY := Lib.hid hy
      have HX := Lib.hid hx
      clear hy hx
      go_wp2
      go_region
      go_wp2
      go_roundw
      case rel =>
        refine ⟨k + 1, by go_num, by omega, Lib.hid ?_, Lib.hid ?_, Lib.hid ?_, Lib.hid ?_⟩
        · exact HC.out.apartStore (by show _ ≠ _ + 1 + 1; omega)
        · exact HR.out.apartStore (by show _ ≠ _ + 1 + 1; omega)
        · have h := HT.out.store (k + 1) (.int .i64 (2 * ((x : Int) + y)))
          rw [arr_set, arr_congr (g := fun i => if i ≤ k + 1 then (fst l i : Int) else 0) (fun i _ => ?_)] at h
          · exact h
          · by_cases e : i = k + 1
            · rw [if_pos e, if_pos (by omega), e, fst, ← HX.out, ← HY.out]; simp
            · rw [if_neg e]
              by_cases e2 : i ≤ k
              · rw [if_pos e2, if_pos (by omega)]
              · rw [if_neg e2, if_neg (by omega)]
        · exact below_drew (HB.out.setCell (by show _ ≤ _ + 1 + 1; omega) _)
      case measure => simp [intOf]; omega
    · have hk8 := Lib.hid (show k = 15 by omega)
      have HT' : Hid (Blk wr (w.heap.size + 1 + 1) 112 (arr 16 (fun i => (fst l i : Int)))) := by
        rw [arr_congr (g := fun i => (fst l i : Int)) (fun i hi => if_pos (by have := hk8.out; omega))] at HT; exact HT
      have HZ := Lib.hid hsz
      clear hz hsz hz' hsz'
      go_wp2_with (first | (refine wpList_load_row rfl 112 _ rfl (w.heap.size + 1 + 1) rfl _ _ _ _ HT'.out Tryd.underlying112 rfl (by rw [arr_size]; exact HZ.out) ?_) | (refine wpList_store_row rfl 112 _ _ rfl (w.heap.size + 1) (arr 16 (fun i => (fst l i : Int))) rfl rfl _ _ HR.out (by rw [arr_size]; exact HZ.out) (by rw [arr_size, arr_size]) (arr_one 16 _) ?_))
      refine bodyPost_ret (v := .agg (arr 16 (fun i => (fst l i : Int)))) ?_ rfl ⟨rfl, Below_setRow HB.out (by omega) _⟩
      exact results_cell_row rfl _ _ (w.heap.size + 1) 112 _ _ _ rfl (setRow_heap _ _ _ _ _ _ HR.out) Tryd.underlying112 rfl (by rw [arr_size]; exact HZ.out)
end Go.Proofs.YtgbdecnaamlekaaDoor.Nd
