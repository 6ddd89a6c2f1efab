/-
  The bits and bases of spans: lengthBits, distBits, lengthBases, distBases, lastUpTo.
  Conditions: as each theorem says.
-/
import Derived.Test.YtppcpijejeodcaaRows
import Derived.WalkKit
import Derived.WalkSpells
import Derived.WalkLawsBesides
import Derived.Deep.RegionHeld3
import Derived.BigRegion
import Derived.Test.YtppcpijejeodcaaNa
import Derived.Test.YtppcpijejeodcaaVm
import Derived.Test.YtppcpijejeodcaaSm
import Derived.Laws.PanicsMore
namespace Go.Proofs.Ytppcpijejeodcaa.Sb
open Go.RowKit Go.Proofs.Ytppcpijejeodcaa.Vm Go.Proofs.Ytppcpijejeodcaa.Na Go.Proofs.Ytppcpijejeodcaa.Bw Go.Proofs.Ytppcpijejeodcaa.Sm

theorem infoL : (Try.prog.info? 33).map (fun i => (i.zero, i.size)) = some (some (.agg (Array.replicate 29 (.int .i64 0))), 29) := by kernel_rfl
theorem infoD : (Try.prog.info? 37).map (fun i => (i.zero, i.size)) = some (some (.agg (Array.replicate 30 (.int .i64 0))), 30) := by kernel_rfl

theorem run_index_arr (t : TypeId) (n : Nat) (h : Try.prog.underlying t = some (.array n 3)) (F : Array Value) (k : Nat) (hk : k < n) (x : Value) (hx : F[k]? = some x) (w : World) :
    (Instr.index t (.agg F) (.int .i64 (k : Int))).run Try.prog w = .ok x w := by
  simp [Instr.index, run_underlying h, asIntOf, hk, hx, go_sem]
theorem results_tmp4 {fn : Func} {t u v s : Tmp} (h : fn.results = #[.tmp t, .tmp u, .tmp v, .tmp s]) (tmps : Array Value) (P : Program) (w : World) :
    (results fn tmps).run P w = .ok (.tuple #[tmps.getD t undef, tmps.getD u undef, tmps.getD v undef, tmps.getD s undef]) w := by
  simp [results, h]

set_option maxRecDepth 100000 in
theorem lengthBits_any {k : Nat} (hk : k ≤ 28) (w : World) :
    Calls Try.prog 17 #[.int .i64 k] w fun e w' => e = .returned (.int .i64 (lb k)) ∧ w = w' := by
  by_cases h28 : k = 28
  · subst h28
    go_enter Try.func17, Try.ntmps17
    go_wp2
    go_ret
    exact ⟨rfl, rfl⟩
  · have h8 : ¬ ((k : Int) = 28) := by omega
    go_enter Try.func17, Try.ntmps17
    go_wp2
    all_goals
      go_ret
      refine ⟨ret_i64 ?_, rfl⟩
      unfold lb fb
      rw [if_neg h28]
      omega
set_option maxRecDepth 100000 in
theorem distBits_any {k : Nat} (hk : k < 30) (w : World) :
    Calls Try.prog 20 #[.int .i64 k] w fun e w' => e = .returned (.int .i64 (fb 2 k)) ∧ w = w' := by
  go_enter Try.func20, Try.ntmps20
  go_wp2
  all_goals
    go_ret
    refine ⟨ret_i64 ?_, rfl⟩
    unfold fb
    omega

theorem start2 (w : World) (t1 t2 : TypeId) (c1 c2 : Array Value) :
    Blk ((w.alloc (.cells c1 t1)).alloc (.cells c2 t2)) w.heap.size t1 c1 ∧ Blk ((w.alloc (.cells c1 t1)).alloc (.cells c2 t2)) (w.heap.size + 1) t2 c2
    ∧ Below w.heap.size w ((w.alloc (.cells c1 t1)).alloc (.cells c2 t2)) := by
  refine ⟨(Blk.fresh w _ _).below (below_alloc _ _), ?_, grows (below_alloc _ _) (below_alloc _ _)⟩
  have := Blk.fresh (w.alloc (.cells c1 t1)) t2 c2
  rw [size_alloc] at this; exact this
/-- The bases so far. -/
theorem part_zero (n : Nat) (f : Nat → Nat) : arr n (fun _ => 0) = arr n (fun i => if i < 0 then (f i : Int) else 0) := arr_congr (fun i _ => by rw [if_neg (by omega)])
theorem part_next (n k : Nat) (f : Nat → Nat) (x : Nat) (hx : x = f k) : (arr n (fun i => if i < k then (f i : Int) else 0)).setIfInBounds k (.int .i64 (x : Int)) = arr n (fun i => if i < k + 1 then (f i : Int) else 0) := by
  rw [arr_set]
  refine arr_congr (fun i _ => ?_)
  by_cases e : i = k
  · rw [if_pos e, if_pos (by omega), e, hx]
  · rw [if_neg e]
    by_cases e2 : i < k
    · rw [if_pos e2, if_pos (by omega)]
    · rw [if_neg e2, if_neg (by omega)]
theorem part_all (n k : Nat) (f : Nat → Nat) (h : n ≤ k) : arr n (fun i => if i < k then (f i : Int) else 0) = arr n (fun i => (f i : Int)) :=
  arr_congr (fun i hi => if_pos (by omega))
theorem shl_one (b x : Nat) (hb : b ≤ 13) (hx : x ≤ 100000) : wrap64 ((x : Int) + wrap64 (2 ^ b)) = ((x + 2 ^ b : Nat) : Int) := by
  have h : (2 : Nat) ^ b ≤ 2 ^ 13 := Nat.pow_le_pow_right (by omega) hb
  have e : (2 ^ b : Int) = ((2 ^ b : Nat) : Int) := by simp
  rw [e]
  obtain ⟨m, hm⟩ : ∃ m, m = (2 : Nat) ^ b := ⟨_, rfl⟩
  rw [← hm] at h ⊢
  rw [wrap64_in (n := (m : Int)) (by omega) (by omega), wrap64_in (by omega) (by omega)]; simp

set_option maxRecDepth 100000 in
theorem distBases_any (w : World) :
    Calls Try.prog 19 #[] w fun e w' => e = .returned (.agg (arr 30 (fun i => (dB i : Int)))) ∧ Below w.heap.size w w' := by
  obtain ⟨hz, hsz⟩ := zero_of_info infoD
  rw [arr_zero] at hz
  go_enter Try.func19, Try.ntmps19
  go_wp2
  go_loopw [4, 2] (fun i s wr => ∃ k x : Nat, i = .int .i64 k ∧ s = .int .i64 x ∧ Hid (x = bas 2 1 k) ∧ k ≤ 30 ∧ Hid (Blk wr w.heap.size 37 (arr 30 (fun _ => 0)))
      ∧ Hid (Blk wr (w.heap.size + 1) 37 (arr 30 (fun i => if i < k then (dB i : Int) else 0))) ∧ Hid (Below w.heap.size w wr))
    (fun i _ _ => 30 - (intOf i).toNat)
  case atStart =>
    obtain ⟨s1, s2, s3⟩ := start2 w 37 37 (arr 30 (fun _ => 0)) (arr 30 (fun _ => 0))
    exact ⟨0, 1, rfl, rfl, Lib.hid rfl, by omega, Lib.hid s1, Lib.hid (part_zero 30 dB ▸ s2), Lib.hid s3⟩
  case round =>
    obtain ⟨k, x, rfl, rfl, HX, hk, HR, HT, HB⟩ := hrel
    by_cases hk30 : k < 30
    · clear hz hsz
      have hx : x ≤ 32769 := by rw [HX.out]; exact bas2_le hk
      have htz : wr.cell? ⟨w.heap.size + 1, k, none⟩ = some (.int .i64 0) := by rw [HT.out.cell, arr_get _ hk30, if_neg (by omega)]
      have hfr := HT.out.frozen k
      have hb := fb2_le hk30
      have HQ := Lib.hid (shl_one (fb 2 k) x hb (by omega))
      have HD := Lib.hid (distBits_any hk30)
      generalize hq : fb 2 k = q at *
      go_wp2_with fail
      refine (HD.out _).mono ?_
      rintro e w' ⟨rfl, rfl⟩
      go_wp2
      go_roundw
      case rel =>
        refine ⟨k + 1, x + 2 ^ q, by go_num, by rw [HQ.out], Lib.hid (by rw [bas_next, hq, HX.out]), by omega, Lib.hid ?_, Lib.hid ?_, Lib.hid ?_⟩
        · exact HR.out.apartStore (by show _ ≠ _ + 1; omega)
        · have h := HT.out.store k (.int .i64 (x : Int))
          rw [part_next 30 k dB x HX.out] at h
          exact h
        · exact HB.out.setCell (by show _ ≤ _ + 1; omega) _
      case measure => simp [intOf]; omega
    · have HT' : Hid (Blk wr (w.heap.size + 1) 37 (arr 30 (fun i => (dB i : Int)))) := by
        rw [part_all 30 k dB (by omega)] at HT; exact HT
      have HZ := Lib.hid hsz
      clear hz hsz
      go_wp2_with (first | (refine wpList_load_row rfl 37 _ rfl (w.heap.size + 1) rfl _ _ _ _ HT'.out Try.underlying37 rfl (by rw [arr_size]; exact HZ.out) ?_) | (refine wpList_store_row rfl 37 _ _ rfl w.heap.size (arr 30 (fun i => (dB i : Int))) rfl rfl _ _ HR.out (by rw [arr_size]; exact HZ.out) (by rw [arr_size, arr_size]) (arr_one 30 _) ?_))
      refine bodyPost_ret (v := .agg (arr 30 (fun i => (dB i : Int)))) ?_ rfl ⟨rfl, Below_setRow HB.out (Nat.le_refl _) _⟩
      exact results_cell_row rfl _ _ w.heap.size 37 _ _ _ rfl (setRow_heap _ _ _ _ _ _ HR.out) Try.underlying37 rfl (by rw [arr_size]; exact HZ.out)

/-- The bases of the lengths so far. -/
theorem len_top (x : Int) (hx : x = 258) : (arr 29 (fun i => if i < 28 then (lB i : Int) else 0)).setIfInBounds 28 (.int .i64 x) = arr 29 (fun i => (lB i : Int)) := by
  rw [arr_set]
  refine arr_congr (fun i hi => ?_)
  by_cases e : i = 28
  · rw [if_pos e, e, hx]; rfl
  · rw [if_neg e, if_pos (by omega)]

set_option maxRecDepth 100000 in
theorem lengthBases_any (w : World) :
    Calls Try.prog 16 #[] w fun e w' => e = .returned (.agg (arr 29 (fun i => (lB i : Int)))) ∧ Below w.heap.size w w' := by
  obtain ⟨hz, hsz⟩ := zero_of_info infoL
  rw [arr_zero] at hz
  go_enter Try.func16, Try.ntmps16
  go_wp2
  go_loopw [4, 2] (fun i s wr => ∃ k x : Nat, i = .int .i64 k ∧ s = .int .i64 x ∧ Hid (x = bas 4 3 k) ∧ k ≤ 28 ∧ Hid (Blk wr w.heap.size 33 (arr 29 (fun _ => 0)))
      ∧ Hid (Blk wr (w.heap.size + 1) 33 (arr 29 (fun i => if i < k then (lB i : Int) else 0))) ∧ Hid (Below w.heap.size w wr))
    (fun i _ _ => 28 - (intOf i).toNat)
  case atStart =>
    obtain ⟨s1, s2, s3⟩ := start2 w 33 33 (arr 29 (fun _ => 0)) (arr 29 (fun _ => 0))
    exact ⟨0, 3, rfl, rfl, Lib.hid rfl, by omega, Lib.hid s1, Lib.hid (part_zero 29 lB ▸ s2), Lib.hid s3⟩
  case round =>
    obtain ⟨k, x, rfl, rfl, HX, hk, HR, HT, HB⟩ := hrel
    by_cases hk28 : k < 28
    · clear hz hsz
      have hx : x ≤ 259 := by rw [HX.out]; exact bas4_le hk
      have htz : wr.cell? ⟨w.heap.size + 1, k, none⟩ = some (.int .i64 0) := by rw [HT.out.cell, arr_get _ (by omega), if_neg (by omega)]
      have hfr := HT.out.frozen k
      have hb := lb_le hk
      have HQ := Lib.hid (shl_one (lb k) x (by omega) (by omega))
      have HD := Lib.hid (lengthBits_any hk)
      have HL := Lib.hid (lb_low hk28)
      generalize hq : lb k = q at *
      go_wp2_with fail
      refine (HD.out _).mono ?_
      rintro e w' ⟨rfl, rfl⟩
      go_wp2
      go_roundw
      case rel =>
        refine ⟨k + 1, x + 2 ^ q, by go_num, by rw [HQ.out], Lib.hid (by rw [bas_next, ← HL.out, HX.out]), by omega, Lib.hid ?_, Lib.hid ?_, Lib.hid ?_⟩
        · exact HR.out.apartStore (by show _ ≠ _ + 1; omega)
        · have h := HT.out.store k (.int .i64 (x : Int))
          rw [part_next 29 k lB x (by rw [HX.out, lB_low hk28])] at h
          exact h
        · exact HB.out.setCell (by show _ ≤ _ + 1; omega) _
      case measure => simp [intOf]; omega
    · have hk8 := Lib.hid (show k = 28 by omega)
      have htz : wr.cell? ⟨w.heap.size + 1, 28, none⟩ = some (.int .i64 0) := by rw [HT.out.cell, arr_get _ (by omega), if_neg (by omega)]
      have hfr := HT.out.frozen 28
      have HT' : Hid (Blk (wr.setCell ⟨w.heap.size + 1, 28, none⟩ (.int .i64 258)) (w.heap.size + 1) 33 (arr 29 (fun i => (lB i : Int)))) := by
        rw [hk8.out] at HT
        have h := HT.out.store 28 (.int .i64 258)
        rw [len_top 258 rfl] at h
        exact Lib.hid h
      have HR' : Hid (Blk (wr.setCell ⟨w.heap.size + 1, 28, none⟩ (.int .i64 258)) w.heap.size 33 (arr 29 (fun _ => 0))) := Lib.hid (HR.out.apartStore (by show _ ≠ _ + 1; omega))
      have HZ := Lib.hid hsz
      clear hz hsz
      go_wp2_with (first | (refine wpList_load_row rfl 33 _ rfl (w.heap.size + 1) rfl _ _ _ _ HT'.out Try.underlying33 rfl (by rw [arr_size]; exact HZ.out) ?_) | (refine wpList_store_row rfl 33 _ _ rfl w.heap.size (arr 29 (fun i => (lB i : Int))) rfl rfl _ _ HR'.out (by rw [arr_size]; exact HZ.out) (by rw [arr_size, arr_size]) (arr_one 29 _) ?_))
      refine bodyPost_ret (v := .agg (arr 29 (fun i => (lB i : Int)))) ?_ rfl ⟨rfl, Below_setRow (HB.out.setCell (by show _ ≤ _ + 1; omega) _) (Nat.le_refl _) _⟩
      exact results_cell_row rfl _ _ w.heap.size 33 _ _ _ rfl (setRow_heap _ _ _ _ _ _ HR'.out) Try.underlying33 rfl (by rw [arr_size]; exact HZ.out)

set_option maxRecDepth 100000 in
theorem lastUpTo_any {A : Option Addr} {m cap z : Nat} {f : Nat → Nat} (hm : m < 1000000) {w : World} (HC : Hid (row w A (m + 1) (fun i => (f i : Int)))) :
    Calls Try.prog 21 #[.slice A (m + 1) cap, .int .i64 z] w fun e w' => e = .returned (.int .i64 (sr f z m)) ∧ w = w' := by
  go_enter Try.func21, Try.ntmps21
  go_wp2
  go_loopw [5] (fun i wr => ∃ k : Nat, i = .int .i64 k ∧ k ≤ m ∧ Hid (sr f z m = sr f z k) ∧ wr = w) (fun i _ => (intOf i).toNat)
  case atStart => exact ⟨m, by go_num, by omega, Lib.hid rfl, rfl⟩
  case round =>
    obtain ⟨k, rfl, hk, HS, rfl⟩ := hrel
    obtain ⟨b, off, rfl, hbl, hc'⟩ := HC.out k (by omega)
    have hc : wr.cell? ⟨b, off + k, none⟩ = some (.int .i64 (f k : Int)) := hc'
    clear hc'
    rcases Nat.eq_zero_or_pos k with rfl | h0
    · go_wp2
      go_ret
      exact ⟨ret_i64 (by rw [HS.out]; rfl), rfl⟩
    · obtain ⟨x, hx⟩ : ∃ x, x = f k := ⟨_, rfl⟩
      rw [← hx] at hc
      have HX := Lib.hid hx
      clear hx
      by_cases hxz : x ≤ z
      · go_wp2
        go_ret
        exact ⟨ret_i64 (by rw [HS.out, sr_at (by rw [← HX.out]; exact hxz)]), rfl⟩
      · go_wp2
        go_roundw
        case rel =>
          refine ⟨k - 1, by go_num, by omega, Lib.hid ?_, trivial⟩
          obtain ⟨j, rfl⟩ : ∃ j, k = j + 1 := ⟨k - 1, by omega⟩
          rw [HS.out, sr_past (by rw [← HX.out]; omega)]
          rfl
        case measure => simp [intOf]; omega
end Go.Proofs.Ytppcpijejeodcaa.Sb
