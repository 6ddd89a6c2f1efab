/-
  The reference's Parse of layer 12: what is wrong at the beginning.
  Conditions: a string of at most 2^48 bytes.
-/
import Derived.Test.YtgilfjojimgpaaaQn
import Derived.Test.YtgilfjojimgpaaaQe
import Derived.StillTailTactics
namespace Go.Proofs.Ytgilfjojimgpaaa.Qp
open Go.RowKit Go.Proofs.Ytgilfjojimgpaaa.Vm Go.Proofs.Ytgilfjojimgpaaa.Vo Go.Proofs.Ytgilfjojimgpaaa.Vf Go.Proofs.Ytgilfjojimgpaaa.Bw Go.Proofs.Ytgilfjojimgpaaa.Bm Go.Proofs.Ytgilfjojimgpaaa.Qm Go.Proofs.Ytgilfjojimgpaaa.Qa Go.Proofs.Ytgilfjojimgpaaa.Qb Go.Proofs.Ytgilfjojimgpaaa.Qc Go.Proofs.Ytgilfjojimgpaaa.Qd Go.Proofs.Ytgilfjojimgpaaa.Qe Go.Proofs.Ytgilfjojimgpaaa.Qh Go.Proofs.Ytgilfjojimgpaaa.Qi Go.Proofs.Ytgilfjojimgpaaa.Qj Go.Proofs.Ytgilfjojimgpaaa.Ql Go.Proofs.Ytgilfjojimgpaaa.Qo Go.Proofs.Ytgilfjojimgpaaa.Qn

set_option maxHeartbeats 4000000 in
set_option maxRecDepth 100000 in
theorem rParse_no (s : ByteArray) (a : Int) (w : World) (hs : s.size ≤ 281474976710656) (h0 : -9223372036854775808 ≤ a) (h1 : a ≤ 9223372036854775807) (h : (bgR s.data.toList a).2 ≠ 0) :
    Calls Try.prog 14 #[.string s, .int .i64 a] w (psA s.data.toList a w) := by
  have hbn := (bg_no h).1
  obtain ⟨w1, hw1⟩ : ∃ w1, w1 = w.alloc (.cells z9 23) := ⟨_, rfl⟩
  have K1 : Hid (Blk w1 w.heap.size 23 z9) := Lib.hid (by rw [hw1]; exact Blk.fresh w _ _)
  have B1 : Hid (Below w.heap.size w w1) := Lib.hid (by rw [hw1]; exact (Below.refl _ w).alloc (Nat.le_refl _) _)
  have hle := len_eq s
  by_cases ha : a < 0
  · have HR := Lib.hid hbn
    rw [show bgR s.data.toList a = (0, 1) from if_pos ha] at HR
    clear h hbn hle
    go_enter Try.func14, Try.ntmps14
    go_wp2_with (rw [← hw1]; clear hw1; refine wpList_store_row rfl 23 _ _ rfl w.heap.size z9 rfl rfl _ _ K1.out sizeHd rfl (one9 _ _ _ _ _ _ _ _ _) ?_)
    refine bodyPost_ret (v := .tuple #[.agg z9, .int .i64 0, .int .i64 1]) (results_cell3 rfl _ _ w.heap.size 23 z9 _ _ _ rfl rfl rfl (setRow_heap _ _ _ _ _ _ K1.out) Try.underlying23 rfl sizeHd) rfl ?_
    exact psA_no rfl HR.out (below_row B1.out (Nat.le_refl _) _)
  · obtain ⟨p, rfl⟩ := Int.eq_ofNat_of_zero_le (show 0 ≤ a by omega)
    have hbg : bgR s.data.toList (p : Int) = if (s.size : Int) - (p : Int) < 10 then (0, 2) else if (s.data.toList.drop p).take 3 ≠ [31, 139, 8] then (0, 12) else if 32 ≤ ((s.data.toList.drop p).getD 3 0).toNat then (0, 13) else (((((s.data.toList.drop p).getD 3 0).toNat : Nat) : Int), 0) := by
      unfold bgR
      rw [if_neg ha, hle, Int.toNat_natCast]
    by_cases h10 : (s.size : Int) - (p : Int) < 10
    · have HR := Lib.hid hbn
      rw [hbg, if_pos h10] at HR
      clear h hbn hle hbg
      by_cases hgt : (s.size : Int) < (p : Int)
      · go_enter Try.func14, Try.ntmps14
        go_wp2_with (rw [← hw1]; clear hw1; refine wpList_store_row rfl 23 _ _ rfl w.heap.size z9 rfl rfl _ _ K1.out sizeHd rfl (one9 _ _ _ _ _ _ _ _ _) ?_)
        refine bodyPost_ret (v := .tuple #[.agg z9, .int .i64 0, .int .i64 2]) (results_cell3 rfl _ _ w.heap.size 23 z9 _ _ _ rfl rfl rfl (setRow_heap _ _ _ _ _ _ K1.out) Try.underlying23 rfl sizeHd) rfl ?_
        exact psA_no rfl HR.out (below_row B1.out (Nat.le_refl _) _)
      · have q1 : IntKind.i64.wrap ((s.size : Int) - (p : Int)) = (s.size : Int) - (p : Int) := by rw [IntWalk.i64_left]; exact IntWalk.wrap64_in _ ⟨by omega, by omega⟩
        go_enter Try.func14, Try.ntmps14
        go_wp2_with (rw [← hw1]; clear hw1; refine wpList_store_row rfl 23 _ _ rfl w.heap.size z9 rfl rfl _ _ K1.out sizeHd rfl (one9 _ _ _ _ _ _ _ _ _) ?_)
        refine bodyPost_ret (v := .tuple #[.agg z9, .int .i64 0, .int .i64 2]) (results_cell3 rfl _ _ w.heap.size 23 z9 _ _ _ rfl rfl rfl (setRow_heap _ _ _ _ _ _ K1.out) Try.underlying23 rfl sizeHd) rfl ?_
        exact psA_no rfl HR.out (below_row B1.out (Nat.le_refl _) _)
    · rw [if_neg h10] at hbg
      have hp10 : p + 10 ≤ s.size := by omega
      have q1 : IntKind.i64.wrap ((s.size : Int) - (p : Int)) = (s.size : Int) - (p : Int) := by rw [IntWalk.i64_left]; exact IntWalk.wrap64_in _ ⟨by omega, by omega⟩
      have hsl : ∀ u, (Instr.slice 9 (.string s) (some (.int .i64 (p : Int))) (some (.int .i64 ((p : Int) + 3))) none).run Try.prog u = .ok (.string (s.extract p (p + 3))) u := fun u => cut_mid (by omega) (by push_cast; rfl) u
      have hS3 : (s.extract p (p + 3)).toList = (s.data.toList.drop p).take 3 := by rw [Lib.toList_data, ext_list]; congr 1; omega
      generalize s.extract p (p + 3) = S3 at *
      by_cases h3 : (s.data.toList.drop p).take 3 ≠ [31, 139, 8]
      · have HR := Lib.hid hbn
        rw [hbg, if_pos h3] at HR
        rw [← hS3] at h3
        have h3' : (S3.toList == [31, 139, 8]) = false := by simpa using h3
        have h4' : (S3.toList != [31, 139, 8]) = true := by simpa using h3
        clear h hbn hle hbg hS3
        go_enter Try.func14, Try.ntmps14
        go_wp2_with (rw [← hw1]; clear hw1; refine wpList_store_row rfl 23 _ _ rfl w.heap.size z9 rfl rfl _ _ K1.out sizeHd rfl (one9 _ _ _ _ _ _ _ _ _) ?_)
        refine bodyPost_ret (v := .tuple #[.agg z9, .int .i64 0, .int .i64 12]) (results_cell3 rfl _ _ w.heap.size 23 z9 _ _ _ rfl rfl rfl (setRow_heap _ _ _ _ _ _ K1.out) Try.underlying23 rfl sizeHd) rfl ?_
        exact psA_no rfl HR.out (below_row B1.out (Nat.le_refl _) _)
      · rw [if_neg h3] at hbg
        have hlt : p + 3 < s.size := by omega
        obtain ⟨x, hx⟩ : ∃ x : UInt8, s[p + 3]'hlt = x := ⟨_, rfl⟩
        have hg : (s.data.toList.drop p).getD 3 0 = x := by
          rw [List.getD_eq_getElem?_getD, List.getElem?_drop, List.getElem?_eq_getElem (by rw [hle]; exact hlt), ← hx]; rfl
        have h32 : 32 ≤ x.toNat := by
          apply Decidable.byContradiction
          intro hn
          rw [hbg, hg, if_neg hn] at h
          exact h rfl
        have HR := Lib.hid hbn
        rw [hbg, hg, if_pos h32] at HR
        have hxr : (x.toNat : Int) ≤ 255 := by have := x.toNat_lt; omega
        have hk : (32 : Int) ≤ (x.toNat : Int) := by omega
        have h3e : S3.toList = [31, 139, 8] := by rw [hS3]; exact Decidable.not_not.1 h3
        have h3' : (S3.toList == [31, 139, 8]) = true := by simpa using h3e
        have h4' : (S3.toList != [31, 139, 8]) = false := by simpa using h3e
        clear h hbn hle hbg hS3 h3 hg
        go_enter Try.func14, Try.ntmps14
        go_wp2_with (rw [← hw1]; clear hw1; refine wpList_store_row rfl 23 _ _ rfl w.heap.size z9 rfl rfl _ _ K1.out sizeHd rfl (one9 _ _ _ _ _ _ _ _ _) ?_)
        refine bodyPost_ret (v := .tuple #[.agg z9, .int .i64 0, .int .i64 13]) (results_cell3 rfl _ _ w.heap.size 23 z9 _ _ _ rfl rfl rfl (setRow_heap _ _ _ _ _ _ K1.out) Try.underlying23 rfl sizeHd) rfl ?_
        exact psA_no rfl HR.out (below_row B1.out (Nat.le_refl _) _)
end Go.Proofs.Ytgilfjojimgpaaa.Qp
