/-
  The document's own answers for spans: bits, Length, Dist, OfLength, OfDist.
  Conditions: as each theorem says.
-/
import Derived.Test.YtnkninjdpgpkmaaGreatDoorBaf
namespace Go.Proofs.YtnkninjdpgpkmaaGreatDoor.Sr
open Go.RowKit Go.Proofs.YtnkninjdpgpkmaaGreatDoor.Vm Go.Proofs.YtnkninjdpgpkmaaGreatDoor.Na Go.Proofs.YtnkninjdpgpkmaaGreatDoor.Bw Go.Proofs.YtnkninjdpgpkmaaGreatDoor.Sm Go.Proofs.YtnkninjdpgpkmaaGreatDoor.Sb Go.Proofs.YtnkninjdpgpkmaaGreatDoor.Sp

set_option maxRecDepth 100000 in
theorem bits4 {k : Nat} (hk : k < 1000) (w : World) :
    Calls Tryz.prog 136 #[.int .i64 k, .int .i64 4] w fun e w' => e = .returned (.int .i64 (fb 4 k)) ∧ w = w' := by
  by_cases h : k < 8
  · go_enter Tryz.func136, Tryz.ntmps136
    go_wp2
    go_ret
    exact ⟨ret_i64 (by unfold fb; omega), rfl⟩
  · go_enter Tryz.func136, Tryz.ntmps136
    go_wp2
    go_ret
    exact ⟨ret_i64 (by unfold fb; omega), rfl⟩
set_option maxRecDepth 100000 in
theorem bits2 {k : Nat} (hk : k < 1000) (w : World) :
    Calls Tryz.prog 136 #[.int .i64 k, .int .i64 2] w fun e w' => e = .returned (.int .i64 (fb 2 k)) ∧ w = w' := by
  by_cases h : k < 4
  · go_enter Tryz.func136, Tryz.ntmps136
    go_wp2
    go_ret
    exact ⟨ret_i64 (by unfold fb; omega), rfl⟩
  · go_enter Tryz.func136, Tryz.ntmps136
    go_wp2
    go_ret
    exact ⟨ret_i64 (by unfold fb; omega), rfl⟩

theorem fb4_le {k : Nat} (h : k ≤ 28) : fb 4 k ≤ 6 := by unfold fb; omega

set_option maxRecDepth 100000 in
theorem rLength_any {z : Int} (h0 : -9223372036854775808 ≤ z) (h1 : z ≤ 9223372036854775807) (w : World) :
    Calls Tryz.prog 105 #[.int .i64 z] w fun e w' => e = .returned (lenA z) ∧ w = w' := by
  rcases (show z < 257 ∨ 285 < z ∨ z = 285 ∨ (257 ≤ z ∧ z < 285) by omega) with h | h | h | h
  · rw [lenA_out (.inl h)]
    have h' : ¬ z = 285 := by omega
    go_enter Tryz.func105, Tryz.ntmps105
    go_wp2
    go_ret3
    exact ⟨rfl, rfl⟩
  · rw [lenA_out (.inr h)]
    have h' : ¬ z < 257 := by omega
    have h'' : ¬ z = 285 := by omega
    go_enter Tryz.func105, Tryz.ntmps105
    go_wp2
    go_ret3
    exact ⟨rfl, rfl⟩
  · subst h
    go_enter Tryz.func105, Tryz.ntmps105
    go_wp2
    go_ret3
    exact ⟨rfl, rfl⟩
  · obtain ⟨m, hzm⟩ : ∃ m : Nat, z - 257 = (m : Int) := ⟨(z - 257).toNat, by omega⟩
    have hm : m < 28 := by omega
    rw [lenA_in hzm (by omega), lB_low hm, lb_low hm]
    have hz0 : ¬ z = 285 := by omega
    have hz1 : ¬ z < 257 := by omega
    have hz2 : ¬ 285 < z := by omega
    go_enter Tryz.func105, Tryz.ntmps105
    go_wp2
    go_loopw [6, 5] (fun i s wr => ∃ k x : Nat, i = .int .i64 (257 + k : Nat) ∧ s = .int .i64 x ∧ Hid (x = bas 4 3 k) ∧ k ≤ m ∧ wr = w) (fun i _ _ => 285 - (intOf i).toNat)
    case atStart => exact ⟨0, 3, rfl, rfl, Lib.hid rfl, by omega, rfl⟩
    case round =>
      obtain ⟨k, x, rfl, rfl, HX, hk, rfl⟩ := hrel
      have hx : x ≤ 259 := by rw [HX.out]; exact bas4_le (by omega)
      obtain ⟨y, hy⟩ : ∃ y : Int, y = ((257 + k : Nat) : Int) := ⟨_, rfl⟩
      have hyk : y - 257 = (k : Int) := by omega
      rw [← hy]
      have HY := Lib.hid hy
      clear hy
      by_cases hkm : k < m
      · have hyz : y < z := by omega
        have hb := fb4_le (show k ≤ 28 by omega)
        have HQ := Lib.hid (shl_one (fb 4 k) x (by omega) (by omega))
        have HD := Lib.hid (bits4 (show k < 1000 by omega))
        generalize hq : fb 4 k = q at *
        go_wp2_with fail
        refine (HD.out _).mono ?_
        rintro e w' ⟨rfl, rfl⟩
        go_wp2
        go_roundw
        case rel =>
          exact ⟨k + 1, x + 2 ^ q, by go_num, by rw [HQ.out], Lib.hid (by rw [bas_next, hq, HX.out]), by omega, trivial⟩
        case measure => simp [intOf]; omega
      · have hyz : ¬ y < z := by omega
        obtain rfl : k = m := by omega
        have HD := Lib.hid (bits4 (show k < 1000 by omega))
        go_wp2_with fail
        refine (HD.out _).mono ?_
        rintro e w' ⟨rfl, rfl⟩
        go_wp2
        go_ret3
        exact ⟨by rw [HX.out]; rfl, rfl⟩

set_option maxRecDepth 100000 in
theorem rDist_any {z : Int} (h0 : -9223372036854775808 ≤ z) (h1 : z ≤ 9223372036854775807) (w : World) :
    Calls Tryz.prog 107 #[.int .i64 z] w fun e w' => e = .returned (disA z) ∧ w = w' := by
  rcases (show z < 0 ∨ 29 < z ∨ (0 ≤ z ∧ z ≤ 29) by omega) with h | h | h
  · rw [disA_out (.inl h)]
    go_enter Tryz.func107, Tryz.ntmps107
    go_wp2
    go_ret3
    exact ⟨rfl, rfl⟩
  · rw [disA_out (.inr h)]
    have h' : ¬ z < 0 := by omega
    go_enter Tryz.func107, Tryz.ntmps107
    go_wp2
    go_ret3
    exact ⟨rfl, rfl⟩
  · obtain ⟨m, rfl⟩ : ∃ m : Nat, z = (m : Int) := ⟨z.toNat, by omega⟩
    have hm : m < 30 := by omega
    rw [disA_in hm]
    go_enter Tryz.func107, Tryz.ntmps107
    go_wp2
    go_loopw [6, 5] (fun i s wr => ∃ k x : Nat, i = .int .i64 k ∧ s = .int .i64 x ∧ Hid (x = bas 2 1 k) ∧ k ≤ m ∧ wr = w) (fun i _ _ => 30 - (intOf i).toNat)
    case atStart => exact ⟨0, 1, rfl, rfl, Lib.hid rfl, by omega, rfl⟩
    case round =>
      obtain ⟨k, x, rfl, rfl, HX, hk, rfl⟩ := hrel
      have hx : x ≤ 32769 := by rw [HX.out]; exact bas2_le (by omega)
      by_cases hkm : k < m
      · have hb := fb2_le (show k < 30 by omega)
        have HQ := Lib.hid (shl_one (fb 2 k) x (by omega) (by omega))
        have HD := Lib.hid (bits2 (show k < 1000 by omega))
        generalize hq : fb 2 k = q at *
        go_wp2_with fail
        refine (HD.out _).mono ?_
        rintro e w' ⟨rfl, rfl⟩
        go_wp2
        go_roundw
        case rel =>
          exact ⟨k + 1, x + 2 ^ q, by go_num, by rw [HQ.out], Lib.hid (by rw [bas_next, hq, HX.out]), by omega, trivial⟩
        case measure => simp [intOf]; omega
      · obtain rfl : k = m := by omega
        have HD := Lib.hid (bits2 (show k < 1000 by omega))
        go_wp2_with fail
        refine (HD.out _).mono ?_
        rintro e w' ⟨rfl, rfl⟩
        go_wp2
        go_ret3
        exact ⟨by rw [HX.out]; rfl, rfl⟩

set_option maxRecDepth 100000 in
theorem rOfLength_any {z : Int} (h0 : -9223372036854775808 ≤ z) (h1 : z ≤ 9223372036854775807) (w : World) :
    Calls Tryz.prog 90 #[.int .i64 z] w fun e w' => e = .returned (ofL z) ∧ w = w' := by
  rcases (show z < 3 ∨ 258 < z ∨ (3 ≤ z ∧ z ≤ 258) by omega) with h | h | h
  · rw [ofL_out (.inl h)]
    go_enter Tryz.func90, Tryz.ntmps90
    go_wp2
    refine bodyPost_ret (results_tmp4 rfl _ _ _) rfl ?_
    exact ⟨rfl, rfl⟩
  · rw [ofL_out (.inr h)]
    have h' : ¬ z < 3 := by omega
    go_enter Tryz.func90, Tryz.ntmps90
    go_wp2
    refine bodyPost_ret (results_tmp4 rfl _ _ _) rfl ?_
    exact ⟨rfl, rfl⟩
  · obtain ⟨n, rfl⟩ : ∃ n : Nat, z = (n : Int) := ⟨z.toNat, by omega⟩
    have hn3 : 3 ≤ n := by omega
    have hn8 : n ≤ 258 := by omega
    rw [ofL_in hn3 hn8]
    go_enter Tryz.func90, Tryz.ntmps90
    go_wp2
    go_loopw [6] (fun i wr => ∃ k : Nat, i = .int .i64 (257 + k : Nat) ∧ k ≤ 28 ∧ Hid (lS n = sr lB n k) ∧ wr = w) (fun i _ => (intOf i).toNat)
    case atStart => exact ⟨28, rfl, by omega, Lib.hid rfl, rfl⟩
    case round =>
      obtain ⟨k, rfl, hk, HS, rfl⟩ := hrel
      obtain ⟨y, hy⟩ : ∃ y : Int, y = ((257 + k : Nat) : Int) := ⟨_, rfl⟩
      have hyk : y - 257 = (k : Int) := by omega
      have hy0 : -9223372036854775808 ≤ y := by omega
      have hy1 : y ≤ 9223372036854775807 := by omega
      rw [← hy]
      have HY := Lib.hid hy
      clear hy
      rcases Nat.eq_zero_or_pos k with rfl | hk0
      · have hy7 : ¬ 257 < y := by omega
        go_wp2
        refine bodyPost_ret (results_tmp4 rfl _ _ _) rfl ?_
        have e0 : lS n = 0 := HS.out
        have e3 := lS_hi hn3 hn8
        rw [e0] at e3 ⊢
        have e4 : n - lB 0 = 0 := by rw [show lb 0 = 0 from rfl] at e3; omega
        rw [e4]
        exact ⟨rfl, rfl⟩
      · have hy7 : 257 < y := by omega
        have HL := rLength_any hy0 hy1
        rw [lenA_in hyk hk] at HL
        replace HL := Lib.hid HL
        have hxl := lB_le k hk
        generalize hx : lB k = x at *
        have HXX := Lib.hid hx
        clear hx
        by_cases hxn : x ≤ n
        · have e1 : Hid (lS n = k) := Lib.hid (by rw [HS.out, sr_at (by rw [HXX.out]; exact hxn)])
          generalize hq : lb k = q at *
          have HQQ := Lib.hid hq
          clear hq
          go_wp2_with fail
          refine (HL.out _).mono ?_
          rintro e w' ⟨rfl, rfl⟩
          go_wp2
          refine bodyPost_ret (results_tmp4 rfl _ _ _) rfl ?_
          rw [e1.out, HXX.out, HQQ.out]
          exact ⟨ret4 HY.out (by omega), rfl⟩
        · generalize lb k = q at *
          go_wp2_with fail
          refine (HL.out _).mono ?_
          rintro e w' ⟨rfl, rfl⟩
          go_wp2
          go_roundw
          case rel =>
            refine ⟨k - 1, by have := HY.out; go_num, by omega, Lib.hid ?_, trivial⟩
            obtain ⟨j, rfl⟩ : ∃ j, k = j + 1 := ⟨k - 1, by omega⟩
            rw [HS.out, sr_past (by rw [HXX.out]; omega)]
            rfl
          case measure => simp [intOf]; omega

set_option maxRecDepth 100000 in
theorem rOfDist_any {z : Int} (h0 : -9223372036854775808 ≤ z) (h1 : z ≤ 9223372036854775807) (w : World) :
    Calls Tryz.prog 91 #[.int .i64 z] w fun e w' => e = .returned (ofD z) ∧ w = w' := by
  rcases (show z < 1 ∨ 32768 < z ∨ (1 ≤ z ∧ z ≤ 32768) by omega) with h | h | h
  · rw [ofD_out (.inl h)]
    go_enter Tryz.func91, Tryz.ntmps91
    go_wp2
    refine bodyPost_ret (results_tmp4 rfl _ _ _) rfl ?_
    exact ⟨rfl, rfl⟩
  · rw [ofD_out (.inr h)]
    have h' : ¬ z < 1 := by omega
    go_enter Tryz.func91, Tryz.ntmps91
    go_wp2
    refine bodyPost_ret (results_tmp4 rfl _ _ _) rfl ?_
    exact ⟨rfl, rfl⟩
  · obtain ⟨n, rfl⟩ : ∃ n : Nat, z = (n : Int) := ⟨z.toNat, by omega⟩
    have hn1 : 1 ≤ n := by omega
    have hn8 : n ≤ 32768 := by omega
    rw [ofD_in hn1 hn8]
    go_enter Tryz.func91, Tryz.ntmps91
    go_wp2
    go_loopw [6] (fun i wr => ∃ k : Nat, i = .int .i64 k ∧ k ≤ 29 ∧ Hid (dS n = sr dB n k) ∧ wr = w) (fun i _ => (intOf i).toNat)
    case atStart => exact ⟨29, rfl, by omega, Lib.hid rfl, rfl⟩
    case round =>
      obtain ⟨k, rfl, hk, HS, rfl⟩ := hrel
      rcases Nat.eq_zero_or_pos k with rfl | hk0
      · go_wp2
        refine bodyPost_ret (results_tmp4 rfl _ _ _) rfl ?_
        have e0 : dS n = 0 := HS.out
        have e3 := dS_hi hn1 hn8
        rw [e0] at e3 ⊢
        have e4 : n - dB 0 = 0 := by rw [show fb 2 0 = 0 from rfl] at e3; omega
        rw [e4]
        exact ⟨rfl, rfl⟩
      · have HL := rDist_any (z := (k : Int)) (by omega) (by omega)
        rw [disA_in (by omega)] at HL
        replace HL := Lib.hid HL
        have hxl := dB_le k (by omega)
        generalize hx : dB k = x at *
        have HXX := Lib.hid hx
        clear hx
        by_cases hxn : x ≤ n
        · have e1 : Hid (dS n = k) := Lib.hid (by rw [HS.out, sr_at (by rw [HXX.out]; exact hxn)])
          generalize hq : fb 2 k = q at *
          have HQQ := Lib.hid hq
          clear hq
          go_wp2_with fail
          refine (HL.out _).mono ?_
          rintro e w' ⟨rfl, rfl⟩
          go_wp2
          refine bodyPost_ret (results_tmp4 rfl _ _ _) rfl ?_
          rw [e1.out, HXX.out, HQQ.out]
          exact ⟨ret4 rfl (by omega), rfl⟩
        · generalize fb 2 k = q at *
          go_wp2_with fail
          refine (HL.out _).mono ?_
          rintro e w' ⟨rfl, rfl⟩
          go_wp2
          go_roundw
          case rel =>
            refine ⟨k - 1, by go_num, by omega, Lib.hid ?_, trivial⟩
            obtain ⟨j, rfl⟩ : ∃ j, k = j + 1 := ⟨k - 1, by omega⟩
            rw [HS.out, sr_past (by rw [HXX.out]; omega)]
            rfl
          case measure => simp [intOf]; omega
end Go.Proofs.YtnkninjdpgpkmaaGreatDoor.Sr
