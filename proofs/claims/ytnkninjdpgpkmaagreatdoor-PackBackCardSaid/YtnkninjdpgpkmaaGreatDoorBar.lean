/-
  bitrow.isCount, bits.Reverse32, bitrow.Turn and the reference's Turn, called with any values: their results; nothing has changed.
  Conditions: as each theorem says.
-/
import Derived.Test.YtnkninjdpgpkmaaGreatDoorRows
import Derived.Test.YtnkninjdpgpkmaaGreatDoorBai
import Derived.WalkKit
import Derived.WalkSpells
import Derived.WalkLawsBesides
import Derived.Lib.Hide
namespace Go.Proofs.YtnkninjdpgpkmaaGreatDoor.Bt
open Go.RowKit Go.Proofs.YtnkninjdpgpkmaaGreatDoor.Vm Go.Proofs.YtnkninjdpgpkmaaGreatDoor.Bm

theorem ret_int {k : IntKind} {a b : Int} (h : a = b) : Ending.returned (.int k a) = .returned (.int k b) := by rw [h]

def cnt (n : Int) : Bool := decide (0 ≤ n) && decide (n ≤ 32)

theorem isCount_any (n : Int) (w : World) :
    Calls Tryz.prog 167 #[.int .i64 n] w fun e w' => e = .returned (.bool (cnt n)) ∧ w = w' := by
  go_enter Tryz.func167, Tryz.ntmps167
  go_wp2
  all_goals go_ret
  all_goals exact ⟨by simp [cnt, *] <;> omega, rfl⟩

theorem rb_any (x : Nat) (w : World) (hx : x < 4294967296) :
    Calls Tryz.prog 187 #[.int .u32 x] w fun e w' => e = .returned (.int .u32 (rev16 (swapN 8 16711935 x) : Nat)) ∧ w = w' := by
  obtain ⟨y, h1, H1, l1⟩ : ∃ y : Nat, bits .or .u32 (bits .and .u32 ((x : Int) / 256) 16711935) (bits .and .u32 (x : Int) 16711935 * 256 % 4294967296) = (y : Int) ∧ Hid (y = swapN 8 16711935 x) ∧ y < 4294967296 :=
    ⟨_, swap_int 8 16711935 x 256 rfl hx (by decide), Lib.hid rfl, swapN_lt _ _ _ (by decide)⟩
  have h2 := half_int y l1
  go_enter Tryz.func187, Tryz.ntmps187
  go_wp2
  go_ret
  exact ⟨ret_int (by rw [H1.out]), rfl⟩

theorem rev_any (x : Nat) (w : World) (hx : x < 4294967296) :
    Calls Tryz.prog 184 #[.int .u32 x] w fun e w' => e = .returned (.int .u32 (turnN x 32 : Nat)) ∧ w = w' := by
  obtain ⟨y, h1, H1, l1⟩ : ∃ y : Nat, bits .or .u32 (bits .and .u32 ((x : Int) / 2) 1431655765) (bits .and .u32 (x : Int) 1431655765 * 2 % 4294967296) = (y : Int) ∧ Hid (y = swapN 1 1431655765 x) ∧ y < 4294967296 :=
    ⟨_, swap_int 1 1431655765 x 2 rfl hx (by decide), Lib.hid rfl, swapN_lt _ _ _ (by decide)⟩
  obtain ⟨z, h2, H2, l2⟩ : ∃ z : Nat, bits .or .u32 (bits .and .u32 ((y : Int) / 4) 858993459) (bits .and .u32 (y : Int) 858993459 * 4 % 4294967296) = (z : Int) ∧ Hid (z = swapN 2 858993459 y) ∧ z < 4294967296 :=
    ⟨_, swap_int 2 858993459 y 4 rfl l1 (by decide), Lib.hid rfl, swapN_lt _ _ _ (by decide)⟩
  obtain ⟨u, h3, H3, l3⟩ : ∃ u : Nat, bits .or .u32 (bits .and .u32 ((z : Int) / 16) 252645135) (bits .and .u32 (z : Int) 252645135 * 16 % 4294967296) = (u : Int) ∧ Hid (u = swapN 4 252645135 z) ∧ u < 4294967296 :=
    ⟨_, swap_int 4 252645135 z 16 rfl l2 (by decide), Lib.hid rfl, swapN_lt _ _ _ (by decide)⟩
  have HE := Lib.hid (rev32_eq x hx)
  go_enter Tryz.func184, Tryz.ntmps184
  go_wp2_with (go_at_call 187; refine (rb_any _ _ l3).mono ?_; rintro e w' ⟨rfl, rfl⟩)
  go_ret
  exact ⟨ret_int (by rw [← HE.out, H3.out, H2.out, H1.out]; rfl), rfl⟩

theorem low_int (y k : Nat) (h : y < 2 ^ 32) : wrap64 ((y : Int) / 2 ^ k) = ((y / 2 ^ k : Nat) : Int) := by
  have e : (y : Int) / 2 ^ k = ((y / 2 ^ k : Nat) : Int) := by simp
  have h1 : y / 2 ^ k ≤ y := Nat.div_le_self _ _
  rw [e]
  generalize y / 2 ^ k = z at *
  rw [wrap64_in (by omega) (by omega)]
/-- What Turn answers. -/
def turnR (v n : Int) : Int := if cnt n = true then (turnN (v % 18446744073709551616).toNat n.toNat : Nat) else 0

theorem Turn_any (v n : Int) (w : World) :
    Calls Tryz.prog 155 #[.int .i64 v, .int .i64 n] w fun e w' => e = .returned (.int .i64 (turnR v n)) ∧ w = w' := by
  by_cases hc : cnt n = true
  · have hn : 0 ≤ n ∧ n ≤ 32 := by simpa [cnt] using hc
    obtain ⟨m, rfl⟩ := Int.eq_ofNat_of_zero_le hn.1
    obtain ⟨x, hx, HX, lx⟩ : ∃ x : Nat, v % 4294967296 = (x : Int) ∧ Hid (x = (v % 18446744073709551616).toNat % 2 ^ 32) ∧ x < 4294967296 :=
      ⟨(v % 4294967296).toNat, by omega, Lib.hid (by omega), by omega⟩
    have HT : Hid (turnR v m = (turnN x 32 / 2 ^ (32 - m) : Nat)) := Lib.hid (by
      unfold turnR
      rw [if_pos hc, HX.out]
      have e1 := turnN_high (v := (v % 18446744073709551616).toNat % 2 ^ 32) (n := m) (32 - m)
      rw [show m + (32 - m) = 32 by omega] at e1
      rw [e1, turnN_mod _ 32 m (by omega)]
      rfl)
    have hm : m ≤ 32 := by omega
    have hl := turnN_lt x 32
    clear hn
    go_enter Tryz.func155, Tryz.ntmps155
    go_wp2_with (first | (go_at_call 167; refine (isCount_any _ _).mono ?_; rintro e w' ⟨rfl, rfl⟩) | (go_at_call 184; refine (rev_any _ _ lx).mono ?_; rintro e w' ⟨rfl, rfl⟩))
    go_ret
    exact ⟨ret_int (by rw [HT.out]; exact low_int _ _ hl), rfl⟩
  · have HT : Hid (turnR v n = 0) := Lib.hid (by unfold turnR; rw [if_neg hc])
    have hc : cnt n = false := by simpa using hc
    go_enter Tryz.func155, Tryz.ntmps155
    go_wp2_with (first | (go_at_call 167; refine (isCount_any _ _).mono ?_; rintro e w' ⟨rfl, rfl⟩))
    go_ret
    exact ⟨ret_int (by rw [HT.out]), rfl⟩

theorem rTurn_any (v n : Int) (w : World) :
    Calls Tryz.prog 122 #[.int .i64 v, .int .i64 n] w fun e w' => e = .returned (.int .i64 (turnR v n)) ∧ w = w' := by
  by_cases hc : cnt n = true
  · have hn : 0 ≤ n ∧ n ≤ 32 := by simpa [cnt] using hc
    obtain ⟨m, rfl⟩ := Int.eq_ofNat_of_zero_le hn.1
    have hm : m ≤ 32 := by omega
    obtain ⟨x, hx, HX⟩ : ∃ x : Nat, IntKind.u64.wrap v = (x : Int) ∧ Hid (x = (v % 18446744073709551616).toNat) :=
      ⟨(v % 18446744073709551616).toNat, by rw [show IntKind.u64.wrap v = v % 18446744073709551616 by simp [IntKind.wrap, IntKind.bits, IntKind.signed]]; omega, Lib.hid rfl⟩
    have HT : Hid (turnR v m = (turnN x m : Nat)) := Lib.hid (by
      unfold turnR
      rw [if_pos hc, HX.out]; rfl)
    have d0 : decide ((m : Int) < 0) = false := by simp
    have d1 : decide ((32 : Int) < (m : Int)) = false := by simp; omega
    clear hc hn HX
    go_enter Tryz.func122, Tryz.ntmps122
    go_wp2
    go_loop [5, 6] (fun o i => ∃ k : Nat, k ≤ m ∧ i = .int .i64 k ∧ o = .int .i64 (turnN x k : Nat)) (fun _ i => m - (intOf i).toNat)
    case atStart => exact ⟨0, by omega, rfl, rfl⟩
    case round =>
      obtain ⟨k, hk, rfl, rfl⟩ := hrel
      have hl := turnN_lt x k
      have hp : 2 ^ k ≤ 2 ^ 32 := Nat.pow_le_pow_right (by omega) (by omega)
      have hl' : turnN x k < 4294967296 := Nat.lt_of_lt_of_le hl hp
      clear hl hp d0 d1
      by_cases hlt : k < m
      · have HN : Hid (turnN x (k + 1) = 2 * turnN x k + x / 2 ^ k % 2) := Lib.hid rfl
        generalize turnN x k = o at *
        obtain ⟨q, hq, HQ⟩ : ∃ q : Nat, (x : Int) / 2 ^ k = (q : Int) ∧ Hid (q = x / 2 ^ k) := ⟨x / 2 ^ k, by simp, Lib.hid rfl⟩
        have hq2 : (q : Int).tmod 2 = (q : Int) % 2 := Int.tmod_eq_emod_of_nonneg (by omega)
        go_wp2
        go_round
        case rel => exact ⟨k + 1, by omega, by go_num, by have h1 := HN.out; have h2 := HQ.out; rw [← h2] at h1; clear h2; rw [h1]; go_num⟩
        case measure => simp [intOf]; omega
      · obtain rfl : k = m := by omega
        go_wp2
        go_ret
        exact ⟨ret_int (by rw [HT.out]), rfl⟩
  · have HT : Hid (turnR v n = 0) := Lib.hid (by unfold turnR; rw [if_neg hc])
    have hn : n < 0 ∨ 32 < n := by simp [cnt] at hc; omega
    rcases hn with hn | hn
    all_goals
      go_enter Tryz.func122, Tryz.ntmps122
      go_wp2
      go_ret
      exact ⟨ret_int (by rw [HT.out]), rfl⟩

end Go.Proofs.YtnkninjdpgpkmaaGreatDoor.Bt
