/-
  bitrow.isCount, bits.Reverse32, bitrow.Turn and the reference's Turn, called with any values: their results; nothing has changed.
  Conditions: as each theorem says.
-/
import Derived.Test.YtnkninjdpgpkmaaDoorRows
import Derived.Test.YtnkninjdpgpkmaaDoorQai
import Derived.WalkKit
import Derived.WalkSpells
import Derived.WalkLawsBesides
import Derived.Lib.Hide
namespace Go.Proofs.YtnkninjdpgpkmaaDoor.Bt
open Go.RowKit Go.Proofs.YtnkninjdpgpkmaaDoor.Vm Go.Proofs.YtnkninjdpgpkmaaDoor.Bm

theorem ret_int {k : IntKind} {a b : Int} (h : a = b) : Ending.returned (.int k a) = .returned (.int k b) := by rw [h]

def cnt (n : Int) : Bool := decide (0 ≤ n) && decide (n ≤ 32)

theorem isCount_any (n : Int) (w : World) :
    Calls Tryd.prog 60 #[.int .i64 n] w fun e w' => e = .returned (.bool (cnt n)) ∧ w = w' := by
  go_enter Tryd.func60, Tryd.ntmps60
  go_wp2
  all_goals go_ret
  all_goals exact ⟨by simp [cnt, *] <;> omega, rfl⟩

theorem rb_any (x : Nat) (w : World) (hx : x < 4294967296) :
    Calls Tryd.prog 85 #[.int .u32 x] w fun e w' => e = .returned (.int .u32 (rev16 (swapN 8 16711935 x) : Nat)) ∧ w = w' := by
  obtain ⟨y, h1, H1, l1⟩ : ∃ y : Nat, bits .or .u32 (bits .and .u32 ((x : Int) / 256) 16711935) (bits .and .u32 (x : Int) 16711935 * 256 % 4294967296) = (y : Int) ∧ Hid (y = swapN 8 16711935 x) ∧ y < 4294967296 :=
    ⟨_, swap_int 8 16711935 x 256 rfl hx (by decide), Lib.hid rfl, swapN_lt _ _ _ (by decide)⟩
  have h2 := half_int y l1
  go_enter Tryd.func85, Tryd.ntmps85
  go_wp2
  go_ret
  exact ⟨ret_int (by rw [H1.out]), rfl⟩

theorem rev_any (x : Nat) (w : World) (hx : x < 4294967296) :
    Calls Tryd.prog 84 #[.int .u32 x] w fun e w' => e = .returned (.int .u32 (turnN x 32 : Nat)) ∧ w = w' := by
  obtain ⟨y, h1, H1, l1⟩ : ∃ y : Nat, bits .or .u32 (bits .and .u32 ((x : Int) / 2) 1431655765) (bits .and .u32 (x : Int) 1431655765 * 2 % 4294967296) = (y : Int) ∧ Hid (y = swapN 1 1431655765 x) ∧ y < 4294967296 :=
    ⟨_, swap_int 1 1431655765 x 2 rfl hx (by decide), Lib.hid rfl, swapN_lt _ _ _ (by decide)⟩
  obtain ⟨z, h2, H2, l2⟩ : ∃ z : Nat, bits .or .u32 (bits .and .u32 ((y : Int) / 4) 858993459) (bits .and .u32 (y : Int) 858993459 * 4 % 4294967296) = (z : Int) ∧ Hid (z = swapN 2 858993459 y) ∧ z < 4294967296 :=
    ⟨_, swap_int 2 858993459 y 4 rfl l1 (by decide), Lib.hid rfl, swapN_lt _ _ _ (by decide)⟩
  obtain ⟨u, h3, H3, l3⟩ : ∃ u : Nat, bits .or .u32 (bits .and .u32 ((z : Int) / 16) 252645135) (bits .and .u32 (z : Int) 252645135 * 16 % 4294967296) = (u : Int) ∧ Hid (u = swapN 4 252645135 z) ∧ u < 4294967296 :=
    ⟨_, swap_int 4 252645135 z 16 rfl l2 (by decide), Lib.hid rfl, swapN_lt _ _ _ (by decide)⟩
  have HE := Lib.hid (rev32_eq x hx)
  go_enter Tryd.func84, Tryd.ntmps84
  go_wp2_with (go_at_call 85; refine (rb_any _ _ l3).mono ?_; rintro e w' ⟨rfl, rfl⟩)
  go_ret
  exact ⟨ret_int (by rw [← HE.out, H3.out, H2.out, H1.out]; rfl), rfl⟩

theorem low_int (y k : Nat) (h : y < 2 ^ 32) : wrap64 ((y : Int) / 2 ^ k) = ((y / 2 ^ k : Nat) : Int) := by
  have e : (y : Int) / 2 ^ k = ((y / 2 ^ k : Nat) : Int) := by simp
  have h1 : y / 2 ^ k ≤ y := Nat.div_le_self _ _
  rw [e]
  generalize y / 2 ^ k = z at *
  rw [wrap64_in (by omega) (by omega)]
/-- What Turn answers. -/
def turnR (v n : Int) : Int := if cnt n = true then (turnN (v % 18446744073709551616).toNat n.toNat : Nat) else 0

theorem Turn_any (v n : Int) (w : World) :
    Calls Tryd.prog 81 #[.int .i64 v, .int .i64 n] w fun e w' => e = .returned (.int .i64 (turnR v n)) ∧ w = w' := by
  by_cases hc : cnt n = true
  · have hn : 0 ≤ n ∧ n ≤ 32 := by simpa [cnt] using hc
    obtain ⟨m, rfl⟩ := Int.eq_ofNat_of_zero_le hn.1
    obtain ⟨x, hx, HX, lx⟩ : ∃ x : Nat, v % 4294967296 = (x : Int) ∧ Hid (x = (v % 18446744073709551616).toNat % 2 ^ 32) ∧ x < 4294967296 :=
      ⟨(v % 4294967296).toNat, by omega, Lib.hid (by omega), by omega⟩
    have HT : Hid (turnR v m = (turnN x 32 / 2 ^ (32 - m) : Nat)) := Lib.hid (by
      unfold turnR
      rw [if_pos hc, HX.out]
      have e1 := turnN_high (v := (v % 18446744073709551616).toNat % 2 ^ 32) (n := m) (32 - m)
      rw [show m + (32 - m) = 32 by omega] at e1
      rw [e1, turnN_mod _ 32 m (by omega)]
      rfl)
    have hm : m ≤ 32 := by omega
    have hl := turnN_lt x 32
    clear hn
    go_enter Tryd.func81, Tryd.ntmps81
    go_wp2_with (first | (go_at_call 60; refine (isCount_any _ _).mono ?_; rintro e w' ⟨rfl, rfl⟩) | (go_at_call 84; refine (rev_any _ _ lx).mono ?_; rintro e w' ⟨rfl, rfl⟩))
    go_ret
    exact ⟨ret_int (by rw [HT.out]; exact low_int _ _ hl), rfl⟩
  · have HT : Hid (turnR v n = 0) := Lib.hid (by unfold turnR; rw [if_neg hc])
    have hc : cnt n = false := by simpa using hc
    go_enter Tryd.func81, Tryd.ntmps81
    go_wp2_with (first | (go_at_call 60; refine (isCount_any _ _).mono ?_; rintro e w' ⟨rfl, rfl⟩))
    go_ret
    exact ⟨ret_int (by rw [HT.out]), rfl⟩

end Go.Proofs.YtnkninjdpgpkmaaDoor.Bt
