/-
  The reference function Count: a number from 0 up to one below the second argument.
  Conditions: as the theorem says.
-/
import Derived.Test.YtfipagndpoahlaaRows
import Derived.WalkKit
import Derived.WalkSpells
import Derived.WalkLawsBesides
import Derived.Lib.Hide
namespace Go.Proofs.Ytfipagndpoahlaa.Cc
open Go.RowKit

/-- What Count answers. -/
def cnt (n : Int) (m : Nat) : Nat := (if n < 0 then -(n + 1) else n).toNat % m
theorem cnt_lt (n : Int) {m : Nat} (h : 0 < m) : cnt n m < m := Nat.mod_lt _ h
theorem cnt_eq (a : Int) (ha : 0 ≤ a) (m : Nat) : a.tmod (m : Int) = ((a.toNat % m : Nat) : Int) := by
  obtain ⟨k, rfl⟩ := Int.eq_ofNat_of_zero_le ha
  rfl
theorem ret_i64 {a b : Int} (h : a = b) : Ending.returned (.int .i64 a) = .returned (.int .i64 b) := by rw [h]
theorem Count_any (n : Int) (m : Nat) (hn : -9223372036854775808 ≤ n ∧ n ≤ 9223372036854775807) (hm : 0 < m) (hm' : m ≤ 9223372036854775807) (w : World) :
    Calls Try.prog 22 #[.int .i64 n, .int .i64 m] w fun e w' => e = .returned (.int .i64 (cnt n m)) ∧ w = w' := by
  by_cases h : n < 0
  · go_enter Try.func22, Try.ntmps22
    go_wp2
    go_ret
    exact ⟨ret_i64 (by rw [← Int.neg_tmod, cnt_eq _ (by omega)]; unfold cnt; rw [if_pos h]), rfl⟩
  · go_enter Try.func22, Try.ntmps22
    go_wp2
    go_ret
    exact ⟨ret_i64 (by rw [← Int.tmod_eq_emod_of_nonneg h, cnt_eq _ h]; unfold cnt; rw [if_neg (by omega)]), rfl⟩
end Go.Proofs.Ytfipagndpoahlaa.Cc
