/-
  The reference function Count: a number from 0 up to one below the second argument.
  Conditions: as each theorem says.
-/
import Derived.Test.YtnkninjdpgpkmaaGreatDoorRows
import Derived.WalkKit
import Derived.WalkSpells
import Derived.WalkLawsBesides
import Derived.Lib.Hide
namespace Go.Proofs.YtnkninjdpgpkmaaGreatDoor.Cc
open Go.RowKit

/-- What Count answers. -/
def cnt (n : Int) (m : Nat) : Nat := (if n < 0 then -(n + 1) else n).toNat % m
theorem cnt_lt (n : Int) {m : Nat} (h : 0 < m) : cnt n m < m := Nat.mod_lt _ h
theorem cnt_eq (a : Int) (ha : 0 ≤ a) (m : Nat) : a.tmod (m : Int) = ((a.toNat % m : Nat) : Int) := by
  obtain ⟨k, rfl⟩ := Int.eq_ofNat_of_zero_le ha
  rfl
theorem ret_i64 {a b : Int} (h : a = b) : Ending.returned (.int .i64 a) = .returned (.int .i64 b) := by rw [h]
end Go.Proofs.YtnkninjdpgpkmaaGreatDoor.Cc
