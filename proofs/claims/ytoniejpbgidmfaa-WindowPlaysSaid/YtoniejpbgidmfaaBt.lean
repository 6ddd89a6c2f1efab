/-
  bitrow.isCount, bits.Reverse32, bitrow.Turn and the reference's Turn, called with any values: their results; nothing has changed.
  Conditions: as each theorem says.
-/
import Derived.Test.YtoniejpbgidmfaaRows
import Derived.Test.YtoniejpbgidmfaaBm
import Derived.WalkKit
import Derived.WalkSpells
import Derived.WalkLawsBesides
import Derived.Lib.Hide
namespace Go.Proofs.Ytoniejpbgidmfaa.Bt
open Go.RowKit Go.Proofs.Ytoniejpbgidmfaa.Vm Go.Proofs.Ytoniejpbgidmfaa.Bm

theorem ret_int {k : IntKind} {a b : Int} (h : a = b) : Ending.returned (.int k a) = .returned (.int k b) := by rw [h]

def cnt (n : Int) : Bool := decide (0 ≤ n) && decide (n ≤ 32)

theorem low_int (y k : Nat) (h : y < 2 ^ 32) : wrap64 ((y : Int) / 2 ^ k) = ((y / 2 ^ k : Nat) : Int) := by
  have e : (y : Int) / 2 ^ k = ((y / 2 ^ k : Nat) : Int) := by simp
  have h1 : y / 2 ^ k ≤ y := Nat.div_le_self _ _
  rw [e]
  generalize y / 2 ^ k = z at *
  rw [wrap64_in (by omega) (by omega)]
/-- What Turn answers. -/
def turnR (v n : Int) : Int := if cnt n = true then (turnN (v % 18446744073709551616).toNat n.toNat : Nat) else 0

end Go.Proofs.Ytoniejpbgidmfaa.Bt
