/-
  What each function of the package vint does, called with any values: its results, and that nothing that was there has changed.
  Conditions: as each theorem says.
-/
import Derived.Test.YtgilfjojimgpaaaRows
import Derived.Test.YtgilfjojimgpaaaVo
import Derived.WalkKit
import Derived.WalkSpells
import Derived.WalkLawsBesides
import Derived.Lib.Hide
namespace Go.Proofs.Ytgilfjojimgpaaa.Vw
open Go.RowKit Go.Proofs.Ytgilfjojimgpaaa.Vm Go.Proofs.Ytgilfjojimgpaaa.Vo

def wid (n : Int) : Bool := n == 1 || n == 2 || n == 4 || n == 8

theorem isWidth_any (n : Int) (w : World) :
    Calls Try.prog 43 #[.int .i64 n] w fun e w' => e = .returned (.bool (wid n)) ∧ w = w' := by
  go_enter Try.func43, Try.ntmps43
  go_wp2
  all_goals go_ret
  all_goals exact ⟨by simp [wid, *], rfl⟩

theorem info5 : (Try.prog.info? 5).map (fun i => (i.zero, i.size, i.bytes)) = some (some (.int .u8 0), 1, 1) := by kernel_rfl

/-- Put: the results. -/
def putR (n : Int) : List UInt8 × Int := if n < 0 then ([], 1) else (put n.toNat, 0)

end Go.Proofs.Ytgilfjojimgpaaa.Vw
