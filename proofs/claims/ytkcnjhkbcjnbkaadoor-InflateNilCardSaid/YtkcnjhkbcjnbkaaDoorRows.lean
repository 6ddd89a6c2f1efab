/-
  NARROWER THAN 'FOR EVERY INPUT', by the rows' own cells (each row's printed sentence says how): InflateSteps: laid · InflateFrom: laid · InflatePreset: laid · InflateNil: laid.
  DERIVED. THE GIVEN ROWS OF THIS SEAT. 4 by the template 'for every input the law returns true; each argument reads behind the call as it read before'; 0 by the template 'total and deterministic' (their statements: YtkcnjhkbcjnbkaaDoorTotals.lean).
  GIVEN WITH THE SEED: the statements are not yours to turn. If you find one false, say at which input.
  Laid BY PROGRAM, IN A SANDBOX (cutbox-rows.mjs): the forced cells as the released guide's own fill.sh prints them over the translation 22a516ab9e0e1651… (all of the seat's roots in one cut). By AI agents, Wed Nov 11 2026. No macro, syntax, notation, axiom, sorry.
-/
import Derived.Test.YtkcnjhkbcjnbkaaDoorChecked
import GoSem.Claim
import GoSem.ClaimJoined
import GoSem.ClaimMapViews
import Derived.JoinedTies
import Derived.KernelRfl
namespace Go.Proofs.YtkcnjhkbcjnbkaaDoor
/- THE CELL 'sum', in the pinned program and in every row, IS THE sha256 OF THE DUMP (.gsa) THAT YtkcnjhkbcjnbkaaDoorProg.lean LOADS. Nothing in Lean hashes anything: it is a label: what it is worth is what the hold of that sum in a sandbox is worth. -/
noncomputable def Tryd.pinned : Pinned := { name := "ytkcnjhkbcjnbkaadoor", sum := "22a516ab9e0e1651a2ff5c54f713b4a8b076fca21ebe05a5bdb493f479b61260", checked := Tryd.checked }
namespace Rows
def none {H : Type} : Left H := { results := [], args := [] }

/- WHAT THE LISTED PACKAGE-LEVEL VARIABLES READ AS WHEN THE CALL BEGINS. Each datum BY PROGRAM (the guide's laid-datum.mjs) off the statement by which the dump's own 'gosem.cut.vars' lays the variable. In a bare row this is a premise. The card (YtkcnjhkbcjnbkaaDoorCards.lean) ties it to the program's text. -/
def laid_collimator_block_order {H : Type} : DataW H := .agg [.lit (.int .i64 16), .lit (.int .i64 17), .lit (.int .i64 18), .lit (.int .i64 0), .lit (.int .i64 8), .lit (.int .i64 7), .lit (.int .i64 9), .lit (.int .i64 6), .lit (.int .i64 10), .lit (.int .i64 5), .lit (.int .i64 11), .lit (.int .i64 4), .lit (.int .i64 12), .lit (.int .i64 3), .lit (.int .i64 13), .lit (.int .i64 2), .lit (.int .i64 14), .lit (.int .i64 1), .lit (.int .i64 15)]

/-- 'collimatorlaw10.InflateSteps': WHATEVER THE INPUT: true; the input reads as it did. -/
def inflateStepsSpec : ChangeSpec := { name := "inflateSteps", fn := fun _ => fun
  | [d1, d2] => { results := [.lit (.bool true)], args := [d1, d2] }
  | _ => none }
def inflateStepsRow : OpenClaim := { program := "ytkcnjhkbcjnbkaadoor", sum := "22a516ab9e0e1651a2ff5c54f713b4a8b076fca21ebe05a5bdb493f479b61260", func := "collimator/collimatorlaw10.InflateSteps", spec := "inflateSteps", unfollowed := true, recurses := true, named := ["collimator/block.order"], apart := false, laid := [("collimator/block.order", laid_collimator_block_order)] }
def InflateStepsSaid : Prop := inflateStepsRow.holds Tryd.pinned (OpenSpec.ofChange inflateStepsSpec)

/-- ITS FALSE NEIGHBOUR: 'it returns false'. Refute it at one input. -/
def inflateStepsWrong : ChangeSpec := { name := "inflateSteps", fn := fun _ => fun
  | [d1, d2] => { results := [.lit (.bool false)], args := [d1, d2] }
  | _ => none }
def InflateStepsWrongFalsely : Prop := inflateStepsRow.holds Tryd.pinned (OpenSpec.ofChange inflateStepsWrong)

/-- 'collimatorlaw10.InflateFrom': WHATEVER THE INPUT: true; the input reads as it did. -/
def inflateFromSpec : ChangeSpec := { name := "inflateFrom", fn := fun _ => fun
  | [d1, d2, d3] => { results := [.lit (.bool true)], args := [d1, d2, d3] }
  | _ => none }
def inflateFromRow : OpenClaim := { program := "ytkcnjhkbcjnbkaadoor", sum := "22a516ab9e0e1651a2ff5c54f713b4a8b076fca21ebe05a5bdb493f479b61260", func := "collimator/collimatorlaw10.InflateFrom", spec := "inflateFrom", unfollowed := true, recurses := true, named := ["collimator/block.order"], apart := false, laid := [("collimator/block.order", laid_collimator_block_order)] }
def InflateFromSaid : Prop := inflateFromRow.holds Tryd.pinned (OpenSpec.ofChange inflateFromSpec)

/-- ITS FALSE NEIGHBOUR: 'it returns false'. Refute it at one input. -/
def inflateFromWrong : ChangeSpec := { name := "inflateFrom", fn := fun _ => fun
  | [d1, d2, d3] => { results := [.lit (.bool false)], args := [d1, d2, d3] }
  | _ => none }
def InflateFromWrongFalsely : Prop := inflateFromRow.holds Tryd.pinned (OpenSpec.ofChange inflateFromWrong)

/-- 'collimatorlaw10.InflatePreset': WHATEVER THE INPUT: true; the input reads as it did. -/
def inflatePresetSpec : ChangeSpec := { name := "inflatePreset", fn := fun _ => fun
  | [d1, d2, d3] => { results := [.lit (.bool true)], args := [d1, d2, d3] }
  | _ => none }
def inflatePresetRow : OpenClaim := { program := "ytkcnjhkbcjnbkaadoor", sum := "22a516ab9e0e1651a2ff5c54f713b4a8b076fca21ebe05a5bdb493f479b61260", func := "collimator/collimatorlaw10.InflatePreset", spec := "inflatePreset", unfollowed := true, recurses := true, named := ["collimator/block.order"], apart := false, laid := [("collimator/block.order", laid_collimator_block_order)] }
def InflatePresetSaid : Prop := inflatePresetRow.holds Tryd.pinned (OpenSpec.ofChange inflatePresetSpec)

/-- ITS FALSE NEIGHBOUR: 'it returns false'. Refute it at one input. -/
def inflatePresetWrong : ChangeSpec := { name := "inflatePreset", fn := fun _ => fun
  | [d1, d2, d3] => { results := [.lit (.bool false)], args := [d1, d2, d3] }
  | _ => none }
def InflatePresetWrongFalsely : Prop := inflatePresetRow.holds Tryd.pinned (OpenSpec.ofChange inflatePresetWrong)

/-- 'collimatorlaw10.InflateNil': WHATEVER THE INPUT: true; the input reads as it did. -/
def inflateNilSpec : ChangeSpec := { name := "inflateNil", fn := fun _ => fun
  | [d] => { results := [.lit (.bool true)], args := [d] }
  | _ => none }
def inflateNilRow : OpenClaim := { program := "ytkcnjhkbcjnbkaadoor", sum := "22a516ab9e0e1651a2ff5c54f713b4a8b076fca21ebe05a5bdb493f479b61260", func := "collimator/collimatorlaw10.InflateNil", spec := "inflateNil", unfollowed := true, recurses := true, named := ["collimator/block.order"], apart := false, laid := [("collimator/block.order", laid_collimator_block_order)] }
def InflateNilSaid : Prop := inflateNilRow.holds Tryd.pinned (OpenSpec.ofChange inflateNilSpec)

/-- ITS FALSE NEIGHBOUR: 'it returns false'. Refute it at one input. -/
def inflateNilWrong : ChangeSpec := { name := "inflateNil", fn := fun _ => fun
  | [d] => { results := [.lit (.bool false)], args := [d] }
  | _ => none }
def InflateNilWrongFalsely : Prop := inflateNilRow.holds Tryd.pinned (OpenSpec.ofChange inflateNilWrong)

/- THE SECOND FORM. 'bulk': how many values and letters a reading holds, each counted each time it is reached (what is shared counts as often as it is met; a slice's spare places count too). A statement '..UptoSaid' is the law's where the arguments, and the package variables that the reading takes, are together of bulk at most 1048576: NARROWER than '..Said'. Prove '..Said' where nothing that the law and all that it calls make is longer than what came in: it says more and counts as full. Else prove '..UptoSaid'. A law counts once. -/
mutual
def uptoBulk {H : Type} : DataW H → Nat
  | .lit (.string bytes) => bytes.length + 1
  | .lit _ => 1
  | .nil => 1
  | .ptr d => uptoBulk d + 1
  | .slice elems spare => uptoBulkAll elems + uptoBulkAll spare + 1
  | .agg parts => uptoBulkAll parts + 1
  | .iface _ d => uptoBulk d + 1
  | .map entries => uptoBulkEntries entries + 1
  | .held _ => 1
def uptoBulkAll {H : Type} : List (DataW H) → Nat
  | [] => 0
  | d :: r => uptoBulk d + uptoBulkAll r
def uptoBulkEntries {H : Type} : List (Lit × DataW H) → Nat
  | [] => 0
  | x :: r => uptoBulkEntry x + uptoBulkEntries r
def uptoBulkEntry {H : Type} : Lit × DataW H → Nat
  | (.string bytes, d) => bytes.length + uptoBulk d + 1
  | (_, d) => uptoBulk d + 1
 end
def uptoSmall : (H : Type) → List (DataW H) → Bool := fun _ ds => decide (uptoBulkAll ds ≤ 1048576)
def OpenSpec.upto (s : _root_.Go.ChangeSpec) : _root_.Go.OpenSpec := { _root_.Go.OpenSpec.ofChange s with cond := some uptoSmall }

/-- 'collimatorlaw10.InflateSteps', WHERE WHAT IT READS IS OF BULK AT MOST 1048576: true; the input reads as it did. -/
def inflateStepsUptoRow : OpenClaim := { program := "ytkcnjhkbcjnbkaadoor", sum := "22a516ab9e0e1651a2ff5c54f713b4a8b076fca21ebe05a5bdb493f479b61260", func := "collimator/collimatorlaw10.InflateSteps", spec := "inflateSteps", unfollowed := true, recurses := true, named := ["collimator/block.order"], apart := false, laid := [("collimator/block.order", laid_collimator_block_order)], narrowed := true }
def InflateStepsUptoSaid : Prop := inflateStepsUptoRow.holds Tryd.pinned (OpenSpec.upto inflateStepsSpec)

/-- 'collimatorlaw10.InflateFrom', WHERE WHAT IT READS IS OF BULK AT MOST 1048576: true; the input reads as it did. -/
def inflateFromUptoRow : OpenClaim := { program := "ytkcnjhkbcjnbkaadoor", sum := "22a516ab9e0e1651a2ff5c54f713b4a8b076fca21ebe05a5bdb493f479b61260", func := "collimator/collimatorlaw10.InflateFrom", spec := "inflateFrom", unfollowed := true, recurses := true, named := ["collimator/block.order"], apart := false, laid := [("collimator/block.order", laid_collimator_block_order)], narrowed := true }
def InflateFromUptoSaid : Prop := inflateFromUptoRow.holds Tryd.pinned (OpenSpec.upto inflateFromSpec)

/-- 'collimatorlaw10.InflatePreset', WHERE WHAT IT READS IS OF BULK AT MOST 1048576: true; the input reads as it did. -/
def inflatePresetUptoRow : OpenClaim := { program := "ytkcnjhkbcjnbkaadoor", sum := "22a516ab9e0e1651a2ff5c54f713b4a8b076fca21ebe05a5bdb493f479b61260", func := "collimator/collimatorlaw10.InflatePreset", spec := "inflatePreset", unfollowed := true, recurses := true, named := ["collimator/block.order"], apart := false, laid := [("collimator/block.order", laid_collimator_block_order)], narrowed := true }
def InflatePresetUptoSaid : Prop := inflatePresetUptoRow.holds Tryd.pinned (OpenSpec.upto inflatePresetSpec)

/-- 'collimatorlaw10.InflateNil', WHERE WHAT IT READS IS OF BULK AT MOST 1048576: true; the input reads as it did. -/
def inflateNilUptoRow : OpenClaim := { program := "ytkcnjhkbcjnbkaadoor", sum := "22a516ab9e0e1651a2ff5c54f713b4a8b076fca21ebe05a5bdb493f479b61260", func := "collimator/collimatorlaw10.InflateNil", spec := "inflateNil", unfollowed := true, recurses := true, named := ["collimator/block.order"], apart := false, laid := [("collimator/block.order", laid_collimator_block_order)], narrowed := true }
def InflateNilUptoSaid : Prop := inflateNilUptoRow.holds Tryd.pinned (OpenSpec.upto inflateNilSpec)

end Rows
end Go.Proofs.YtkcnjhkbcjnbkaaDoor
