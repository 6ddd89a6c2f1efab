/-
  NARROWER THAN 'FOR EVERY INPUT', by the rows' own cells (each row's printed sentence says how): BlockReads: laid · BlockWrites: laid · BlockBack: laid · BlockStands: laid · BlockNil: laid.
  DERIVED. THE GIVEN ROWS OF THIS SEAT. 5 by the template 'for every input the law returns true; each argument reads behind the call as it read before'; 0 by the template 'total and deterministic' (their statements: YtgbdecnaamlekaaDoorTotals.lean).
  GIVEN WITH THE SEED: the statements are not yours to turn. If you find one false, say at which input.
  Laid BY PROGRAM, IN A SANDBOX (cutbox-rows.mjs): the forced cells as the released guide's own fill.sh prints them over the translation e66e7808570c2a9d… (all of the seat's roots in one cut). By AI agents, Wed Nov 11 2026. No macro, syntax, notation, axiom, sorry.
-/
import Derived.Test.YtgbdecnaamlekaaDoorChecked
import GoSem.Claim
import GoSem.ClaimJoined
import GoSem.ClaimMapViews
import Derived.JoinedTies
import Derived.KernelRfl
namespace Go.Proofs.YtgbdecnaamlekaaDoor
/- THE CELL 'sum', in the pinned program and in every row, IS THE sha256 OF THE DUMP (.gsa) THAT YtgbdecnaamlekaaDoorProg.lean LOADS. Nothing in Lean hashes anything: it is a label: what it is worth is what the hold of that sum in a sandbox is worth. -/
noncomputable def Tryd.pinned : Pinned := { name := "ytgbdecnaamlekaadoor", sum := "e66e7808570c2a9d362392d94aabc2d71db748c4cd5a2e89f1b856ed7a0cfa47", checked := Tryd.checked }
namespace Rows
def none {H : Type} : Left H := { results := [], args := [] }

/- WHAT THE LISTED PACKAGE-LEVEL VARIABLES READ AS WHEN THE CALL BEGINS. Each datum BY PROGRAM (the guide's laid-datum.mjs) off the statement by which the dump's own 'gosem.cut.vars' lays the variable. In a bare row this is a premise. The card (YtgbdecnaamlekaaDoorCards.lean) ties it to the program's text. -/
def laid_collimator_block_order {H : Type} : DataW H := .agg [.lit (.int .i64 16), .lit (.int .i64 17), .lit (.int .i64 18), .lit (.int .i64 0), .lit (.int .i64 8), .lit (.int .i64 7), .lit (.int .i64 9), .lit (.int .i64 6), .lit (.int .i64 10), .lit (.int .i64 5), .lit (.int .i64 11), .lit (.int .i64 4), .lit (.int .i64 12), .lit (.int .i64 3), .lit (.int .i64 13), .lit (.int .i64 2), .lit (.int .i64 14), .lit (.int .i64 1), .lit (.int .i64 15)]

/-- 'collimatorlaw09.BlockReads': WHATEVER THE INPUT: true; the input reads as it did. -/
def blockReadsSpec : ChangeSpec := { name := "blockReads", fn := fun _ => fun
  | [d1, d2] => { results := [.lit (.bool true)], args := [d1, d2] }
  | _ => none }
def blockReadsRow : OpenClaim := { program := "ytgbdecnaamlekaadoor", sum := "e66e7808570c2a9d362392d94aabc2d71db748c4cd5a2e89f1b856ed7a0cfa47", func := "collimator/collimatorlaw09.BlockReads", spec := "blockReads", named := ["collimator/block.order"], apart := false, laid := [("collimator/block.order", laid_collimator_block_order)] }
def BlockReadsSaid : Prop := blockReadsRow.holds Tryd.pinned (OpenSpec.ofChange blockReadsSpec)

/-- ITS FALSE NEIGHBOUR: 'it returns false'. Refute it at one input. -/
def blockReadsWrong : ChangeSpec := { name := "blockReads", fn := fun _ => fun
  | [d1, d2] => { results := [.lit (.bool false)], args := [d1, d2] }
  | _ => none }
def BlockReadsWrongFalsely : Prop := blockReadsRow.holds Tryd.pinned (OpenSpec.ofChange blockReadsWrong)

/-- 'collimatorlaw09.BlockWrites': WHATEVER THE INPUT: true; the input reads as it did. -/
def blockWritesSpec : ChangeSpec := { name := "blockWrites", fn := fun _ => fun
  | [d1, d2] => { results := [.lit (.bool true)], args := [d1, d2] }
  | _ => none }
def blockWritesRow : OpenClaim := { program := "ytgbdecnaamlekaadoor", sum := "e66e7808570c2a9d362392d94aabc2d71db748c4cd5a2e89f1b856ed7a0cfa47", func := "collimator/collimatorlaw09.BlockWrites", spec := "blockWrites", unfollowed := true, recurses := true, named := ["collimator/block.order"], apart := false, laid := [("collimator/block.order", laid_collimator_block_order)] }
def BlockWritesSaid : Prop := blockWritesRow.holds Tryd.pinned (OpenSpec.ofChange blockWritesSpec)

/-- ITS FALSE NEIGHBOUR: 'it returns false'. Refute it at one input. -/
def blockWritesWrong : ChangeSpec := { name := "blockWrites", fn := fun _ => fun
  | [d1, d2] => { results := [.lit (.bool false)], args := [d1, d2] }
  | _ => none }
def BlockWritesWrongFalsely : Prop := blockWritesRow.holds Tryd.pinned (OpenSpec.ofChange blockWritesWrong)

/-- 'collimatorlaw09.BlockBack': WHATEVER THE INPUT: true; the input reads as it did. -/
def blockBackSpec : ChangeSpec := { name := "blockBack", fn := fun _ => fun
  | [d1, d2] => { results := [.lit (.bool true)], args := [d1, d2] }
  | _ => none }
def blockBackRow : OpenClaim := { program := "ytgbdecnaamlekaadoor", sum := "e66e7808570c2a9d362392d94aabc2d71db748c4cd5a2e89f1b856ed7a0cfa47", func := "collimator/collimatorlaw09.BlockBack", spec := "blockBack", unfollowed := true, recurses := true, named := ["collimator/block.order"], apart := false, laid := [("collimator/block.order", laid_collimator_block_order)] }
def BlockBackSaid : Prop := blockBackRow.holds Tryd.pinned (OpenSpec.ofChange blockBackSpec)

/-- ITS FALSE NEIGHBOUR: 'it returns false'. Refute it at one input. -/
def blockBackWrong : ChangeSpec := { name := "blockBack", fn := fun _ => fun
  | [d1, d2] => { results := [.lit (.bool false)], args := [d1, d2] }
  | _ => none }
def BlockBackWrongFalsely : Prop := blockBackRow.holds Tryd.pinned (OpenSpec.ofChange blockBackWrong)

/-- 'collimatorlaw09.BlockStands': WHATEVER THE INPUT: true; the input reads as it did. -/
def blockStandsSpec : ChangeSpec := { name := "blockStands", fn := fun _ => fun
  | [d1, d2] => { results := [.lit (.bool true)], args := [d1, d2] }
  | _ => none }
def blockStandsRow : OpenClaim := { program := "ytgbdecnaamlekaadoor", sum := "e66e7808570c2a9d362392d94aabc2d71db748c4cd5a2e89f1b856ed7a0cfa47", func := "collimator/collimatorlaw09.BlockStands", spec := "blockStands", unfollowed := true, recurses := true, named := ["collimator/block.order"], apart := false, laid := [("collimator/block.order", laid_collimator_block_order)] }
def BlockStandsSaid : Prop := blockStandsRow.holds Tryd.pinned (OpenSpec.ofChange blockStandsSpec)

/-- ITS FALSE NEIGHBOUR: 'it returns false'. Refute it at one input. -/
def blockStandsWrong : ChangeSpec := { name := "blockStands", fn := fun _ => fun
  | [d1, d2] => { results := [.lit (.bool false)], args := [d1, d2] }
  | _ => none }
def BlockStandsWrongFalsely : Prop := blockStandsRow.holds Tryd.pinned (OpenSpec.ofChange blockStandsWrong)

/-- 'collimatorlaw09.BlockNil': WHATEVER THE INPUT: true; the input reads as it did. -/
def blockNilSpec : ChangeSpec := { name := "blockNil", fn := fun _ => fun
  | [d] => { results := [.lit (.bool true)], args := [d] }
  | _ => none }
def blockNilRow : OpenClaim := { program := "ytgbdecnaamlekaadoor", sum := "e66e7808570c2a9d362392d94aabc2d71db748c4cd5a2e89f1b856ed7a0cfa47", func := "collimator/collimatorlaw09.BlockNil", spec := "blockNil", unfollowed := true, recurses := true, named := ["collimator/block.order"], apart := false, laid := [("collimator/block.order", laid_collimator_block_order)] }
def BlockNilSaid : Prop := blockNilRow.holds Tryd.pinned (OpenSpec.ofChange blockNilSpec)

/-- ITS FALSE NEIGHBOUR: 'it returns false'. Refute it at one input. -/
def blockNilWrong : ChangeSpec := { name := "blockNil", fn := fun _ => fun
  | [d] => { results := [.lit (.bool false)], args := [d] }
  | _ => none }
def BlockNilWrongFalsely : Prop := blockNilRow.holds Tryd.pinned (OpenSpec.ofChange blockNilWrong)

/- THE SECOND FORM. 'bulk': how many values and letters a reading holds, each counted each time it is reached (what is shared counts as often as it is met; a slice's spare places count too). A statement '..UptoSaid' is the law's where the arguments, and the package variables that the reading takes, are together of bulk at most 1048576: NARROWER than '..Said'. Prove '..Said' where nothing that the law and all that it calls make is longer than what came in: it says more and counts as full. Else prove '..UptoSaid'. A law counts once. -/
mutual
def uptoBulk {H : Type} : DataW H → Nat
  | .lit (.string bytes) => bytes.length + 1
  | .lit _ => 1
  | .nil => 1
  | .ptr d => uptoBulk d + 1
  | .slice elems spare => uptoBulkAll elems + uptoBulkAll spare + 1
  | .agg parts => uptoBulkAll parts + 1
  | .iface _ d => uptoBulk d + 1
  | .map entries => uptoBulkEntries entries + 1
  | .held _ => 1
def uptoBulkAll {H : Type} : List (DataW H) → Nat
  | [] => 0
  | d :: r => uptoBulk d + uptoBulkAll r
def uptoBulkEntries {H : Type} : List (Lit × DataW H) → Nat
  | [] => 0
  | x :: r => uptoBulkEntry x + uptoBulkEntries r
def uptoBulkEntry {H : Type} : Lit × DataW H → Nat
  | (.string bytes, d) => bytes.length + uptoBulk d + 1
  | (_, d) => uptoBulk d + 1
 end
def uptoSmall : (H : Type) → List (DataW H) → Bool := fun _ ds => decide (uptoBulkAll ds ≤ 1048576)
def OpenSpec.upto (s : _root_.Go.ChangeSpec) : _root_.Go.OpenSpec := { _root_.Go.OpenSpec.ofChange s with cond := some uptoSmall }

/-- 'collimatorlaw09.BlockReads', WHERE WHAT IT READS IS OF BULK AT MOST 1048576: true; the input reads as it did. -/
def blockReadsUptoRow : OpenClaim := { program := "ytgbdecnaamlekaadoor", sum := "e66e7808570c2a9d362392d94aabc2d71db748c4cd5a2e89f1b856ed7a0cfa47", func := "collimator/collimatorlaw09.BlockReads", spec := "blockReads", named := ["collimator/block.order"], apart := false, laid := [("collimator/block.order", laid_collimator_block_order)], narrowed := true }
def BlockReadsUptoSaid : Prop := blockReadsUptoRow.holds Tryd.pinned (OpenSpec.upto blockReadsSpec)

/-- 'collimatorlaw09.BlockWrites', WHERE WHAT IT READS IS OF BULK AT MOST 1048576: true; the input reads as it did. -/
def blockWritesUptoRow : OpenClaim := { program := "ytgbdecnaamlekaadoor", sum := "e66e7808570c2a9d362392d94aabc2d71db748c4cd5a2e89f1b856ed7a0cfa47", func := "collimator/collimatorlaw09.BlockWrites", spec := "blockWrites", unfollowed := true, recurses := true, named := ["collimator/block.order"], apart := false, laid := [("collimator/block.order", laid_collimator_block_order)], narrowed := true }
def BlockWritesUptoSaid : Prop := blockWritesUptoRow.holds Tryd.pinned (OpenSpec.upto blockWritesSpec)

/-- 'collimatorlaw09.BlockBack', WHERE WHAT IT READS IS OF BULK AT MOST 1048576: true; the input reads as it did. -/
def blockBackUptoRow : OpenClaim := { program := "ytgbdecnaamlekaadoor", sum := "e66e7808570c2a9d362392d94aabc2d71db748c4cd5a2e89f1b856ed7a0cfa47", func := "collimator/collimatorlaw09.BlockBack", spec := "blockBack", unfollowed := true, recurses := true, named := ["collimator/block.order"], apart := false, laid := [("collimator/block.order", laid_collimator_block_order)], narrowed := true }
def BlockBackUptoSaid : Prop := blockBackUptoRow.holds Tryd.pinned (OpenSpec.upto blockBackSpec)

/-- 'collimatorlaw09.BlockStands', WHERE WHAT IT READS IS OF BULK AT MOST 1048576: true; the input reads as it did. -/
def blockStandsUptoRow : OpenClaim := { program := "ytgbdecnaamlekaadoor", sum := "e66e7808570c2a9d362392d94aabc2d71db748c4cd5a2e89f1b856ed7a0cfa47", func := "collimator/collimatorlaw09.BlockStands", spec := "blockStands", unfollowed := true, recurses := true, named := ["collimator/block.order"], apart := false, laid := [("collimator/block.order", laid_collimator_block_order)], narrowed := true }
def BlockStandsUptoSaid : Prop := blockStandsUptoRow.holds Tryd.pinned (OpenSpec.upto blockStandsSpec)

/-- 'collimatorlaw09.BlockNil', WHERE WHAT IT READS IS OF BULK AT MOST 1048576: true; the input reads as it did. -/
def blockNilUptoRow : OpenClaim := { program := "ytgbdecnaamlekaadoor", sum := "e66e7808570c2a9d362392d94aabc2d71db748c4cd5a2e89f1b856ed7a0cfa47", func := "collimator/collimatorlaw09.BlockNil", spec := "blockNil", unfollowed := true, recurses := true, named := ["collimator/block.order"], apart := false, laid := [("collimator/block.order", laid_collimator_block_order)], narrowed := true }
def BlockNilUptoSaid : Prop := blockNilUptoRow.holds Tryd.pinned (OpenSpec.upto blockNilSpec)

end Rows
end Go.Proofs.YtgbdecnaamlekaaDoor
