/-
  NARROWER THAN 'FOR EVERY INPUT', by the rows' own cells (each row's printed sentence says how): InflatePlays: laid · PackTexts: laid · PackBack: laid · PackSplits: laid.
  DERIVED. THE GIVEN ROWS OF THIS SEAT. 4 by the template 'for every input the law returns true; each argument reads behind the call as it read before'; 0 by the template 'total and deterministic' (their statements: YtnkninjdpgpkmaaGreatDoorTotals.lean).
  GIVEN WITH THE SEED: the statements are not yours to turn. If you find one false, say at which input.
  Laid BY PROGRAM, IN A SANDBOX (cutbox-rows.mjs): the forced cells as the released guide's own fill.sh prints them over the translation a560e193387f8aa5… (all of the seat's roots in one cut). By AI agents, Wed Nov 11 2026. No macro, syntax, notation, axiom, sorry.
-/
import Derived.Test.YtnkninjdpgpkmaaGreatDoorChecked
import GoSem.Claim
import GoSem.ClaimJoined
import GoSem.ClaimMapViews
import Derived.JoinedTies
import Derived.KernelRfl
namespace Go.Proofs.YtnkninjdpgpkmaaGreatDoor
/- THE CELL 'sum', in the pinned program and in every row, IS THE sha256 OF THE DUMP (.gsa) THAT YtnkninjdpgpkmaaGreatDoorProg.lean LOADS. Nothing in Lean hashes anything: it is a label: what it is worth is what the hold of that sum in a sandbox is worth. -/
noncomputable def Tryz.pinned : Pinned := { name := "ytnkninjdpgpkmaagreatdoor", sum := "a560e193387f8aa544b299028402a40bfd1bce599ef613e9215046b75bd82532", checked := Tryz.checked }
namespace Rows
def none {H : Type} : Left H := { results := [], args := [] }

/- WHAT THE LISTED PACKAGE-LEVEL VARIABLES READ AS WHEN THE CALL BEGINS. Each datum BY PROGRAM (the guide's laid-datum.mjs) off the statement by which the dump's own 'gosem.cut.vars' lays the variable. In a bare row this is a premise. The card (YtnkninjdpgpkmaaGreatDoorCards.lean) ties it to the program's text. -/
def laid_collimator_block_order {H : Type} : DataW H := .agg [.lit (.int .i64 16), .lit (.int .i64 17), .lit (.int .i64 18), .lit (.int .i64 0), .lit (.int .i64 8), .lit (.int .i64 7), .lit (.int .i64 9), .lit (.int .i64 6), .lit (.int .i64 10), .lit (.int .i64 5), .lit (.int .i64 11), .lit (.int .i64 4), .lit (.int .i64 12), .lit (.int .i64 3), .lit (.int .i64 13), .lit (.int .i64 2), .lit (.int .i64 14), .lit (.int .i64 1), .lit (.int .i64 15)]

/-- 'collimatorlaw10.InflatePlays': WHATEVER THE INPUT: true; the input reads as it did. -/
def inflatePlaysSpec : ChangeSpec := { name := "inflatePlays", fn := fun _ => fun
  | [d] => { results := [.lit (.bool true)], args := [d] }
  | _ => none }
def inflatePlaysRow : OpenClaim := { program := "ytnkninjdpgpkmaagreatdoor", sum := "a560e193387f8aa544b299028402a40bfd1bce599ef613e9215046b75bd82532", func := "collimator/collimatorlaw10.InflatePlays", spec := "inflatePlays", unfollowed := true, recurses := true, named := ["collimator/block.order"], apart := false, laid := [("collimator/block.order", laid_collimator_block_order)] }
def InflatePlaysSaid : Prop := inflatePlaysRow.holds Tryz.pinned (OpenSpec.ofChange inflatePlaysSpec)

/-- ITS FALSE NEIGHBOUR: 'it returns false'. Refute it at one input. -/
def inflatePlaysWrong : ChangeSpec := { name := "inflatePlays", fn := fun _ => fun
  | [d] => { results := [.lit (.bool false)], args := [d] }
  | _ => none }
def InflatePlaysWrongFalsely : Prop := inflatePlaysRow.holds Tryz.pinned (OpenSpec.ofChange inflatePlaysWrong)

/-- 'collimatorlaw11.PackTexts': WHATEVER THE INPUT: true; the input reads as it did. -/
def packTextsSpec : ChangeSpec := { name := "packTexts", fn := fun _ => fun
  | [d] => { results := [.lit (.bool true)], args := [d] }
  | _ => none }
def packTextsRow : OpenClaim := { program := "ytnkninjdpgpkmaagreatdoor", sum := "a560e193387f8aa544b299028402a40bfd1bce599ef613e9215046b75bd82532", func := "collimator/collimatorlaw11.PackTexts", spec := "packTexts", unfollowed := true, recurses := true, named := ["collimator/block.order"], apart := false, laid := [("collimator/block.order", laid_collimator_block_order)] }
def PackTextsSaid : Prop := packTextsRow.holds Tryz.pinned (OpenSpec.ofChange packTextsSpec)

/-- ITS FALSE NEIGHBOUR: 'it returns false'. Refute it at one input. -/
def packTextsWrong : ChangeSpec := { name := "packTexts", fn := fun _ => fun
  | [d] => { results := [.lit (.bool false)], args := [d] }
  | _ => none }
def PackTextsWrongFalsely : Prop := packTextsRow.holds Tryz.pinned (OpenSpec.ofChange packTextsWrong)

/-- 'collimatorlaw11.PackBack': WHATEVER THE INPUT: true; the input reads as it did. -/
def packBackSpec : ChangeSpec := { name := "packBack", fn := fun _ => fun
  | [d] => { results := [.lit (.bool true)], args := [d] }
  | _ => none }
def packBackRow : OpenClaim := { program := "ytnkninjdpgpkmaagreatdoor", sum := "a560e193387f8aa544b299028402a40bfd1bce599ef613e9215046b75bd82532", func := "collimator/collimatorlaw11.PackBack", spec := "packBack", unfollowed := true, recurses := true, named := ["collimator/block.order"], apart := false, laid := [("collimator/block.order", laid_collimator_block_order)] }
def PackBackSaid : Prop := packBackRow.holds Tryz.pinned (OpenSpec.ofChange packBackSpec)

/-- ITS FALSE NEIGHBOUR: 'it returns false'. Refute it at one input. -/
def packBackWrong : ChangeSpec := { name := "packBack", fn := fun _ => fun
  | [d] => { results := [.lit (.bool false)], args := [d] }
  | _ => none }
def PackBackWrongFalsely : Prop := packBackRow.holds Tryz.pinned (OpenSpec.ofChange packBackWrong)

/-- 'collimatorlaw11.PackSplits': WHATEVER THE INPUT: true; the input reads as it did. -/
def packSplitsSpec : ChangeSpec := { name := "packSplits", fn := fun _ => fun
  | [d1, d2] => { results := [.lit (.bool true)], args := [d1, d2] }
  | _ => none }
def packSplitsRow : OpenClaim := { program := "ytnkninjdpgpkmaagreatdoor", sum := "a560e193387f8aa544b299028402a40bfd1bce599ef613e9215046b75bd82532", func := "collimator/collimatorlaw11.PackSplits", spec := "packSplits", unfollowed := true, recurses := true, named := ["collimator/block.order"], apart := false, laid := [("collimator/block.order", laid_collimator_block_order)] }
def PackSplitsSaid : Prop := packSplitsRow.holds Tryz.pinned (OpenSpec.ofChange packSplitsSpec)

/-- ITS FALSE NEIGHBOUR: 'it returns false'. Refute it at one input. -/
def packSplitsWrong : ChangeSpec := { name := "packSplits", fn := fun _ => fun
  | [d1, d2] => { results := [.lit (.bool false)], args := [d1, d2] }
  | _ => none }
def PackSplitsWrongFalsely : Prop := packSplitsRow.holds Tryz.pinned (OpenSpec.ofChange packSplitsWrong)

/- THE SECOND FORM. 'bulk': how many values and letters a reading holds, each counted each time it is reached (what is shared counts as often as it is met; a slice's spare places count too). A statement '..UptoSaid' is the law's where the arguments, and the package variables that the reading takes, are together of bulk at most 1048576: NARROWER than '..Said'. Prove '..Said' where nothing that the law and all that it calls make is longer than what came in: it says more and counts as full. Else prove '..UptoSaid'. A law counts once. -/
mutual
def uptoBulk {H : Type} : DataW H → Nat
  | .lit (.string bytes) => bytes.length + 1
  | .lit _ => 1
  | .nil => 1
  | .ptr d => uptoBulk d + 1
  | .slice elems spare => uptoBulkAll elems + uptoBulkAll spare + 1
  | .agg parts => uptoBulkAll parts + 1
  | .iface _ d => uptoBulk d + 1
  | .map entries => uptoBulkEntries entries + 1
  | .held _ => 1
def uptoBulkAll {H : Type} : List (DataW H) → Nat
  | [] => 0
  | d :: r => uptoBulk d + uptoBulkAll r
def uptoBulkEntries {H : Type} : List (Lit × DataW H) → Nat
  | [] => 0
  | x :: r => uptoBulkEntry x + uptoBulkEntries r
def uptoBulkEntry {H : Type} : Lit × DataW H → Nat
  | (.string bytes, d) => bytes.length + uptoBulk d + 1
  | (_, d) => uptoBulk d + 1
 end
def uptoSmall : (H : Type) → List (DataW H) → Bool := fun _ ds => decide (uptoBulkAll ds ≤ 1048576)
def OpenSpec.upto (s : _root_.Go.ChangeSpec) : _root_.Go.OpenSpec := { _root_.Go.OpenSpec.ofChange s with cond := some uptoSmall }

/-- 'collimatorlaw10.InflatePlays', WHERE WHAT IT READS IS OF BULK AT MOST 1048576: true; the input reads as it did. -/
def inflatePlaysUptoRow : OpenClaim := { program := "ytnkninjdpgpkmaagreatdoor", sum := "a560e193387f8aa544b299028402a40bfd1bce599ef613e9215046b75bd82532", func := "collimator/collimatorlaw10.InflatePlays", spec := "inflatePlays", unfollowed := true, recurses := true, named := ["collimator/block.order"], apart := false, laid := [("collimator/block.order", laid_collimator_block_order)], narrowed := true }
def InflatePlaysUptoSaid : Prop := inflatePlaysUptoRow.holds Tryz.pinned (OpenSpec.upto inflatePlaysSpec)

/-- 'collimatorlaw11.PackTexts', WHERE WHAT IT READS IS OF BULK AT MOST 1048576: true; the input reads as it did. -/
def packTextsUptoRow : OpenClaim := { program := "ytnkninjdpgpkmaagreatdoor", sum := "a560e193387f8aa544b299028402a40bfd1bce599ef613e9215046b75bd82532", func := "collimator/collimatorlaw11.PackTexts", spec := "packTexts", unfollowed := true, recurses := true, named := ["collimator/block.order"], apart := false, laid := [("collimator/block.order", laid_collimator_block_order)], narrowed := true }
def PackTextsUptoSaid : Prop := packTextsUptoRow.holds Tryz.pinned (OpenSpec.upto packTextsSpec)

/-- 'collimatorlaw11.PackBack', WHERE WHAT IT READS IS OF BULK AT MOST 1048576: true; the input reads as it did. -/
def packBackUptoRow : OpenClaim := { program := "ytnkninjdpgpkmaagreatdoor", sum := "a560e193387f8aa544b299028402a40bfd1bce599ef613e9215046b75bd82532", func := "collimator/collimatorlaw11.PackBack", spec := "packBack", unfollowed := true, recurses := true, named := ["collimator/block.order"], apart := false, laid := [("collimator/block.order", laid_collimator_block_order)], narrowed := true }
def PackBackUptoSaid : Prop := packBackUptoRow.holds Tryz.pinned (OpenSpec.upto packBackSpec)

/-- 'collimatorlaw11.PackSplits', WHERE WHAT IT READS IS OF BULK AT MOST 1048576: true; the input reads as it did. -/
def packSplitsUptoRow : OpenClaim := { program := "ytnkninjdpgpkmaagreatdoor", sum := "a560e193387f8aa544b299028402a40bfd1bce599ef613e9215046b75bd82532", func := "collimator/collimatorlaw11.PackSplits", spec := "packSplits", unfollowed := true, recurses := true, named := ["collimator/block.order"], apart := false, laid := [("collimator/block.order", laid_collimator_block_order)], narrowed := true }
def PackSplitsUptoSaid : Prop := packSplitsUptoRow.holds Tryz.pinned (OpenSpec.upto packSplitsSpec)

end Rows
end Go.Proofs.YtnkninjdpgpkmaaGreatDoor
