/-
  No cell of these rows narrows 'for every input' (looked for: loops, veiled, ifaces, maps, wideKeys, modest, calm, conditions, laid).
  DERIVED. THE GIVEN ROWS OF THIS SEAT. 4 by the template 'for every input the law returns true; each argument reads behind the call as it read before'; 0 by the template 'total and deterministic' (their statements: YtdbeohfaaonbjaaTotals.lean).
  GIVEN WITH THE SEED: the statements are not yours to turn. If you find one false, say at which input.
  Laid BY PROGRAM, IN A SANDBOX (cutbox-rows.mjs): the forced cells as the released guide's own fill.sh prints them over the translation 5e0f4ca147ca4276… (all of the seat's roots in one cut). By AI agents, Wed Nov 11 2026. No macro, syntax, notation, axiom, sorry.
-/
import Derived.Test.YtdbeohfaaonbjaaChecked
import GoSem.Claim
import GoSem.ClaimJoined
import GoSem.ClaimMapViews
import Derived.JoinedTies
import Derived.KernelRfl
namespace Go.Proofs.Ytdbeohfaaonbjaa
/- THE CELL 'sum', in the pinned program and in every row, IS THE sha256 OF THE DUMP (.gsa) THAT YtdbeohfaaonbjaaProg.lean LOADS. Nothing in Lean hashes anything: it is a label: what it is worth is what the hold of that sum in a sandbox is worth. -/
noncomputable def Try.pinned : Pinned := { name := "ytdbeohfaaonbjaa", sum := "5e0f4ca147ca42760e1f73d482f3d012fe5e8fc76e77f0023b7f30520e3b1155", checked := Try.checked }
namespace Rows
def none {H : Type} : Left H := { results := [], args := [] }

/-- 'collimatorlaw14.CharsetMakes': WHATEVER THE INPUT: true; the input reads as it did. -/
def charsetMakesSpec : ChangeSpec := { name := "charsetMakes", fn := fun _ => fun
  | [d1, d2, d3] => { results := [.lit (.bool true)], args := [d1, d2, d3] }
  | _ => none }
def charsetMakesRow : OpenClaim := { program := "ytdbeohfaaonbjaa", sum := "5e0f4ca147ca42760e1f73d482f3d012fe5e8fc76e77f0023b7f30520e3b1155", func := "collimator/collimatorlaw14.CharsetMakes", spec := "charsetMakes", inPlace := ["internal/bytealg.IndexByteString"], apart := false }
def CharsetMakesSaid : Prop := charsetMakesRow.holds Try.pinned (OpenSpec.ofChange charsetMakesSpec)

/-- ITS FALSE NEIGHBOUR: 'it returns false'. Refute it at one input. -/
def charsetMakesWrong : ChangeSpec := { name := "charsetMakes", fn := fun _ => fun
  | [d1, d2, d3] => { results := [.lit (.bool false)], args := [d1, d2, d3] }
  | _ => none }
def CharsetMakesWrongFalsely : Prop := charsetMakesRow.holds Try.pinned (OpenSpec.ofChange charsetMakesWrong)

/-- 'collimatorlaw14.CharsetTells': WHATEVER THE INPUT: true; the input reads as it did. -/
def charsetTellsSpec : ChangeSpec := { name := "charsetTells", fn := fun _ => fun
  | [d1, d2] => { results := [.lit (.bool true)], args := [d1, d2] }
  | _ => none }
def charsetTellsRow : OpenClaim := { program := "ytdbeohfaaonbjaa", sum := "5e0f4ca147ca42760e1f73d482f3d012fe5e8fc76e77f0023b7f30520e3b1155", func := "collimator/collimatorlaw14.CharsetTells", spec := "charsetTells", inPlace := ["internal/bytealg.IndexByteString"], apart := false }
def CharsetTellsSaid : Prop := charsetTellsRow.holds Try.pinned (OpenSpec.ofChange charsetTellsSpec)

/-- ITS FALSE NEIGHBOUR: 'it returns false'. Refute it at one input. -/
def charsetTellsWrong : ChangeSpec := { name := "charsetTells", fn := fun _ => fun
  | [d1, d2] => { results := [.lit (.bool false)], args := [d1, d2] }
  | _ => none }
def CharsetTellsWrongFalsely : Prop := charsetTellsRow.holds Try.pinned (OpenSpec.ofChange charsetTellsWrong)

/-- 'collimatorlaw14.CharsetLaws': WHATEVER THE INPUT: true; the input reads as it did. -/
def charsetLawsSpec : ChangeSpec := { name := "charsetLaws", fn := fun _ => fun
  | [d1, d2, d3] => { results := [.lit (.bool true)], args := [d1, d2, d3] }
  | _ => none }
def charsetLawsRow : OpenClaim := { program := "ytdbeohfaaonbjaa", sum := "5e0f4ca147ca42760e1f73d482f3d012fe5e8fc76e77f0023b7f30520e3b1155", func := "collimator/collimatorlaw14.CharsetLaws", spec := "charsetLaws", inPlace := ["internal/bytealg.IndexByteString"], apart := false }
def CharsetLawsSaid : Prop := charsetLawsRow.holds Try.pinned (OpenSpec.ofChange charsetLawsSpec)

/-- ITS FALSE NEIGHBOUR: 'it returns false'. Refute it at one input. -/
def charsetLawsWrong : ChangeSpec := { name := "charsetLaws", fn := fun _ => fun
  | [d1, d2, d3] => { results := [.lit (.bool false)], args := [d1, d2, d3] }
  | _ => none }
def CharsetLawsWrongFalsely : Prop := charsetLawsRow.holds Try.pinned (OpenSpec.ofChange charsetLawsWrong)

/-- 'collimatorlaw14.CharsetRanges': WHATEVER THE INPUT: true; the input reads as it did. -/
def charsetRangesSpec : ChangeSpec := { name := "charsetRanges", fn := fun _ => fun
  | [d1, d2, d3] => { results := [.lit (.bool true)], args := [d1, d2, d3] }
  | _ => none }
def charsetRangesRow : OpenClaim := { program := "ytdbeohfaaonbjaa", sum := "5e0f4ca147ca42760e1f73d482f3d012fe5e8fc76e77f0023b7f30520e3b1155", func := "collimator/collimatorlaw14.CharsetRanges", spec := "charsetRanges", inPlace := ["internal/bytealg.IndexByteString"], apart := false }
def CharsetRangesSaid : Prop := charsetRangesRow.holds Try.pinned (OpenSpec.ofChange charsetRangesSpec)

/-- ITS FALSE NEIGHBOUR: 'it returns false'. Refute it at one input. -/
def charsetRangesWrong : ChangeSpec := { name := "charsetRanges", fn := fun _ => fun
  | [d1, d2, d3] => { results := [.lit (.bool false)], args := [d1, d2, d3] }
  | _ => none }
def CharsetRangesWrongFalsely : Prop := charsetRangesRow.holds Try.pinned (OpenSpec.ofChange charsetRangesWrong)

/- THE SECOND FORM. 'bulk': how many values and letters a reading holds, each counted each time it is reached (what is shared counts as often as it is met; a slice's spare places count too). A statement '..UptoSaid' is the law's where the arguments, and the package variables that the reading takes, are together of bulk at most 1048576: NARROWER than '..Said'. Prove '..Said' where nothing that the law and all that it calls make is longer than what came in: it says more and counts as full. Else prove '..UptoSaid'. A law counts once. -/
mutual
def uptoBulk {H : Type} : DataW H → Nat
  | .lit (.string bytes) => bytes.length + 1
  | .lit _ => 1
  | .nil => 1
  | .ptr d => uptoBulk d + 1
  | .slice elems spare => uptoBulkAll elems + uptoBulkAll spare + 1
  | .agg parts => uptoBulkAll parts + 1
  | .iface _ d => uptoBulk d + 1
  | .map entries => uptoBulkEntries entries + 1
  | .held _ => 1
def uptoBulkAll {H : Type} : List (DataW H) → Nat
  | [] => 0
  | d :: r => uptoBulk d + uptoBulkAll r
def uptoBulkEntries {H : Type} : List (Lit × DataW H) → Nat
  | [] => 0
  | x :: r => uptoBulkEntry x + uptoBulkEntries r
def uptoBulkEntry {H : Type} : Lit × DataW H → Nat
  | (.string bytes, d) => bytes.length + uptoBulk d + 1
  | (_, d) => uptoBulk d + 1
 end
def uptoSmall : (H : Type) → List (DataW H) → Bool := fun _ ds => decide (uptoBulkAll ds ≤ 1048576)
def OpenSpec.upto (s : _root_.Go.ChangeSpec) : _root_.Go.OpenSpec := { _root_.Go.OpenSpec.ofChange s with cond := some uptoSmall }

/-- 'collimatorlaw14.CharsetMakes', WHERE WHAT IT READS IS OF BULK AT MOST 1048576: true; the input reads as it did. -/
def charsetMakesUptoRow : OpenClaim := { program := "ytdbeohfaaonbjaa", sum := "5e0f4ca147ca42760e1f73d482f3d012fe5e8fc76e77f0023b7f30520e3b1155", func := "collimator/collimatorlaw14.CharsetMakes", spec := "charsetMakes", inPlace := ["internal/bytealg.IndexByteString"], apart := false, narrowed := true }
def CharsetMakesUptoSaid : Prop := charsetMakesUptoRow.holds Try.pinned (OpenSpec.upto charsetMakesSpec)

/-- 'collimatorlaw14.CharsetTells', WHERE WHAT IT READS IS OF BULK AT MOST 1048576: true; the input reads as it did. -/
def charsetTellsUptoRow : OpenClaim := { program := "ytdbeohfaaonbjaa", sum := "5e0f4ca147ca42760e1f73d482f3d012fe5e8fc76e77f0023b7f30520e3b1155", func := "collimator/collimatorlaw14.CharsetTells", spec := "charsetTells", inPlace := ["internal/bytealg.IndexByteString"], apart := false, narrowed := true }
def CharsetTellsUptoSaid : Prop := charsetTellsUptoRow.holds Try.pinned (OpenSpec.upto charsetTellsSpec)

/-- 'collimatorlaw14.CharsetLaws', WHERE WHAT IT READS IS OF BULK AT MOST 1048576: true; the input reads as it did. -/
def charsetLawsUptoRow : OpenClaim := { program := "ytdbeohfaaonbjaa", sum := "5e0f4ca147ca42760e1f73d482f3d012fe5e8fc76e77f0023b7f30520e3b1155", func := "collimator/collimatorlaw14.CharsetLaws", spec := "charsetLaws", inPlace := ["internal/bytealg.IndexByteString"], apart := false, narrowed := true }
def CharsetLawsUptoSaid : Prop := charsetLawsUptoRow.holds Try.pinned (OpenSpec.upto charsetLawsSpec)

/-- 'collimatorlaw14.CharsetRanges', WHERE WHAT IT READS IS OF BULK AT MOST 1048576: true; the input reads as it did. -/
def charsetRangesUptoRow : OpenClaim := { program := "ytdbeohfaaonbjaa", sum := "5e0f4ca147ca42760e1f73d482f3d012fe5e8fc76e77f0023b7f30520e3b1155", func := "collimator/collimatorlaw14.CharsetRanges", spec := "charsetRanges", inPlace := ["internal/bytealg.IndexByteString"], apart := false, narrowed := true }
def CharsetRangesUptoSaid : Prop := charsetRangesUptoRow.holds Try.pinned (OpenSpec.upto charsetRangesSpec)

end Rows
end Go.Proofs.Ytdbeohfaaonbjaa
