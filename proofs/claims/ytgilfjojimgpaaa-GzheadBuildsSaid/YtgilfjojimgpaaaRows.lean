/-
  No cell of these rows narrows 'for every input' (looked for: loops, veiled, ifaces, maps, wideKeys, modest, calm, conditions, laid).
  DERIVED. THE GIVEN ROWS OF THIS SEAT. 4 by the template 'for every input the law returns true; each argument reads behind the call as it read before'; 0 by the template 'total and deterministic' (their statements: YtgilfjojimgpaaaTotals.lean).
  GIVEN WITH THE SEED: the statements are not yours to turn. If you find one false, say at which input.
  Laid BY PROGRAM, IN A SANDBOX (cutbox-rows.mjs): the forced cells as the released guide's own fill.sh prints them over the translation 8a5cd4005a3e47c2… (all of the seat's roots in one cut). By AI agents, Wed Nov 11 2026. No macro, syntax, notation, axiom, sorry.
-/
import Derived.Test.YtgilfjojimgpaaaChecked
import GoSem.Claim
import GoSem.ClaimJoined
import GoSem.ClaimMapViews
import Derived.JoinedTies
import Derived.KernelRfl
namespace Go.Proofs.Ytgilfjojimgpaaa
/- THE CELL 'sum', in the pinned program and in every row, IS THE sha256 OF THE DUMP (.gsa) THAT YtgilfjojimgpaaaProg.lean LOADS. Nothing in Lean hashes anything: it is a label: what it is worth is what the hold of that sum in a sandbox is worth. -/
noncomputable def Try.pinned : Pinned := { name := "ytgilfjojimgpaaa", sum := "8a5cd4005a3e47c20535925bedcee4a7347ac7871c692003e4b2960e5e555c31", checked := Try.checked }
namespace Rows
def none {H : Type} : Left H := { results := [], args := [] }

/-- 'collimatorlaw12.GzheadBuilds': WHATEVER THE INPUT: true; the input reads as it did. -/
def gzheadBuildsSpec : ChangeSpec := { name := "gzheadBuilds", fn := fun _ => fun
  | [d] => { results := [.lit (.bool true)], args := [d] }
  | _ => none }
def gzheadBuildsRow : OpenClaim := { program := "ytgilfjojimgpaaa", sum := "8a5cd4005a3e47c20535925bedcee4a7347ac7871c692003e4b2960e5e555c31", func := "collimator/collimatorlaw12.GzheadBuilds", spec := "gzheadBuilds", inPlace := ["internal/bytealg.IndexByteString"], unfollowed := true, recurses := true, apart := false }
def GzheadBuildsSaid : Prop := gzheadBuildsRow.holds Try.pinned (OpenSpec.ofChange gzheadBuildsSpec)

/-- ITS FALSE NEIGHBOUR: 'it returns false'. Refute it at one input. -/
def gzheadBuildsWrong : ChangeSpec := { name := "gzheadBuilds", fn := fun _ => fun
  | [d] => { results := [.lit (.bool false)], args := [d] }
  | _ => none }
def GzheadBuildsWrongFalsely : Prop := gzheadBuildsRow.holds Try.pinned (OpenSpec.ofChange gzheadBuildsWrong)

/-- 'collimatorlaw12.GzheadParses': WHATEVER THE INPUT: true; the input reads as it did. -/
def gzheadParsesSpec : ChangeSpec := { name := "gzheadParses", fn := fun _ => fun
  | [d1, d2] => { results := [.lit (.bool true)], args := [d1, d2] }
  | _ => none }
def gzheadParsesRow : OpenClaim := { program := "ytgilfjojimgpaaa", sum := "8a5cd4005a3e47c20535925bedcee4a7347ac7871c692003e4b2960e5e555c31", func := "collimator/collimatorlaw12.GzheadParses", spec := "gzheadParses", inPlace := ["internal/bytealg.IndexByteString"], unfollowed := true, recurses := true, apart := false }
def GzheadParsesSaid : Prop := gzheadParsesRow.holds Try.pinned (OpenSpec.ofChange gzheadParsesSpec)

/-- ITS FALSE NEIGHBOUR: 'it returns false'. Refute it at one input. -/
def gzheadParsesWrong : ChangeSpec := { name := "gzheadParses", fn := fun _ => fun
  | [d1, d2] => { results := [.lit (.bool false)], args := [d1, d2] }
  | _ => none }
def GzheadParsesWrongFalsely : Prop := gzheadParsesRow.holds Try.pinned (OpenSpec.ofChange gzheadParsesWrong)

/-- 'collimatorlaw12.GzheadBack': WHATEVER THE INPUT: true; the input reads as it did. -/
def gzheadBackSpec : ChangeSpec := { name := "gzheadBack", fn := fun _ => fun
  | [d] => { results := [.lit (.bool true)], args := [d] }
  | _ => none }
def gzheadBackRow : OpenClaim := { program := "ytgilfjojimgpaaa", sum := "8a5cd4005a3e47c20535925bedcee4a7347ac7871c692003e4b2960e5e555c31", func := "collimator/collimatorlaw12.GzheadBack", spec := "gzheadBack", inPlace := ["internal/bytealg.IndexByteString"], unfollowed := true, recurses := true, apart := false }
def GzheadBackSaid : Prop := gzheadBackRow.holds Try.pinned (OpenSpec.ofChange gzheadBackSpec)

/-- ITS FALSE NEIGHBOUR: 'it returns false'. Refute it at one input. -/
def gzheadBackWrong : ChangeSpec := { name := "gzheadBack", fn := fun _ => fun
  | [d] => { results := [.lit (.bool false)], args := [d] }
  | _ => none }
def GzheadBackWrongFalsely : Prop := gzheadBackRow.holds Try.pinned (OpenSpec.ofChange gzheadBackWrong)

/-- 'collimatorlaw12.GzheadOnly': WHATEVER THE INPUT: true; the input reads as it did. -/
def gzheadOnlySpec : ChangeSpec := { name := "gzheadOnly", fn := fun _ => fun
  | [d] => { results := [.lit (.bool true)], args := [d] }
  | _ => none }
def gzheadOnlyRow : OpenClaim := { program := "ytgilfjojimgpaaa", sum := "8a5cd4005a3e47c20535925bedcee4a7347ac7871c692003e4b2960e5e555c31", func := "collimator/collimatorlaw12.GzheadOnly", spec := "gzheadOnly", inPlace := ["internal/bytealg.IndexByteString"], unfollowed := true, recurses := true, apart := false }
def GzheadOnlySaid : Prop := gzheadOnlyRow.holds Try.pinned (OpenSpec.ofChange gzheadOnlySpec)

/-- ITS FALSE NEIGHBOUR: 'it returns false'. Refute it at one input. -/
def gzheadOnlyWrong : ChangeSpec := { name := "gzheadOnly", fn := fun _ => fun
  | [d] => { results := [.lit (.bool false)], args := [d] }
  | _ => none }
def GzheadOnlyWrongFalsely : Prop := gzheadOnlyRow.holds Try.pinned (OpenSpec.ofChange gzheadOnlyWrong)

/- THE SECOND FORM. 'bulk': how many values and letters a reading holds, each counted each time it is reached (what is shared counts as often as it is met; a slice's spare places count too). A statement '..UptoSaid' is the law's where the arguments, and the package variables that the reading takes, are together of bulk at most 1048576: NARROWER than '..Said'. Prove '..Said' where nothing that the law and all that it calls make is longer than what came in: it says more and counts as full. Else prove '..UptoSaid'. A law counts once. -/
mutual
def uptoBulk {H : Type} : DataW H → Nat
  | .lit (.string bytes) => bytes.length + 1
  | .lit _ => 1
  | .nil => 1
  | .ptr d => uptoBulk d + 1
  | .slice elems spare => uptoBulkAll elems + uptoBulkAll spare + 1
  | .agg parts => uptoBulkAll parts + 1
  | .iface _ d => uptoBulk d + 1
  | .map entries => uptoBulkEntries entries + 1
  | .held _ => 1
def uptoBulkAll {H : Type} : List (DataW H) → Nat
  | [] => 0
  | d :: r => uptoBulk d + uptoBulkAll r
def uptoBulkEntries {H : Type} : List (Lit × DataW H) → Nat
  | [] => 0
  | x :: r => uptoBulkEntry x + uptoBulkEntries r
def uptoBulkEntry {H : Type} : Lit × DataW H → Nat
  | (.string bytes, d) => bytes.length + uptoBulk d + 1
  | (_, d) => uptoBulk d + 1
 end
def uptoSmall : (H : Type) → List (DataW H) → Bool := fun _ ds => decide (uptoBulkAll ds ≤ 1048576)
def OpenSpec.upto (s : _root_.Go.ChangeSpec) : _root_.Go.OpenSpec := { _root_.Go.OpenSpec.ofChange s with cond := some uptoSmall }

/-- 'collimatorlaw12.GzheadBuilds', WHERE WHAT IT READS IS OF BULK AT MOST 1048576: true; the input reads as it did. -/
def gzheadBuildsUptoRow : OpenClaim := { program := "ytgilfjojimgpaaa", sum := "8a5cd4005a3e47c20535925bedcee4a7347ac7871c692003e4b2960e5e555c31", func := "collimator/collimatorlaw12.GzheadBuilds", spec := "gzheadBuilds", inPlace := ["internal/bytealg.IndexByteString"], unfollowed := true, recurses := true, apart := false, narrowed := true }
def GzheadBuildsUptoSaid : Prop := gzheadBuildsUptoRow.holds Try.pinned (OpenSpec.upto gzheadBuildsSpec)

/-- 'collimatorlaw12.GzheadParses', WHERE WHAT IT READS IS OF BULK AT MOST 1048576: true; the input reads as it did. -/
def gzheadParsesUptoRow : OpenClaim := { program := "ytgilfjojimgpaaa", sum := "8a5cd4005a3e47c20535925bedcee4a7347ac7871c692003e4b2960e5e555c31", func := "collimator/collimatorlaw12.GzheadParses", spec := "gzheadParses", inPlace := ["internal/bytealg.IndexByteString"], unfollowed := true, recurses := true, apart := false, narrowed := true }
def GzheadParsesUptoSaid : Prop := gzheadParsesUptoRow.holds Try.pinned (OpenSpec.upto gzheadParsesSpec)

/-- 'collimatorlaw12.GzheadBack', WHERE WHAT IT READS IS OF BULK AT MOST 1048576: true; the input reads as it did. -/
def gzheadBackUptoRow : OpenClaim := { program := "ytgilfjojimgpaaa", sum := "8a5cd4005a3e47c20535925bedcee4a7347ac7871c692003e4b2960e5e555c31", func := "collimator/collimatorlaw12.GzheadBack", spec := "gzheadBack", inPlace := ["internal/bytealg.IndexByteString"], unfollowed := true, recurses := true, apart := false, narrowed := true }
def GzheadBackUptoSaid : Prop := gzheadBackUptoRow.holds Try.pinned (OpenSpec.upto gzheadBackSpec)

/-- 'collimatorlaw12.GzheadOnly', WHERE WHAT IT READS IS OF BULK AT MOST 1048576: true; the input reads as it did. -/
def gzheadOnlyUptoRow : OpenClaim := { program := "ytgilfjojimgpaaa", sum := "8a5cd4005a3e47c20535925bedcee4a7347ac7871c692003e4b2960e5e555c31", func := "collimator/collimatorlaw12.GzheadOnly", spec := "gzheadOnly", inPlace := ["internal/bytealg.IndexByteString"], unfollowed := true, recurses := true, apart := false, narrowed := true }
def GzheadOnlyUptoSaid : Prop := gzheadOnlyUptoRow.holds Try.pinned (OpenSpec.upto gzheadOnlySpec)

end Rows
end Go.Proofs.Ytgilfjojimgpaaa
