/-
  DERIVED. GIVEN WITH THE SEED: THE CARDS: each row of YtnkninjdpgpkmaaDoorRows.lean that lists a variable, with what it lists TIED to the program's text (the seventh form; the later family's looks); each row that meets fmt, with fmt's text TOLD by the authors' own Lean function (tested against real Go, not proved from fmt's source: count such statements apart). THE CARD IS WHAT COUNTS. Prove the row's statement (the work); the ties are given (YtnkninjdpgpkmaaDoorTie.lean); close each card by the builder's one call (the guide's Derived/Test/ToyasCard.lean, 'card_holds'). Laid BY PROGRAM, IN A SANDBOX (cutbox-door.mjs). By AI agents, Wed Nov 11 2026. No macro, syntax, notation, axiom, sorry.
-/
import Derived.Test.YtnkninjdpgpkmaaDoorRows
import GoSem.ClaimSeven
namespace Go.Proofs.YtnkninjdpgpkmaaDoor
namespace Rows

/-- THE TIED CARD OF 'collimatorlaw11.PackOps'. -/
def packOpsCard : Claim7 := { stood := { row := packOpsRow, standIns := [], harness := (true, "f9a04b6b7fcaf795b29edbe67681be11bd8dd6f12656540bd705af3cb5dc1d18"), looks := false }, kinds := [], alts := [], laidByText := true, laidKinds := [.data], laidTests := true, laidLooks := .later }
def PackOpsCardSaid : Prop := Claim7.holds Tryd.pinned (.plain (OpenSpec.ofChange packOpsSpec)) packOpsCard

/-- THE TIED CARD OF 'collimatorlaw11.PackCopies'. -/
def packCopiesCard : Claim7 := { stood := { row := packCopiesRow, standIns := [], harness := (true, "f9a04b6b7fcaf795b29edbe67681be11bd8dd6f12656540bd705af3cb5dc1d18"), looks := false }, kinds := [], alts := [], laidByText := true, laidKinds := [.data], laidTests := true, laidLooks := .later }
def PackCopiesCardSaid : Prop := Claim7.holds Tryd.pinned (.plain (OpenSpec.ofChange packCopiesSpec)) packCopiesCard

/-- THE SECOND FORM's CARD OF 'collimatorlaw11.PackOps'. -/
def packOpsUptoCard : Claim7 := { stood := { row := packOpsUptoRow, standIns := [], harness := (true, "f9a04b6b7fcaf795b29edbe67681be11bd8dd6f12656540bd705af3cb5dc1d18"), looks := false }, kinds := [], alts := [], laidByText := true, laidKinds := [.data], laidTests := true, laidLooks := .later }
def PackOpsUptoCardSaid : Prop := Claim7.holds Tryd.pinned (.plain (OpenSpec.upto packOpsSpec)) packOpsUptoCard

/-- THE SECOND FORM's CARD OF 'collimatorlaw11.PackCopies'. -/
def packCopiesUptoCard : Claim7 := { stood := { row := packCopiesUptoRow, standIns := [], harness := (true, "f9a04b6b7fcaf795b29edbe67681be11bd8dd6f12656540bd705af3cb5dc1d18"), looks := false }, kinds := [], alts := [], laidByText := true, laidKinds := [.data], laidTests := true, laidLooks := .later }
def PackCopiesUptoCardSaid : Prop := Claim7.holds Tryd.pinned (.plain (OpenSpec.upto packCopiesSpec)) packCopiesUptoCard
end Rows
end Go.Proofs.YtnkninjdpgpkmaaDoor
