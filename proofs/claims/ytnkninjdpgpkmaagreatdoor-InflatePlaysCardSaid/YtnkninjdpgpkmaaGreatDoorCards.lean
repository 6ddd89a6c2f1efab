/-
  DERIVED. GIVEN WITH THE SEED: THE CARDS: each row of YtnkninjdpgpkmaaGreatDoorRows.lean that lists a variable, with what it lists TIED to the program's text (the seventh form; the later family's looks); each row that meets fmt, with fmt's text TOLD by the authors' own Lean function (tested against real Go, not proved from fmt's source: count such statements apart). THE CARD IS WHAT COUNTS. Prove the row's statement (the work); the ties are given (YtnkninjdpgpkmaaGreatDoorTie.lean); close each card by the builder's one call (the guide's Derived/Test/ToyasCard.lean, 'card_holds'). Laid BY PROGRAM, IN A SANDBOX (cutbox-door.mjs). By AI agents, Wed Nov 11 2026. No macro, syntax, notation, axiom, sorry.
-/
import Derived.Test.YtnkninjdpgpkmaaGreatDoorRows
import GoSem.ClaimSeven
namespace Go.Proofs.YtnkninjdpgpkmaaGreatDoor
namespace Rows

/-- THE TIED CARD OF 'collimatorlaw10.InflatePlays'. -/
def inflatePlaysCard : Claim7 := { stood := { row := inflatePlaysRow, standIns := [], harness := (true, "c860d2ffde7e739f96ce7723b38f0b3b30e2323537db761230836125cc524150"), looks := false }, kinds := [], alts := [], laidByText := true, laidKinds := [.data], laidTests := true, laidLooks := .later }
def InflatePlaysCardSaid : Prop := Claim7.holds Tryz.pinned (.plain (OpenSpec.ofChange inflatePlaysSpec)) inflatePlaysCard

/-- THE TIED CARD OF 'collimatorlaw11.PackTexts'. -/
def packTextsCard : Claim7 := { stood := { row := packTextsRow, standIns := [], harness := (true, "c860d2ffde7e739f96ce7723b38f0b3b30e2323537db761230836125cc524150"), looks := false }, kinds := [], alts := [], laidByText := true, laidKinds := [.data], laidTests := true, laidLooks := .later }
def PackTextsCardSaid : Prop := Claim7.holds Tryz.pinned (.plain (OpenSpec.ofChange packTextsSpec)) packTextsCard

/-- THE TIED CARD OF 'collimatorlaw11.PackBack'. -/
def packBackCard : Claim7 := { stood := { row := packBackRow, standIns := [], harness := (true, "c860d2ffde7e739f96ce7723b38f0b3b30e2323537db761230836125cc524150"), looks := false }, kinds := [], alts := [], laidByText := true, laidKinds := [.data], laidTests := true, laidLooks := .later }
def PackBackCardSaid : Prop := Claim7.holds Tryz.pinned (.plain (OpenSpec.ofChange packBackSpec)) packBackCard

/-- THE TIED CARD OF 'collimatorlaw11.PackSplits'. -/
def packSplitsCard : Claim7 := { stood := { row := packSplitsRow, standIns := [], harness := (true, "c860d2ffde7e739f96ce7723b38f0b3b30e2323537db761230836125cc524150"), looks := false }, kinds := [], alts := [], laidByText := true, laidKinds := [.data], laidTests := true, laidLooks := .later }
def PackSplitsCardSaid : Prop := Claim7.holds Tryz.pinned (.plain (OpenSpec.ofChange packSplitsSpec)) packSplitsCard

/-- THE SECOND FORM's CARD OF 'collimatorlaw10.InflatePlays'. -/
def inflatePlaysUptoCard : Claim7 := { stood := { row := inflatePlaysUptoRow, standIns := [], harness := (true, "c860d2ffde7e739f96ce7723b38f0b3b30e2323537db761230836125cc524150"), looks := false }, kinds := [], alts := [], laidByText := true, laidKinds := [.data], laidTests := true, laidLooks := .later }
def InflatePlaysUptoCardSaid : Prop := Claim7.holds Tryz.pinned (.plain (OpenSpec.upto inflatePlaysSpec)) inflatePlaysUptoCard

/-- THE SECOND FORM's CARD OF 'collimatorlaw11.PackTexts'. -/
def packTextsUptoCard : Claim7 := { stood := { row := packTextsUptoRow, standIns := [], harness := (true, "c860d2ffde7e739f96ce7723b38f0b3b30e2323537db761230836125cc524150"), looks := false }, kinds := [], alts := [], laidByText := true, laidKinds := [.data], laidTests := true, laidLooks := .later }
def PackTextsUptoCardSaid : Prop := Claim7.holds Tryz.pinned (.plain (OpenSpec.upto packTextsSpec)) packTextsUptoCard

/-- THE SECOND FORM's CARD OF 'collimatorlaw11.PackBack'. -/
def packBackUptoCard : Claim7 := { stood := { row := packBackUptoRow, standIns := [], harness := (true, "c860d2ffde7e739f96ce7723b38f0b3b30e2323537db761230836125cc524150"), looks := false }, kinds := [], alts := [], laidByText := true, laidKinds := [.data], laidTests := true, laidLooks := .later }
def PackBackUptoCardSaid : Prop := Claim7.holds Tryz.pinned (.plain (OpenSpec.upto packBackSpec)) packBackUptoCard

/-- THE SECOND FORM's CARD OF 'collimatorlaw11.PackSplits'. -/
def packSplitsUptoCard : Claim7 := { stood := { row := packSplitsUptoRow, standIns := [], harness := (true, "c860d2ffde7e739f96ce7723b38f0b3b30e2323537db761230836125cc524150"), looks := false }, kinds := [], alts := [], laidByText := true, laidKinds := [.data], laidTests := true, laidLooks := .later }
def PackSplitsUptoCardSaid : Prop := Claim7.holds Tryz.pinned (.plain (OpenSpec.upto packSplitsSpec)) packSplitsUptoCard
end Rows
end Go.Proofs.YtnkninjdpgpkmaaGreatDoor
