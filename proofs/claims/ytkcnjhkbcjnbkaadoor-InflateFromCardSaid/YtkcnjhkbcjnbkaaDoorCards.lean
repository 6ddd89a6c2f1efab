/-
  DERIVED. GIVEN WITH THE SEED: THE CARDS: each row of YtkcnjhkbcjnbkaaDoorRows.lean that lists a variable, with what it lists TIED to the program's text (the seventh form; the later family's looks); each row that meets fmt, with fmt's text TOLD by the authors' own Lean function (tested against real Go, not proved from fmt's source: count such statements apart). THE CARD IS WHAT COUNTS. Prove the row's statement (the work); the ties are given (YtkcnjhkbcjnbkaaDoorTie.lean); close each card by the builder's one call (the guide's Derived/Test/ToyasCard.lean, 'card_holds'). Laid BY PROGRAM, IN A SANDBOX (cutbox-door.mjs). By AI agents, Wed Nov 11 2026. No macro, syntax, notation, axiom, sorry.
-/
import Derived.Test.YtkcnjhkbcjnbkaaDoorRows
import GoSem.ClaimSeven
namespace Go.Proofs.YtkcnjhkbcjnbkaaDoor
namespace Rows

/-- THE TIED CARD OF 'collimatorlaw10.InflateSteps'. -/
def inflateStepsCard : Claim7 := { stood := { row := inflateStepsRow, standIns := [], harness := (true, "9610277255737621667275f81cea3c6c08c3b062c6b36e07ec551c224bfcdccd"), looks := false }, kinds := [], alts := [], laidByText := true, laidKinds := [.data], laidTests := true, laidLooks := .later }
def InflateStepsCardSaid : Prop := Claim7.holds Tryd.pinned (.plain (OpenSpec.ofChange inflateStepsSpec)) inflateStepsCard

/-- THE TIED CARD OF 'collimatorlaw10.InflateFrom'. -/
def inflateFromCard : Claim7 := { stood := { row := inflateFromRow, standIns := [], harness := (true, "9610277255737621667275f81cea3c6c08c3b062c6b36e07ec551c224bfcdccd"), looks := false }, kinds := [], alts := [], laidByText := true, laidKinds := [.data], laidTests := true, laidLooks := .later }
def InflateFromCardSaid : Prop := Claim7.holds Tryd.pinned (.plain (OpenSpec.ofChange inflateFromSpec)) inflateFromCard

/-- THE TIED CARD OF 'collimatorlaw10.InflatePreset'. -/
def inflatePresetCard : Claim7 := { stood := { row := inflatePresetRow, standIns := [], harness := (true, "9610277255737621667275f81cea3c6c08c3b062c6b36e07ec551c224bfcdccd"), looks := false }, kinds := [], alts := [], laidByText := true, laidKinds := [.data], laidTests := true, laidLooks := .later }
def InflatePresetCardSaid : Prop := Claim7.holds Tryd.pinned (.plain (OpenSpec.ofChange inflatePresetSpec)) inflatePresetCard

/-- THE TIED CARD OF 'collimatorlaw10.InflateNil'. -/
def inflateNilCard : Claim7 := { stood := { row := inflateNilRow, standIns := [], harness := (true, "9610277255737621667275f81cea3c6c08c3b062c6b36e07ec551c224bfcdccd"), looks := false }, kinds := [], alts := [], laidByText := true, laidKinds := [.data], laidTests := true, laidLooks := .later }
def InflateNilCardSaid : Prop := Claim7.holds Tryd.pinned (.plain (OpenSpec.ofChange inflateNilSpec)) inflateNilCard

/-- THE SECOND FORM's CARD OF 'collimatorlaw10.InflateSteps'. -/
def inflateStepsUptoCard : Claim7 := { stood := { row := inflateStepsUptoRow, standIns := [], harness := (true, "9610277255737621667275f81cea3c6c08c3b062c6b36e07ec551c224bfcdccd"), looks := false }, kinds := [], alts := [], laidByText := true, laidKinds := [.data], laidTests := true, laidLooks := .later }
def InflateStepsUptoCardSaid : Prop := Claim7.holds Tryd.pinned (.plain (OpenSpec.upto inflateStepsSpec)) inflateStepsUptoCard

/-- THE SECOND FORM's CARD OF 'collimatorlaw10.InflateFrom'. -/
def inflateFromUptoCard : Claim7 := { stood := { row := inflateFromUptoRow, standIns := [], harness := (true, "9610277255737621667275f81cea3c6c08c3b062c6b36e07ec551c224bfcdccd"), looks := false }, kinds := [], alts := [], laidByText := true, laidKinds := [.data], laidTests := true, laidLooks := .later }
def InflateFromUptoCardSaid : Prop := Claim7.holds Tryd.pinned (.plain (OpenSpec.upto inflateFromSpec)) inflateFromUptoCard

/-- THE SECOND FORM's CARD OF 'collimatorlaw10.InflatePreset'. -/
def inflatePresetUptoCard : Claim7 := { stood := { row := inflatePresetUptoRow, standIns := [], harness := (true, "9610277255737621667275f81cea3c6c08c3b062c6b36e07ec551c224bfcdccd"), looks := false }, kinds := [], alts := [], laidByText := true, laidKinds := [.data], laidTests := true, laidLooks := .later }
def InflatePresetUptoCardSaid : Prop := Claim7.holds Tryd.pinned (.plain (OpenSpec.upto inflatePresetSpec)) inflatePresetUptoCard

/-- THE SECOND FORM's CARD OF 'collimatorlaw10.InflateNil'. -/
def inflateNilUptoCard : Claim7 := { stood := { row := inflateNilUptoRow, standIns := [], harness := (true, "9610277255737621667275f81cea3c6c08c3b062c6b36e07ec551c224bfcdccd"), looks := false }, kinds := [], alts := [], laidByText := true, laidKinds := [.data], laidTests := true, laidLooks := .later }
def InflateNilUptoCardSaid : Prop := Claim7.holds Tryd.pinned (.plain (OpenSpec.upto inflateNilSpec)) inflateNilUptoCard
end Rows
end Go.Proofs.YtkcnjhkbcjnbkaaDoor
