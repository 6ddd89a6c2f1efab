/-
  DERIVED. GIVEN WITH THE SEED: THE CARDS: each row of YtgbdecnaamlekaaDoorRows.lean that lists a variable, with what it lists TIED to the program's text (the seventh form; the later family's looks); each row that meets fmt, with fmt's text TOLD by the authors' own Lean function (tested against real Go, not proved from fmt's source: count such statements apart). THE CARD IS WHAT COUNTS. Prove the row's statement (the work); the ties are given (YtgbdecnaamlekaaDoorTie.lean); close each card by the builder's one call (the guide's Derived/Test/ToyasCard.lean, 'card_holds'). Laid BY PROGRAM, IN A SANDBOX (cutbox-door.mjs). By AI agents, Wed Nov 11 2026. No macro, syntax, notation, axiom, sorry.
-/
import Derived.Test.YtgbdecnaamlekaaDoorRows
import GoSem.ClaimSeven
namespace Go.Proofs.YtgbdecnaamlekaaDoor
namespace Rows

/-- THE TIED CARD OF 'collimatorlaw09.BlockReads'. -/
def blockReadsCard : Claim7 := { stood := { row := blockReadsRow, standIns := [], harness := (true, "b7374f8ef752a5cfebf614c4d641a85b2c69da0fe458e402f6fe037fa74064e2"), looks := false }, kinds := [], alts := [], laidByText := true, laidKinds := [.data], laidTests := true, laidLooks := .later }
def BlockReadsCardSaid : Prop := Claim7.holds Tryd.pinned (.plain (OpenSpec.ofChange blockReadsSpec)) blockReadsCard

/-- THE TIED CARD OF 'collimatorlaw09.BlockWrites'. -/
def blockWritesCard : Claim7 := { stood := { row := blockWritesRow, standIns := [], harness := (true, "b7374f8ef752a5cfebf614c4d641a85b2c69da0fe458e402f6fe037fa74064e2"), looks := false }, kinds := [], alts := [], laidByText := true, laidKinds := [.data], laidTests := true, laidLooks := .later }
def BlockWritesCardSaid : Prop := Claim7.holds Tryd.pinned (.plain (OpenSpec.ofChange blockWritesSpec)) blockWritesCard

/-- THE TIED CARD OF 'collimatorlaw09.BlockBack'. -/
def blockBackCard : Claim7 := { stood := { row := blockBackRow, standIns := [], harness := (true, "b7374f8ef752a5cfebf614c4d641a85b2c69da0fe458e402f6fe037fa74064e2"), looks := false }, kinds := [], alts := [], laidByText := true, laidKinds := [.data], laidTests := true, laidLooks := .later }
def BlockBackCardSaid : Prop := Claim7.holds Tryd.pinned (.plain (OpenSpec.ofChange blockBackSpec)) blockBackCard

/-- THE TIED CARD OF 'collimatorlaw09.BlockStands'. -/
def blockStandsCard : Claim7 := { stood := { row := blockStandsRow, standIns := [], harness := (true, "b7374f8ef752a5cfebf614c4d641a85b2c69da0fe458e402f6fe037fa74064e2"), looks := false }, kinds := [], alts := [], laidByText := true, laidKinds := [.data], laidTests := true, laidLooks := .later }
def BlockStandsCardSaid : Prop := Claim7.holds Tryd.pinned (.plain (OpenSpec.ofChange blockStandsSpec)) blockStandsCard

/-- THE TIED CARD OF 'collimatorlaw09.BlockNil'. -/
def blockNilCard : Claim7 := { stood := { row := blockNilRow, standIns := [], harness := (true, "b7374f8ef752a5cfebf614c4d641a85b2c69da0fe458e402f6fe037fa74064e2"), looks := false }, kinds := [], alts := [], laidByText := true, laidKinds := [.data], laidTests := true, laidLooks := .later }
def BlockNilCardSaid : Prop := Claim7.holds Tryd.pinned (.plain (OpenSpec.ofChange blockNilSpec)) blockNilCard

/-- THE SECOND FORM's CARD OF 'collimatorlaw09.BlockReads'. -/
def blockReadsUptoCard : Claim7 := { stood := { row := blockReadsUptoRow, standIns := [], harness := (true, "b7374f8ef752a5cfebf614c4d641a85b2c69da0fe458e402f6fe037fa74064e2"), looks := false }, kinds := [], alts := [], laidByText := true, laidKinds := [.data], laidTests := true, laidLooks := .later }
def BlockReadsUptoCardSaid : Prop := Claim7.holds Tryd.pinned (.plain (OpenSpec.upto blockReadsSpec)) blockReadsUptoCard

/-- THE SECOND FORM's CARD OF 'collimatorlaw09.BlockWrites'. -/
def blockWritesUptoCard : Claim7 := { stood := { row := blockWritesUptoRow, standIns := [], harness := (true, "b7374f8ef752a5cfebf614c4d641a85b2c69da0fe458e402f6fe037fa74064e2"), looks := false }, kinds := [], alts := [], laidByText := true, laidKinds := [.data], laidTests := true, laidLooks := .later }
def BlockWritesUptoCardSaid : Prop := Claim7.holds Tryd.pinned (.plain (OpenSpec.upto blockWritesSpec)) blockWritesUptoCard

/-- THE SECOND FORM's CARD OF 'collimatorlaw09.BlockBack'. -/
def blockBackUptoCard : Claim7 := { stood := { row := blockBackUptoRow, standIns := [], harness := (true, "b7374f8ef752a5cfebf614c4d641a85b2c69da0fe458e402f6fe037fa74064e2"), looks := false }, kinds := [], alts := [], laidByText := true, laidKinds := [.data], laidTests := true, laidLooks := .later }
def BlockBackUptoCardSaid : Prop := Claim7.holds Tryd.pinned (.plain (OpenSpec.upto blockBackSpec)) blockBackUptoCard

/-- THE SECOND FORM's CARD OF 'collimatorlaw09.BlockStands'. -/
def blockStandsUptoCard : Claim7 := { stood := { row := blockStandsUptoRow, standIns := [], harness := (true, "b7374f8ef752a5cfebf614c4d641a85b2c69da0fe458e402f6fe037fa74064e2"), looks := false }, kinds := [], alts := [], laidByText := true, laidKinds := [.data], laidTests := true, laidLooks := .later }
def BlockStandsUptoCardSaid : Prop := Claim7.holds Tryd.pinned (.plain (OpenSpec.upto blockStandsSpec)) blockStandsUptoCard

/-- THE SECOND FORM's CARD OF 'collimatorlaw09.BlockNil'. -/
def blockNilUptoCard : Claim7 := { stood := { row := blockNilUptoRow, standIns := [], harness := (true, "b7374f8ef752a5cfebf614c4d641a85b2c69da0fe458e402f6fe037fa74064e2"), looks := false }, kinds := [], alts := [], laidByText := true, laidKinds := [.data], laidTests := true, laidLooks := .later }
def BlockNilUptoCardSaid : Prop := Claim7.holds Tryd.pinned (.plain (OpenSpec.upto blockNilSpec)) blockNilUptoCard
end Rows
end Go.Proofs.YtgbdecnaamlekaaDoor
