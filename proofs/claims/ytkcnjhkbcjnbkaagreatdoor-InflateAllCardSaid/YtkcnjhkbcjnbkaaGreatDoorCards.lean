/-
  DERIVED. GIVEN WITH THE SEED: THE CARDS: each row of YtkcnjhkbcjnbkaaGreatDoorRows.lean that lists a variable, with what it lists TIED to the program's text (the seventh form; the later family's looks); each row that meets fmt, with fmt's text TOLD by the authors' own Lean function (tested against real Go, not proved from fmt's source: count such statements apart). THE CARD IS WHAT COUNTS. Prove the row's statement (the work); the ties are given (YtkcnjhkbcjnbkaaGreatDoorTie.lean); close each card by the builder's one call (the guide's Derived/Test/ToyasCard.lean, 'card_holds'). Laid BY PROGRAM, IN A SANDBOX (cutbox-door.mjs). By AI agents, Wed Nov 11 2026. No macro, syntax, notation, axiom, sorry.
-/
import Derived.Test.YtkcnjhkbcjnbkaaGreatDoorRows
import GoSem.ClaimSeven
namespace Go.Proofs.YtkcnjhkbcjnbkaaGreatDoor
namespace Rows

/-- THE TIED CARD OF 'collimatorlaw10.InflateAll'. -/
def inflateAllCard : Claim7 := { stood := { row := inflateAllRow, standIns := [], harness := (true, "6179d0a015ea9ae574576626b0423cc538aefa233d80e88b04d099f0aa1c2601"), looks := false }, kinds := [], alts := [], laidByText := true, laidKinds := [.data], laidTests := true, laidLooks := .later }
def InflateAllCardSaid : Prop := Claim7.holds Tryz.pinned (.plain (OpenSpec.ofChange inflateAllSpec)) inflateAllCard

/-- THE TIED CARD OF 'collimatorlaw10.InflatePlays'. -/
def inflatePlaysCard : Claim7 := { stood := { row := inflatePlaysRow, standIns := [], harness := (true, "6179d0a015ea9ae574576626b0423cc538aefa233d80e88b04d099f0aa1c2601"), looks := false }, kinds := [], alts := [], laidByText := true, laidKinds := [.data], laidTests := true, laidLooks := .later }
def InflatePlaysCardSaid : Prop := Claim7.holds Tryz.pinned (.plain (OpenSpec.ofChange inflatePlaysSpec)) inflatePlaysCard

/-- THE SECOND FORM's CARD OF 'collimatorlaw10.InflateAll'. -/
def inflateAllUptoCard : Claim7 := { stood := { row := inflateAllUptoRow, standIns := [], harness := (true, "6179d0a015ea9ae574576626b0423cc538aefa233d80e88b04d099f0aa1c2601"), looks := false }, kinds := [], alts := [], laidByText := true, laidKinds := [.data], laidTests := true, laidLooks := .later }
def InflateAllUptoCardSaid : Prop := Claim7.holds Tryz.pinned (.plain (OpenSpec.upto inflateAllSpec)) inflateAllUptoCard

/-- THE SECOND FORM's CARD OF 'collimatorlaw10.InflatePlays'. -/
def inflatePlaysUptoCard : Claim7 := { stood := { row := inflatePlaysUptoRow, standIns := [], harness := (true, "6179d0a015ea9ae574576626b0423cc538aefa233d80e88b04d099f0aa1c2601"), looks := false }, kinds := [], alts := [], laidByText := true, laidKinds := [.data], laidTests := true, laidLooks := .later }
def InflatePlaysUptoCardSaid : Prop := Claim7.holds Tryz.pinned (.plain (OpenSpec.upto inflatePlaysSpec)) inflatePlaysUptoCard
end Rows
end Go.Proofs.YtkcnjhkbcjnbkaaGreatDoor
