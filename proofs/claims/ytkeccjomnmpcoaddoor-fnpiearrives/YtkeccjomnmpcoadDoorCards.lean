/-
  DERIVED. GIVEN WITH THE SEED: THE CARDS: each row of YtkeccjomnmpcoadDoorRows.lean that lists a variable, with what it lists TIED to the program's text (the seventh form; the later family's looks); each row that meets fmt, with fmt's text TOLD by the authors' own Lean function (tested against real Go, not proved from fmt's source: count such statements apart). THE CARD IS WHAT COUNTS. Prove the row's statement (the work); the ties are given (YtkeccjomnmpcoadDoorTie.lean); close each card by the builder's one call (the guide's Derived/Test/ToyasCard.lean, 'card_holds'). Laid BY PROGRAM, IN A SANDBOX (cutbox-door.mjs). By AI agents, Wed Nov 11 2026. No macro, syntax, notation, axiom, sorry.
-/
import Derived.Test.YtkeccjomnmpcoadDoorRows
import GoSem.ClaimSeven
namespace Go.Proofs.YtkeccjomnmpcoadDoor
namespace Rows

/-- THE TIED CARD OF 'laws.FnPieArrives'. -/
def fnPieArrivesCard : Claim7 := { stood := { row := fnPieArrivesRow, standIns := [], harness := (true, "47473f57c064deed2ef72e5198e75f13e1a15d357d4026d0202ba8bb381a5d75"), looks := false }, kinds := [], alts := [], laidByText := true, laidKinds := [.data], laidTests := true, laidLooks := .later }
def FnPieArrivesCardSaid : Prop := Claim7.holds Tryd.pinned (.plain (OpenSpec.ofChange fnPieArrivesSpec)) fnPieArrivesCard

/-- THE SECOND FORM's CARD OF 'laws.FnPieArrives'. -/
def fnPieArrivesUptoCard : Claim7 := { stood := { row := fnPieArrivesUptoRow, standIns := [], harness := (true, "47473f57c064deed2ef72e5198e75f13e1a15d357d4026d0202ba8bb381a5d75"), looks := false }, kinds := [], alts := [], laidByText := true, laidKinds := [.data], laidTests := true, laidLooks := .later }
def FnPieArrivesUptoCardSaid : Prop := Claim7.holds Tryd.pinned (.plain (OpenSpec.upto fnPieArrivesSpec)) fnPieArrivesUptoCard
end Rows
end Go.Proofs.YtkeccjomnmpcoadDoor
