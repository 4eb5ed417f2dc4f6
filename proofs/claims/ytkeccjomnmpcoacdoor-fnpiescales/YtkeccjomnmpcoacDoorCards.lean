/-
  DERIVED. GIVEN WITH THE SEED: THE CARDS: each row of YtkeccjomnmpcoacDoorRows.lean that lists a variable, with what it lists TIED to the program's text (the seventh form; the later family's looks); each row that meets fmt, with fmt's text TOLD by the authors' own Lean function (tested against real Go, not proved from fmt's source: count such statements apart). THE CARD IS WHAT COUNTS. Prove the row's statement (the work); the ties are given (YtkeccjomnmpcoacDoorTie.lean); close each card by the builder's one call (the guide's Derived/Test/ToyasCard.lean, 'card_holds'). Laid BY PROGRAM, IN A SANDBOX (cutbox-door.mjs). By AI agents, Wed Nov 11 2026. No macro, syntax, notation, axiom, sorry.
-/
import Derived.Test.YtkeccjomnmpcoacDoorRows
import GoSem.ClaimSeven
namespace Go.Proofs.YtkeccjomnmpcoacDoor
namespace Rows

/-- THE TIED CARD OF 'laws.FnPies'. -/
def fnPiesCard : Claim7 := { stood := { row := fnPiesRow, standIns := [], harness := (true, "513c2a30eb243ce9925b108123648f194eb4643319d01ab04c378a87cd898286"), looks := false }, kinds := [], alts := [], laidByText := true, laidKinds := [.data], laidTests := true, laidLooks := .later }
def FnPiesCardSaid : Prop := Claim7.holds Tryd.pinned (.plain (OpenSpec.ofChange fnPiesSpec)) fnPiesCard

/-- THE TIED CARD OF 'laws.FnPieScales'. -/
def fnPieScalesCard : Claim7 := { stood := { row := fnPieScalesRow, standIns := [], harness := (true, "513c2a30eb243ce9925b108123648f194eb4643319d01ab04c378a87cd898286"), looks := false }, kinds := [], alts := [], laidByText := true, laidKinds := [.data], laidTests := true, laidLooks := .later }
def FnPieScalesCardSaid : Prop := Claim7.holds Tryd.pinned (.plain (OpenSpec.ofChange fnPieScalesSpec)) fnPieScalesCard

/-- THE SECOND FORM's CARD OF 'laws.FnPies'. -/
def fnPiesUptoCard : Claim7 := { stood := { row := fnPiesUptoRow, standIns := [], harness := (true, "513c2a30eb243ce9925b108123648f194eb4643319d01ab04c378a87cd898286"), looks := false }, kinds := [], alts := [], laidByText := true, laidKinds := [.data], laidTests := true, laidLooks := .later }
def FnPiesUptoCardSaid : Prop := Claim7.holds Tryd.pinned (.plain (OpenSpec.upto fnPiesSpec)) fnPiesUptoCard

/-- THE SECOND FORM's CARD OF 'laws.FnPieScales'. -/
def fnPieScalesUptoCard : Claim7 := { stood := { row := fnPieScalesUptoRow, standIns := [], harness := (true, "513c2a30eb243ce9925b108123648f194eb4643319d01ab04c378a87cd898286"), looks := false }, kinds := [], alts := [], laidByText := true, laidKinds := [.data], laidTests := true, laidLooks := .later }
def FnPieScalesUptoCardSaid : Prop := Claim7.holds Tryd.pinned (.plain (OpenSpec.upto fnPieScalesSpec)) fnPieScalesUptoCard
end Rows
end Go.Proofs.YtkeccjomnmpcoacDoor
