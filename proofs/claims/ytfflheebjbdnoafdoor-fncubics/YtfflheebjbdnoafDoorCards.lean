/-
  DERIVED. GIVEN WITH THE SEED: THE CARDS: each row of YtfflheebjbdnoafDoorRows.lean that lists a variable, with what it lists TIED to the program's text (the seventh form; the later family's looks); each row that meets fmt, with fmt's text TOLD by the authors' own Lean function (tested against real Go, not proved from fmt's source: count such statements apart). THE CARD IS WHAT COUNTS. Prove the row's statement (the work); the ties are given (YtfflheebjbdnoafDoorTie.lean); close each card by the builder's one call (the guide's Derived/Test/ToyasCard.lean, 'card_holds'). Laid BY PROGRAM, IN A SANDBOX (cutbox-door.mjs). By AI agents, Wed Nov 11 2026. No macro, syntax, notation, axiom, sorry.
-/
import Derived.Test.YtfflheebjbdnoafDoorRows
import GoSem.ClaimSeven
namespace Go.Proofs.YtfflheebjbdnoafDoor
namespace Rows

/-- THE TIED CARD OF 'laws.FnCubics'. -/
def fnCubicsCard : Claim7 := { stood := { row := fnCubicsRow, standIns := [], harness := (true, "fa0547f3c2980b8c317814d86508bf5fd37e349fed48d66a7bbfb83403be2d92"), looks := true }, kinds := [], alts := [], laidByText := true, laidKinds := [.sentinel, .sentinel], laidTests := true, laidLooks := .later }
def FnCubicsCardSaid : Prop := Claim7.holds Tryd.pinned (.plain (OpenSpec.ofChange fnCubicsSpec)) fnCubicsCard

/-- THE SECOND FORM's CARD OF 'laws.FnCubics'. -/
def fnCubicsUptoCard : Claim7 := { stood := { row := fnCubicsUptoRow, standIns := [], harness := (true, "fa0547f3c2980b8c317814d86508bf5fd37e349fed48d66a7bbfb83403be2d92"), looks := true }, kinds := [], alts := [], laidByText := true, laidKinds := [.sentinel, .sentinel], laidTests := true, laidLooks := .later }
def FnCubicsUptoCardSaid : Prop := Claim7.holds Tryd.pinned (.plain (OpenSpec.upto fnCubicsSpec)) fnCubicsUptoCard
end Rows
end Go.Proofs.YtfflheebjbdnoafDoor
