/-
  DERIVED. GIVEN WITH THE SEED: THE CARDS: each row of YtfflheebjbdnoarDoorRows.lean that lists a variable, with what it lists TIED to the program's text (the seventh form; the later family's looks); each row that meets fmt, with fmt's text TOLD by the authors' own Lean function (tested against real Go, not proved from fmt's source: count such statements apart). THE CARD IS WHAT COUNTS. Prove the row's statement (the work); the ties are given (YtfflheebjbdnoarDoorTie.lean); close each card by the builder's one call (the guide's Derived/Test/ToyasCard.lean, 'card_holds'). Laid BY PROGRAM, IN A SANDBOX (cutbox-door.mjs). By AI agents, Wed Nov 11 2026. No macro, syntax, notation, axiom, sorry.
-/
import Derived.Test.YtfflheebjbdnoarDoorRows
import GoSem.ClaimSeven
namespace Go.Proofs.YtfflheebjbdnoarDoor
namespace Rows

/-- THE TIED CARD OF 'laws.FnExactCubicGrow'. -/
def fnExactCubicGrowCard : Claim7 := { stood := { row := fnExactCubicGrowRow, standIns := [], harness := (true, "c521bf5bffd6a126c504a6b95d31dc95a46d9c9ecfdd4feb68e2b4cd56a5ea37"), looks := true }, kinds := [], alts := [], laidByText := true, laidKinds := [.sentinel, .sentinel], laidTests := true, laidLooks := .later }
def FnExactCubicGrowCardSaid : Prop := Claim7.holds Tryd.pinned (.plain (OpenSpec.ofChange fnExactCubicGrowSpec)) fnExactCubicGrowCard

/-- THE TIED CARD OF 'laws.FnExactCubicLoss'. -/
def fnExactCubicLossCard : Claim7 := { stood := { row := fnExactCubicLossRow, standIns := [], harness := (true, "c521bf5bffd6a126c504a6b95d31dc95a46d9c9ecfdd4feb68e2b4cd56a5ea37"), looks := true }, kinds := [], alts := [], laidByText := true, laidKinds := [.sentinel, .sentinel], laidTests := true, laidLooks := .later }
def FnExactCubicLossCardSaid : Prop := Claim7.holds Tryd.pinned (.plain (OpenSpec.ofChange fnExactCubicLossSpec)) fnExactCubicLossCard

/-- THE SECOND FORM's CARD OF 'laws.FnExactCubicGrow'. -/
def fnExactCubicGrowUptoCard : Claim7 := { stood := { row := fnExactCubicGrowUptoRow, standIns := [], harness := (true, "c521bf5bffd6a126c504a6b95d31dc95a46d9c9ecfdd4feb68e2b4cd56a5ea37"), looks := true }, kinds := [], alts := [], laidByText := true, laidKinds := [.sentinel, .sentinel], laidTests := true, laidLooks := .later }
def FnExactCubicGrowUptoCardSaid : Prop := Claim7.holds Tryd.pinned (.plain (OpenSpec.upto fnExactCubicGrowSpec)) fnExactCubicGrowUptoCard

/-- THE SECOND FORM's CARD OF 'laws.FnExactCubicLoss'. -/
def fnExactCubicLossUptoCard : Claim7 := { stood := { row := fnExactCubicLossUptoRow, standIns := [], harness := (true, "c521bf5bffd6a126c504a6b95d31dc95a46d9c9ecfdd4feb68e2b4cd56a5ea37"), looks := true }, kinds := [], alts := [], laidByText := true, laidKinds := [.sentinel, .sentinel], laidTests := true, laidLooks := .later }
def FnExactCubicLossUptoCardSaid : Prop := Claim7.holds Tryd.pinned (.plain (OpenSpec.upto fnExactCubicLossSpec)) fnExactCubicLossUptoCard
end Rows
end Go.Proofs.YtfflheebjbdnoarDoor
