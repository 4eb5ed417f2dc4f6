/-
  DERIVED. GIVEN WITH THE SEED: THE CARDS: each row of YtkeccjomnmpcoanDoorRows.lean that lists a variable, with what it lists TIED to the program's text (the seventh form; the later family's looks); each row that meets fmt, with fmt's text TOLD by the authors' own Lean function (tested against real Go, not proved from fmt's source: count such statements apart). THE CARD IS WHAT COUNTS. Prove the row's statement (the work); the ties are given (YtkeccjomnmpcoanDoorTie.lean); close each card by the builder's one call (the guide's Derived/Test/ToyasCard.lean, 'card_holds'). Laid BY PROGRAM, IN A SANDBOX (cutbox-door.mjs). By AI agents, Wed Nov 11 2026. No macro, syntax, notation, axiom, sorry.
-/
import Derived.Test.YtkeccjomnmpcoanDoorRows
import GoSem.ClaimSeven
namespace Go.Proofs.YtkeccjomnmpcoanDoor
namespace Rows

/-- THE TIED CARD OF 'laws.FnExactPieScale'. -/
def fnExactPieScaleCard : Claim7 := { stood := { row := fnExactPieScaleRow, standIns := [], harness := (true, "a7406ca138fe8de7996fb238679ddc53f521744d64bcfbd431899a6797e50c5b"), looks := false }, kinds := [], alts := [], laidByText := true, laidKinds := [.data], laidTests := true, laidLooks := .later }
def FnExactPieScaleCardSaid : Prop := Claim7.holds Tryd.pinned (.plain (OpenSpec.ofChange fnExactPieScaleSpec)) fnExactPieScaleCard

/-- THE TIED CARD OF 'laws.FnExactPieUpdate'. -/
def fnExactPieUpdateCard : Claim7 := { stood := { row := fnExactPieUpdateRow, standIns := [], harness := (true, "a7406ca138fe8de7996fb238679ddc53f521744d64bcfbd431899a6797e50c5b"), looks := false }, kinds := [], alts := [], laidByText := true, laidKinds := [.data], laidTests := true, laidLooks := .later }
def FnExactPieUpdateCardSaid : Prop := Claim7.holds Tryd.pinned (.plain (OpenSpec.ofChange fnExactPieUpdateSpec)) fnExactPieUpdateCard

/-- THE SECOND FORM's CARD OF 'laws.FnExactPieScale'. -/
def fnExactPieScaleUptoCard : Claim7 := { stood := { row := fnExactPieScaleUptoRow, standIns := [], harness := (true, "a7406ca138fe8de7996fb238679ddc53f521744d64bcfbd431899a6797e50c5b"), looks := false }, kinds := [], alts := [], laidByText := true, laidKinds := [.data], laidTests := true, laidLooks := .later }
def FnExactPieScaleUptoCardSaid : Prop := Claim7.holds Tryd.pinned (.plain (OpenSpec.upto fnExactPieScaleSpec)) fnExactPieScaleUptoCard

/-- THE SECOND FORM's CARD OF 'laws.FnExactPieUpdate'. -/
def fnExactPieUpdateUptoCard : Claim7 := { stood := { row := fnExactPieUpdateUptoRow, standIns := [], harness := (true, "a7406ca138fe8de7996fb238679ddc53f521744d64bcfbd431899a6797e50c5b"), looks := false }, kinds := [], alts := [], laidByText := true, laidKinds := [.data], laidTests := true, laidLooks := .later }
def FnExactPieUpdateUptoCardSaid : Prop := Claim7.holds Tryd.pinned (.plain (OpenSpec.upto fnExactPieUpdateSpec)) fnExactPieUpdateUptoCard
end Rows
end Go.Proofs.YtkeccjomnmpcoanDoor
