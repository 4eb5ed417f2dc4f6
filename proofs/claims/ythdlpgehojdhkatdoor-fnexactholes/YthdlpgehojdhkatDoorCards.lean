/-
  DERIVED. GIVEN WITH THE SEED: THE CARDS: each row of YthdlpgehojdhkatDoorRows.lean that lists a variable, with what it lists TIED to the program's text (the seventh form; the later family's looks); each row that meets fmt, with fmt's text TOLD by the authors' own Lean function (tested against real Go, not proved from fmt's source: count such statements apart). THE CARD IS WHAT COUNTS. Prove the row's statement (the work); the ties are given (YthdlpgehojdhkatDoorTie.lean); close each card by the builder's one call (the guide's Derived/Test/ToyasCard.lean, 'card_holds'). Laid BY PROGRAM, IN A SANDBOX (cutbox-door.mjs). By AI agents, Wed Nov 11 2026. No macro, syntax, notation, axiom, sorry.
-/
import Derived.Test.YthdlpgehojdhkatDoorRows
import GoSem.ClaimSeven
namespace Go.Proofs.YthdlpgehojdhkatDoor
namespace Rows

/-- THE TIED CARD OF 'laws.FnExactHoles'. -/
def fnExactHolesCard : Claim7 := { stood := { row := fnExactHolesRow, standIns := [], harness := (true, "a3d9c8727a58882f631e6ebc687c81ee3572a90e76abc78eab0f176e07781106"), looks := false }, kinds := [], alts := [], laidByText := true, laidKinds := [.sentinel], laidTests := true, laidLooks := .later }
def FnExactHolesCardSaid : Prop := Claim7.holds Tryd.pinned (.plain (OpenSpec.ofChange fnExactHolesSpec)) fnExactHolesCard

/-- THE TIED CARD OF 'laws.FnExactRecvHas'. -/
def fnExactRecvHasCard : Claim7 := { stood := { row := fnExactRecvHasRow, standIns := [], harness := (true, "a3d9c8727a58882f631e6ebc687c81ee3572a90e76abc78eab0f176e07781106"), looks := false }, kinds := [], alts := [], laidByText := true, laidKinds := [.sentinel], laidTests := true, laidLooks := .later }
def FnExactRecvHasCardSaid : Prop := Claim7.holds Tryd.pinned (.plain (OpenSpec.ofChange fnExactRecvHasSpec)) fnExactRecvHasCard

/-- THE SECOND FORM's CARD OF 'laws.FnExactHoles'. -/
def fnExactHolesUptoCard : Claim7 := { stood := { row := fnExactHolesUptoRow, standIns := [], harness := (true, "a3d9c8727a58882f631e6ebc687c81ee3572a90e76abc78eab0f176e07781106"), looks := false }, kinds := [], alts := [], laidByText := true, laidKinds := [.sentinel], laidTests := true, laidLooks := .later }
def FnExactHolesUptoCardSaid : Prop := Claim7.holds Tryd.pinned (.plain (OpenSpec.upto fnExactHolesSpec)) fnExactHolesUptoCard

/-- THE SECOND FORM's CARD OF 'laws.FnExactRecvHas'. -/
def fnExactRecvHasUptoCard : Claim7 := { stood := { row := fnExactRecvHasUptoRow, standIns := [], harness := (true, "a3d9c8727a58882f631e6ebc687c81ee3572a90e76abc78eab0f176e07781106"), looks := false }, kinds := [], alts := [], laidByText := true, laidKinds := [.sentinel], laidTests := true, laidLooks := .later }
def FnExactRecvHasUptoCardSaid : Prop := Claim7.holds Tryd.pinned (.plain (OpenSpec.upto fnExactRecvHasSpec)) fnExactRecvHasUptoCard
end Rows
end Go.Proofs.YthdlpgehojdhkatDoor
