/-
  DERIVED. GIVEN WITH THE SEED: THE CARDS: each row of YthdlpgehojdhkasDoorRows.lean that lists a variable, with what it lists TIED to the program's text (the seventh form; the later family's looks); each row that meets fmt, with fmt's text TOLD by the authors' own Lean function (tested against real Go, not proved from fmt's source: count such statements apart). THE CARD IS WHAT COUNTS. Prove the row's statement (the work); the ties are given (YthdlpgehojdhkasDoorTie.lean); close each card by the builder's one call (the guide's Derived/Test/ToyasCard.lean, 'card_holds'). Laid BY PROGRAM, IN A SANDBOX (cutbox-door.mjs). By AI agents, Wed Nov 11 2026. No macro, syntax, notation, axiom, sorry.
-/
import Derived.Test.YthdlpgehojdhkasDoorRows
import GoSem.ClaimSeven
namespace Go.Proofs.YthdlpgehojdhkasDoor
namespace Rows

/-- THE TIED CARD OF 'laws.FnExactRecvOk'. -/
def fnExactRecvOkCard : Claim7 := { stood := { row := fnExactRecvOkRow, standIns := [], harness := (true, "a3499a95e2f36f1647c449d896053e4fd9842d73f188d4180fb053f996cf6357"), looks := false }, kinds := [], alts := [], laidByText := true, laidKinds := [.sentinel], laidTests := true, laidLooks := .later }
def FnExactRecvOkCardSaid : Prop := Claim7.holds Tryd.pinned (.plain (OpenSpec.ofChange fnExactRecvOkSpec)) fnExactRecvOkCard

/-- THE TIED CARD OF 'laws.FnExactRecvSeg'. -/
def fnExactRecvSegCard : Claim7 := { stood := { row := fnExactRecvSegRow, standIns := [], harness := (true, "a3499a95e2f36f1647c449d896053e4fd9842d73f188d4180fb053f996cf6357"), looks := false }, kinds := [], alts := [], laidByText := true, laidKinds := [.sentinel], laidTests := true, laidLooks := .later }
def FnExactRecvSegCardSaid : Prop := Claim7.holds Tryd.pinned (.plain (OpenSpec.ofChange fnExactRecvSegSpec)) fnExactRecvSegCard

/-- THE SECOND FORM's CARD OF 'laws.FnExactRecvOk'. -/
def fnExactRecvOkUptoCard : Claim7 := { stood := { row := fnExactRecvOkUptoRow, standIns := [], harness := (true, "a3499a95e2f36f1647c449d896053e4fd9842d73f188d4180fb053f996cf6357"), looks := false }, kinds := [], alts := [], laidByText := true, laidKinds := [.sentinel], laidTests := true, laidLooks := .later }
def FnExactRecvOkUptoCardSaid : Prop := Claim7.holds Tryd.pinned (.plain (OpenSpec.upto fnExactRecvOkSpec)) fnExactRecvOkUptoCard

/-- THE SECOND FORM's CARD OF 'laws.FnExactRecvSeg'. -/
def fnExactRecvSegUptoCard : Claim7 := { stood := { row := fnExactRecvSegUptoRow, standIns := [], harness := (true, "a3499a95e2f36f1647c449d896053e4fd9842d73f188d4180fb053f996cf6357"), looks := false }, kinds := [], alts := [], laidByText := true, laidKinds := [.sentinel], laidTests := true, laidLooks := .later }
def FnExactRecvSegUptoCardSaid : Prop := Claim7.holds Tryd.pinned (.plain (OpenSpec.upto fnExactRecvSegSpec)) fnExactRecvSegUptoCard
end Rows
end Go.Proofs.YthdlpgehojdhkasDoor
