/-
  DERIVED. GIVEN WITH THE SEED: THE CARDS: each row of YtfghnfanimpjjaaDoorRows.lean that lists a variable, with what it lists TIED to the program's text (the seventh form; the later family's looks); each row that meets fmt, with fmt's text TOLD by the authors' own Lean function (tested against real Go, not proved from fmt's source: count such statements apart). THE CARD IS WHAT COUNTS. Prove the row's statement (the work); the ties are given (YtfghnfanimpjjaaDoorTie.lean); close each card by the builder's one call (the guide's Derived/Test/ToyasCard.lean, 'card_holds'). Laid BY PROGRAM, IN A SANDBOX (cutbox-door.mjs). By AI agents, Wed Nov 11 2026. No macro, syntax, notation, axiom, sorry.
-/
import Derived.Test.YtfghnfanimpjjaaDoorRows
import GoSem.ClaimSeven
namespace Go.Proofs.YtfghnfanimpjjaaDoor
namespace Rows

/-- THE TIED CARD OF 'laws.FnRecvs'. -/
def fnRecvsCard : Claim7 := { stood := { row := fnRecvsRow, standIns := [], harness := (true, "b11224e3607b7b21f0a222af1bb7faf665cbf6e1001f4ff273374eb477fc4718"), looks := false }, kinds := [], alts := [], laidByText := true, laidKinds := [.sentinel], laidTests := true, laidLooks := .later }
def FnRecvsCardSaid : Prop := Claim7.holds Tryd.pinned (.plain (OpenSpec.ofChange fnRecvsSpec)) fnRecvsCard

/-- THE SECOND FORM's CARD OF 'laws.FnRecvs'. -/
def fnRecvsUptoCard : Claim7 := { stood := { row := fnRecvsUptoRow, standIns := [], harness := (true, "b11224e3607b7b21f0a222af1bb7faf665cbf6e1001f4ff273374eb477fc4718"), looks := false }, kinds := [], alts := [], laidByText := true, laidKinds := [.sentinel], laidTests := true, laidLooks := .later }
def FnRecvsUptoCardSaid : Prop := Claim7.holds Tryd.pinned (.plain (OpenSpec.upto fnRecvsSpec)) fnRecvsUptoCard
end Rows
end Go.Proofs.YtfghnfanimpjjaaDoor
