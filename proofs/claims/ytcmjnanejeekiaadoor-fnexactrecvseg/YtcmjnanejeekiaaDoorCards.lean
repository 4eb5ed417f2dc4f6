/-
  DERIVED. GIVEN WITH THE SEED: THE CARDS: each row of YtcmjnanejeekiaaDoorRows.lean that lists a variable, with what it lists TIED to the program's text (the seventh form; the later family's looks); each row that meets fmt, with fmt's text TOLD by the authors' own Lean function (tested against real Go, not proved from fmt's source: count such statements apart). THE CARD IS WHAT COUNTS. Prove the row's statement (the work); the ties are given (YtcmjnanejeekiaaDoorTie.lean); close each card by the builder's one call (the guide's Derived/Test/ToyasCard.lean, 'card_holds'). Laid BY PROGRAM, IN A SANDBOX (cutbox-door.mjs). By AI agents, Wed Nov 11 2026. No macro, syntax, notation, axiom, sorry.
-/
import Derived.Test.YtcmjnanejeekiaaDoorRows
import GoSem.ClaimSeven
namespace Go.Proofs.YtcmjnanejeekiaaDoor
namespace Rows

/-- THE TIED CARD OF 'laws.FnExactRecvSeg'. -/
def fnExactRecvSegCard : Claim7 := { stood := { row := fnExactRecvSegRow, standIns := [], harness := (true, "0be77971eddff04c74366ea20fe93b8fb61614329fbf8a69cf6725c6ccba37c8"), looks := false }, kinds := [], alts := [], laidByText := true, laidKinds := [.sentinel], laidTests := true, laidLooks := .later }
def FnExactRecvSegCardSaid : Prop := Claim7.holds Tryd.pinned (.plain (OpenSpec.ofChange fnExactRecvSegSpec)) fnExactRecvSegCard

/-- THE TIED CARD OF 'laws.FnExactTraceText'. -/
def fnExactTraceTextCard : Claim7 := { stood := { row := fnExactTraceTextRow, standIns := [], harness := (true, "0be77971eddff04c74366ea20fe93b8fb61614329fbf8a69cf6725c6ccba37c8"), looks := false }, kinds := [], alts := [], laidByText := true, laidKinds := [.data, .data, .data], laidTests := true, laidLooks := .later }
def FnExactTraceTextCardSaid : Prop := Claim7.holds Tryd.pinned (.plain (OpenSpec.ofChange fnExactTraceTextSpec)) fnExactTraceTextCard

/-- THE SECOND FORM's CARD OF 'laws.FnExactRecvSeg'. -/
def fnExactRecvSegUptoCard : Claim7 := { stood := { row := fnExactRecvSegUptoRow, standIns := [], harness := (true, "0be77971eddff04c74366ea20fe93b8fb61614329fbf8a69cf6725c6ccba37c8"), looks := false }, kinds := [], alts := [], laidByText := true, laidKinds := [.sentinel], laidTests := true, laidLooks := .later }
def FnExactRecvSegUptoCardSaid : Prop := Claim7.holds Tryd.pinned (.plain (OpenSpec.upto fnExactRecvSegSpec)) fnExactRecvSegUptoCard

/-- THE SECOND FORM's CARD OF 'laws.FnExactTraceText'. -/
def fnExactTraceTextUptoCard : Claim7 := { stood := { row := fnExactTraceTextUptoRow, standIns := [], harness := (true, "0be77971eddff04c74366ea20fe93b8fb61614329fbf8a69cf6725c6ccba37c8"), looks := false }, kinds := [], alts := [], laidByText := true, laidKinds := [.data, .data, .data], laidTests := true, laidLooks := .later }
def FnExactTraceTextUptoCardSaid : Prop := Claim7.holds Tryd.pinned (.plain (OpenSpec.upto fnExactTraceTextSpec)) fnExactTraceTextUptoCard
end Rows
end Go.Proofs.YtcmjnanejeekiaaDoor
