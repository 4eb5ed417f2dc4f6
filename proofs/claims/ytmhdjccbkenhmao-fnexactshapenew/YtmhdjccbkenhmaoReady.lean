/-
  WHEN A SHAPER IS READY; A NEW ONE: Ready AND ShapeNew OF BOTH SIDES.
-/
import Derived.Test.YtmhdjccbkenhmaoShapeS
import Derived.Test.YtmhdjccbkenhmaoShapeO
namespace Go.Proofs.Ytmhdjccbkenhmao
open Go.RowKit
set_option linter.unusedVariables false

/-- May a packet go, and when? -/
def rdyB (s : Sh) (N : Nat) (L : Nat → Ln) (ts : List Int) : Bool := shB s N L ts && decide (ts ≠ [])
def rdyV (s : Sh) (N : Nat) (L : Nat → Ln) (ts : List Int) : Int := if rdyB s N L ts then s.nx else 0
theorem rdy_no {s : Sh} {N : Nat} {L : Nat → Ln} {ts : List Int} (h : rdyB s N L ts = false) : Value.tuple #[.int .i64 0, .bool false] = .tuple #[.int .i64 (rdyV s N L ts), .bool (rdyB s N L ts)] := by unfold rdyV; rw [h]; rfl
theorem rdy_yes {s : Sh} {N : Nat} {L : Nat → Ln} {ts : List Int} (h : rdyB s N L ts = true) : Value.tuple #[.int .i64 s.nx, .bool true] = .tuple #[.int .i64 (rdyV s N L ts), .bool (rdyB s N L ts)] := by unfold rdyV; rw [h]; rfl
theorem rets {v v' : Value} (h : v = v') : Ending.returned v = Ending.returned v' := by rw [h]

end Go.Proofs.Ytmhdjccbkenhmao
