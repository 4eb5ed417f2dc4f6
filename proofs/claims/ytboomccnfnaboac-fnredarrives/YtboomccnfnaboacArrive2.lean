/-
  WHO COMES TO RED: the program's RedArrive, in one sentence.
-/
import Derived.Test.YtboomccnfnaboacArriveI
import Derived.Test.YtboomccnfnaboacArriveS
namespace Go.Proofs.Ytboomccnfnaboac
open Go.RowKit
set_option linter.unusedVariables false

theorem iredArrive_any (r : Rd) (b d : Int) (w : World) :
    Calls Try.prog 5 #[r.val, .int .i64 b, .int .i64 d] w fun e w' => e = .returned (.tuple #[(r.arrived b d).val, .bool (hitB r b d)]) ∧ Below w.heap.size w w' := by
  cases hm : r.may b d
  · exact iredArrive_not r b d w hm
  · exact iredArrive_yes r b d w hm

end Go.Proofs.Ytboomccnfnaboac
