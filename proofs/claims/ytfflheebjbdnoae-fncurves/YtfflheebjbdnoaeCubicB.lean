/-
  CubicOk OF BOTH SIDES.
-/
import Derived.Test.YtfflheebjbdnoaeCubic
namespace Go.Proofs.Ytfflheebjbdnoae
open Go.RowKit
set_option linter.unusedVariables false

theorem cb_good_eq (r : Cb) : r.good = ((inB r.wn 1 1048576) && (inB r.mx 0 1048576) && (inB r.kk 0 200000) && (inB r.st 0 1048576000) && (inB r.th 2 1048576)) := by
  rw [Bool.eq_iff_iff, Cb.good_iff]
  simp [inB]; omega

end Go.Proofs.Ytfflheebjbdnoae
