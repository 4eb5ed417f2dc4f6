/-
  WHAT THE PROGRAM's MulDiv ANSWERS: the quotient of a product and true, where it is at most Most; else 0 and false.
-/
import Derived.Test.YtmhdjccbkenhmapRatio
namespace Go.Proofs.Ytmhdjccbkenhmap
open Go.RowKit
set_option linter.unusedVariables false

end Go.Proofs.Ytmhdjccbkenhmap
