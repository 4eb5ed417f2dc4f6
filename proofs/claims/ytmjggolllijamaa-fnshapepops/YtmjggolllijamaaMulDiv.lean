/-
  WHAT THE PROGRAM's MulDiv ANSWERS: the quotient of a product and true, where it is at most Most; else 0 and false.
-/
import Derived.Test.YtmjggolllijamaaRatio
namespace Go.Proofs.Ytmjggolllijamaa
open Go.RowKit
set_option linter.unusedVariables false

end Go.Proofs.Ytmjggolllijamaa
