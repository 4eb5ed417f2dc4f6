/-
  WHAT THE SPECIFICATION's READER OF FRAMES ANSWERS WHERE THE BYTES ARE A FRAME WITHOUT DATA, AND IN ALL.
-/
import Derived.Test.YteehgkmohkiiaaaParseGood
import Derived.Test.YteehgkmohkiiaaaIParse
namespace Go.Proofs.Yteehgkmohkiiaaa
open Go.RowKit
set_option linter.unusedVariables false

end Go.Proofs.Yteehgkmohkiiaaa
