/-
  WHAT THE SPECIFICATION's READER OF FRAMES ANSWERS WHERE THE BYTES ARE A FRAME WITHOUT DATA, AND IN ALL.
-/
import Derived.Test.YtkhfcemjmnjkdaaParseGood
import Derived.Test.YtkhfcemjmnjkdaaIParse
namespace Go.Proofs.Ytkhfcemjmnjkdaa
open Go.RowKit
set_option linter.unusedVariables false

end Go.Proofs.Ytkhfcemjmnjkdaa
