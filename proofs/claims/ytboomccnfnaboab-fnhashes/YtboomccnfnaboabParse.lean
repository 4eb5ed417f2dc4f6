/-
  WHAT THE SPECIFICATION's READER OF FRAMES ANSWERS (l2parse, EcnOf).
-/
import Derived.Test.YtboomccnfnaboabWire
import Derived.Deep.Cut
import Derived.Deep.RegionHeld3
import Derived.Deep.AppendLies
import Derived.WalkSpells
namespace Go.Proofs.Ytboomccnfnaboab
open Go.RowKit
set_option linter.unusedVariables false

def noFrame : Value := .agg #[.int .i64 0, .int .i64 0, .int .i64 0, .int .i64 0, .int .i64 0, .int .i64 0, .int .i64 0, .int .i64 0, .int .i64 0, .slice none 0 0]
/-- Why n bytes are no frame: 0: they are one. -/
def codeF (f : Nat → Int) (n : Nat) : Int :=
  if n < 24 then 1 else if f 0 ≠ 69 ∨ get16F f 6 ≠ 0 then 2 else if get16F f 2 ≠ n ∨ 100 < n then 3 else if sumF f 20 ≠ 65535 ∨ get16F f 10 = 65535 then 4 else 0

end Go.Proofs.Ytboomccnfnaboab
