/-
  WHAT THE SPECIFICATION's READER OF FRAMES ANSWERS (l2parse, EcnOf).
-/
import Derived.Test.YtcfkmkkgeoaaeaaDoorWire
import Derived.Deep.Cut
import Derived.Deep.RegionHeld3
import Derived.Deep.AppendLies
import Derived.WalkSpells
namespace Go.Proofs.YtcfkmkkgeoaaeaaDoor
open Go.RowKit
set_option linter.unusedVariables false

def noFrame : Value := .agg #[.int .i64 0, .int .i64 0, .int .i64 0, .int .i64 0, .int .i64 0, .int .i64 0, .int .i64 0, .int .i64 0, .int .i64 0, .slice none 0 0]
/-- Why n bytes are no frame: 0: they are one. -/
def codeF (f : Nat → Int) (n : Nat) : Int :=
  if n < 24 then 1 else if f 0 ≠ 69 ∨ get16F f 6 ≠ 0 then 2 else if get16F f 2 ≠ n ∨ 100 < n then 3 else if sumF f 20 ≠ 65535 ∨ get16F f 10 = 65535 then 4 else 0

theorem get16F_bd (f : Nat → Int) (n i : Nat) (hf : Byt n f) (hi : i + 1 < n) : 0 ≤ get16F f i ∧ get16F f i ≤ 65535 := by
  have a := hf i (by omega)
  have b := hf (i + 1) hi
  unfold get16F; omega
theorem Row.take {k : IntKind} {w : World} {a : Option Addr} {n m : Nat} {f : Nat → Int} (h : Row k w a n f) (hm : m ≤ n) : Row k w a m f := by
  rcases h with h | ⟨b, off, ha, hlt, hc⟩
  · exact .inl (by omega)
  · exact .inr ⟨b, off, ha, hlt, fun i hi => hc i (by omega)⟩

end Go.Proofs.YtcfkmkkgeoaaeaaDoor
