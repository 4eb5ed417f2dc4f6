/-
  CubicGrow, CubicLoss OF THE SPECIFICATION.
-/
import Derived.Test.YtfflheebjbdnoafDoorCubicS
namespace Go.Proofs.YtfflheebjbdnoafDoor
open Go.RowKit
set_option linter.unusedVariables false

theorem below_only {w w1 w2 : World} (h : Below w.heap.size w w1) (o : Only w.heap.size w1 w2) : Below w.heap.size w w2 := h.trans ⟨o.os, o.tape, o.output, o.size, fun k hk => o.block k (Nat.lt_of_lt_of_le hk h.size) (Nat.ne_of_lt hk)⟩

end Go.Proofs.YtfflheebjbdnoafDoor
