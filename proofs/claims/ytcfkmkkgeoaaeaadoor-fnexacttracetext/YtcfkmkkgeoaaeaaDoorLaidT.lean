/-
  WHAT THE ROWS' LIST GIVES: the library's table of powers of ten lies in its variable.
-/
import Derived.Test.YtcfkmkkgeoaaeaaDoorTextI
import Derived.Test.YtcfkmkkgeoaaeaaDoorCards
import Derived.Test.YtcfkmkkgeoaaeaaDoorTie
import Derived.Lib.LaidTab
import Derived.LaidMore
import Derived.OpenVars
import Derived.Stop.Joined
import Derived.Stop.LaidErr
import Derived.Deep.DeepHandedRow
namespace Go.Proofs.YtcfkmkkgeoaaeaaDoor
open Go.ChangeShapes Go.WideShapes Go.ChangeAt Go.RowKit
set_option linter.unusedVariables false

abbrev lawTabs : List (String × DataW Unit) := [("math/bits.deBruijn32tab", Rows.laid_math_bits_deBruijn32tab), ("math/bits.deBruijn64tab", Rows.laid_math_bits_deBruijn64tab), ("internal/strconv.uint64pow10", Rows.laid_internal_strconv_uint64pow10)]
theorem gPow : Tryd.prog.globalNamed "internal/strconv.uint64pow10" = some 0 := by kernel_rfl
theorem tPow : (Tryd.prog.globals[0]?).map (·.type) = some 70 := by kernel_rfl
theorem cPow : Tryd.prog.cellsOf 70 = 20 := by kernel_rfl
theorem cU64 : Tryd.prog.cellsOf 63 = 1 := by kernel_rfl
theorem sPow : (Rows.laid_internal_strconv_uint64pow10 : DataW Unit) = Lib.tabData .u64 Lib.pow10Tab := by
  simp [Rows.laid_internal_strconv_uint64pow10, Lib.tabData, Lib.pow10Tab, List.range_succ]

theorem tab_of {W : World} (h : laidMetH Tryd.prog lawTabs W) : Lib.TabIs Tryd.prog W "internal/strconv.uint64pow10" .u64 Lib.pow10Tab := by
  rw [MakeChecks.laidMetH_plain _ _ _ (by kernel_rfl)] at h
  have h2 := laidMet.tail (laidMet.tail h)
  rw [sPow] at h2
  exact Lib.tabIs_of_head gPow tPow Tryd.underlying70 Tryd.underlying63 cU64 cPow h2

/-- The door's own heap meets the condition. -/
theorem door_met (os : Os) (args : Array Value) : laidMetH Tryd.prog lawTabs ((World.doorLaid Tryd.prog 400 os).forCall (fun _ _ => 0) ⟨#[], args, []⟩).memory :=
  laidMetH_of_parts3 (fuel := 8) (laidMet_of_run' 8 (by kernel_rfl) (by kernel_rfl)) (by kernel_rfl) (by kernel_rfl)

end Go.Proofs.YtcfkmkkgeoaaeaaDoor
