/-
  WHAT THE ROWS' LIST GIVES: the program's error of chapter 11 lies in its variable.
-/
import Derived.Test.YtfghnfanimpjjaaDoorRecvI
import Derived.Test.YtfghnfanimpjjaaDoorCards
import Derived.Test.YtfghnfanimpjjaaDoorTie
import Derived.LaidMore
import Derived.OpenVars
import Derived.Stop.Joined
import Derived.Stop.LaidErr
import Derived.Deep.DeepHandedRow
namespace Go.Proofs.YtfghnfanimpjjaaDoor
open Go.ChangeShapes Go.WideShapes Go.ChangeAt Go.RowKit Go.Stop
set_option linter.unusedVariables false

/-- The program's error lies somewhere. -/
def ErrSps (w : World) : Prop := ∃ e, ErrSp e w

theorem gSpan : Tryd.prog.globalNamed "loop.example/g00453/impl.errNoSpan" = some 0 := by kernel_rfl
theorem tSpan : (Tryd.prog.globals[0]?).map (·.type) = some 56 := by kernel_rfl
theorem cErr : Tryd.prog.cellsOf 82 = 1 := by kernel_rfl
theorem cStr : Tryd.prog.cellsOf 9 = 1 := by kernel_rfl
theorem sErr : "*" ++ "errors.errorString" = "*errors.errorString" := by decide
theorem nErr (u : TypeId) (h : Tryd.prog.typeName? 3 u = some "*errors.errorString") : u = 64 :=
  typeName_ptr_named (nm := "errors.errorString") (by rw [sErr]; kernel_rfl) (by kernel_rfl) (by decide) u (by rw [sErr]; exact h)

theorem errs_of {W : World} (h : laidMetH Tryd.prog [("loop.example/g00453/impl.errNoSpan", Rows.laid_loop_example_g00453_impl_errNoSpan)] W) : ErrSps W := by
  rw [MakeChecks.laidMetH_plain _ _ _ (by kernel_rfl)] at h
  obtain ⟨a0, s0, hv0, -, -, -⟩ := laid_sentinel h gSpan tSpan Tryd.underlying56 nErr Tryd.underlying64 Tryd.underlying82 rfl rfl Tryd.underlying9 cErr cStr
  exact ⟨a0, World.var?_cell gSpan hv0 0⟩

/-- The door's own heap meets the condition. -/
theorem door_met (os : Os) (args : Array Value) : laidMetH Tryd.prog [("loop.example/g00453/impl.errNoSpan", Rows.laid_loop_example_g00453_impl_errNoSpan)] ((World.doorLaid Tryd.prog 400 os).forCall (fun _ _ => 0) ⟨#[], args, []⟩).memory :=
  laidMetH_of_parts3 (fuel := 8) (laidMet_of_run' 8 (by kernel_rfl) (by kernel_rfl)) (by kernel_rfl) (by kernel_rfl)

end Go.Proofs.YtfghnfanimpjjaaDoor
