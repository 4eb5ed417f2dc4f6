/-
  WHAT THE ROWS' LIST GIVES: the program's two errors lie in their variables.
-/
import Derived.Test.YtfflheebjbdnoafDoorCubicH
import Derived.Test.YtfflheebjbdnoafDoorCards
import Derived.Test.YtfflheebjbdnoafDoorTie
import Derived.LaidMore
import Derived.OpenVars
import Derived.Stop.Joined
import Derived.Stop.LaidTwo
import Derived.Deep.DeepHandedRow
namespace Go.Proofs.YtfflheebjbdnoafDoor
open Go.ChangeShapes Go.WideShapes Go.ChangeAt Go.RowKit Go.Stop
set_option linter.unusedVariables false

theorem gRoom : Tryd.prog.globalNamed "loop.example/g00453/impl.errNoRoom" = some 0 := by kernel_rfl
theorem gStep : Tryd.prog.globalNamed "loop.example/g00453/impl.errNoStep" = some 1 := by kernel_rfl
theorem tRoom : (Tryd.prog.globals[0]?).map (·.type) = some 39 := by kernel_rfl
theorem tStep : (Tryd.prog.globals[1]?).map (·.type) = some 39 := by kernel_rfl
theorem cErr : Tryd.prog.cellsOf 100 = 1 := by kernel_rfl
theorem cStr : Tryd.prog.cellsOf 9 = 1 := by kernel_rfl
theorem sErr : "*" ++ "errors.errorString" = "*errors.errorString" := by decide
theorem nErr (u : TypeId) (h : Tryd.prog.typeName? 3 u = some "*errors.errorString") : u = 74 :=
  typeName_ptr_named (nm := "errors.errorString") (by rw [sErr]; kernel_rfl) (by kernel_rfl) (by decide) u (by rw [sErr]; exact h)

theorem errs_of {W : World} (h : laidMetH Tryd.prog [("loop.example/g00453/impl.errNoRoom", Rows.laid_loop_example_g00453_impl_errNoRoom), ("loop.example/g00453/impl.errNoStep", Rows.laid_loop_example_g00453_impl_errNoStep)] W) : Errs W := by
  rw [MakeChecks.laidMetH_plain _ _ _ (by kernel_rfl)] at h
  obtain ⟨a0, a1, s0, s1, c0, c1, t0, t1, hv0, hv1, -, -, -, -, -, -, hne, hb0, hb1⟩ := laid_sentinels2 h gRoom tRoom gStep tStep Tryd.underlying39 nErr Tryd.underlying74 Tryd.underlying100 rfl rfl Tryd.underlying9 cErr cStr
  exact ⟨a0, a1, World.var?_cell gRoom hv0 0, World.var?_cell gStep hv1 0, hne, ⟨c0, t0, hb0⟩, ⟨c1, t1, hb1⟩⟩

/-- The door's own heap meets the condition. -/
theorem door_met (os : Os) (args : Array Value) : laidMetH Tryd.prog [("loop.example/g00453/impl.errNoRoom", Rows.laid_loop_example_g00453_impl_errNoRoom), ("loop.example/g00453/impl.errNoStep", Rows.laid_loop_example_g00453_impl_errNoStep)] ((World.doorLaid Tryd.prog 400 os).forCall (fun _ _ => 0) ⟨#[], args, []⟩).memory :=
  laidMetH_of_parts3 (fuel := 8) (laidMet_of_run' 8 (by kernel_rfl) (by kernel_rfl)) (by kernel_rfl) (by kernel_rfl)

end Go.Proofs.YtfflheebjbdnoafDoor
