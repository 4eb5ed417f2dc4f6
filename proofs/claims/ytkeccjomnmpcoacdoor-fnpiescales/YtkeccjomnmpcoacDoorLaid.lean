/-
  WHAT THE ROWS' LIST GIVES: the program's table of steps lies in its variable.
-/
import Derived.Test.YtkeccjomnmpcoacDoorScale
import Derived.Test.YtkeccjomnmpcoacDoorCards
import Derived.Test.YtkeccjomnmpcoacDoorTie
import Derived.LaidMore
import Derived.OpenVars
import Derived.Stop.Joined
import Derived.Deep.DeepHandedRow
namespace Go.Proofs.YtkeccjomnmpcoacDoor
open Go.ChangeShapes Go.WideShapes Go.ChangeAt Go.RowKit
set_option linter.unusedVariables false

theorem gSteps : Tryd.prog.globalNamed "loop.example/g00453/impl.pieSteps" = some 0 := by kernel_rfl
theorem tSteps : (Tryd.prog.globals[0]?).map (·.type) = some 43 := by kernel_rfl
theorem cStep : Tryd.prog.cellsOf 42 = 2 := by kernel_rfl
theorem cSteps : Tryd.prog.cellsOf 43 = 12 := by kernel_rfl
theorem cIntL : Tryd.prog.cellsOf 3 = 1 := by kernel_rfl

section
variable {H : Type} {enc : TypeId × Value → H} {W : World} {base : Nat} {sp : Nat → Bool} {held : Bool}

theorem one_step {m : Nat} {c d : Value} {y : DataW H × List MemPlace} {a b : Int} {P Q : List (DataW H)} (h : DataW.trod enc Tryd.prog W base sp held m 42 [c, d] = some y) (hy : y.1 = .agg [.lit (.int .i64 a), .lit (.int .i64 b)]) : c = .int .i64 a ∧ d = .int .i64 b := by
  obtain ⟨xs, n, rfl, hx, hl, hxl, hall⟩ := DataW.trod_struct Tryd.underlying42 h
  match xs, hxl with
  | [y0, y1], _ =>
  have b0 : DataW.trod enc Tryd.prog W base sp held n 3 (([c, d].drop 0).take (Tryd.prog.cellsOf 3)) = some y0 := hall 0 _ rfl
  rw [cIntL] at b0
  replace b0 : DataW.trod enc Tryd.prog W base sp held n 3 [c] = some y0 := b0
  have b1 : DataW.trod enc Tryd.prog W base sp held n 3 (([c, d].drop 1).take (Tryd.prog.cellsOf 3)) = some y1 := hall 1 _ rfl
  rw [cIntL] at b1
  replace b1 : DataW.trod enc Tryd.prog W base sp held n 3 [d] = some y1 := b1
  obtain ⟨z0, h0, e0, _⟩ := DataW.trod_int Tryd.underlying3 b0
  obtain ⟨z1, h1, e1, _⟩ := DataW.trod_int Tryd.underlying3 b1
  subst hx e0 e1
  simp at hy h0 h1
  obtain ⟨rfl, rfl⟩ := hy
  exact ⟨h0, h1⟩

end

theorem steps_of {W : World} (h : laidMetH Tryd.prog [("loop.example/g00453/impl.pieSteps", Rows.laid_loop_example_g00453_impl_pieSteps)] W) : Steps W := by
  rw [MakeChecks.laidMetH_plain _ _ _ (by kernel_rfl)] at h
  obtain ⟨ps, ⟨g0, t0, cs0, f0, p0, q0, hg0, ht0, hv0, hd0, _⟩, _⟩ := h
  obtain rfl := Option.some.inj (gSteps.symm.trans hg0)
  obtain rfl := Option.some.inj (tSteps.symm.trans ht0)
  obtain ⟨xs, m1, rfl, hx1, hlen, hn6, hel⟩ := DataW.trod_array Tryd.underlying43 hd0
  have hc := fun i => World.var?_cell hg0 hv0 i
  obtain ⟨l⟩ := cs0
  rw [cSteps] at hlen
  simp only [Prod.mk.injEq, Rows.laid_loop_example_g00453_impl_pieSteps, DataW.agg.injEq] at hx1
  match l, hlen with
  | [c0, c1, c2, c3, c4, c5, c6, c7, c8, c9, c10, c11], _ =>
  match xs, hn6 with
  | [x0, x1, x2, x3, x4, x5], _ =>
  simp only [List.map_cons, List.map_nil, List.cons.injEq] at hx1
  obtain ⟨⟨e0, e1, e2, e3, e4, e5, _⟩, _⟩ := hx1
  rw [cStep] at hel
  obtain ⟨rfl, rfl⟩ := one_step (P := []) (Q := []) (hel 0 (by decide)) e0.symm
  obtain ⟨rfl, rfl⟩ := one_step (P := []) (Q := []) (hel 1 (by decide)) e1.symm
  obtain ⟨rfl, rfl⟩ := one_step (P := []) (Q := []) (hel 2 (by decide)) e2.symm
  obtain ⟨rfl, rfl⟩ := one_step (P := []) (Q := []) (hel 3 (by decide)) e3.symm
  obtain ⟨rfl, rfl⟩ := one_step (P := []) (Q := []) (hel 4 (by decide)) e4.symm
  obtain ⟨rfl, rfl⟩ := one_step (P := []) (Q := []) (hel 5 (by decide)) e5.symm
  exact ⟨hc 0, hc 1, hc 2, hc 3, hc 4, hc 5, hc 6, hc 7, hc 8, hc 9, hc 10, hc 11⟩

/-- The door's own heap meets the condition. -/
theorem door_met (os : Os) (args : Array Value) : laidMetH Tryd.prog [("loop.example/g00453/impl.pieSteps", Rows.laid_loop_example_g00453_impl_pieSteps)] ((World.doorLaid Tryd.prog 400 os).forCall (fun _ _ => 0) ⟨#[], args, []⟩).memory :=
  laidMetH_of_parts3 (fuel := 8) (laidMet_of_run' 8 (by kernel_rfl) (by kernel_rfl)) (by kernel_rfl) (by kernel_rfl)

end Go.Proofs.YtkeccjomnmpcoacDoor
