/-
  PIE: a Pie's four numbers; which are well: PieOk OF BOTH SIDES; PieNew of both; the laws' toPie and eqPie.
-/
import Derived.Test.YtkeccjomnmpcoacDoorPk
import Derived.Test.YtkeccjomnmpcoacDoorSits
namespace Go.Proofs.YtkeccjomnmpcoacDoor
open Go.RowKit
set_option linter.unusedVariables false

/-- A Pie's numbers. -/
structure Pe where
  tg : Int
  pr : Int
  od : Int
  bu : Int
@[reducible] def Pe.val (r : Pe) : Value := .agg #[.int .i64 r.tg, .int .i64 r.pr, .int .i64 r.od, .int .i64 r.bu]
@[reducible] def peCells (r : Pe) : Array Value := #[.int .i64 r.tg, .int .i64 r.pr, .int .i64 r.od, .int .i64 r.bu]
/-- The numbers lie in an int. -/
def Pe.In (r : Pe) : Prop := (-9223372036854775808 ≤ r.tg ∧ r.tg ≤ 9223372036854775807) ∧ (-9223372036854775808 ≤ r.pr ∧ r.pr ≤ 9223372036854775807) ∧ (-9223372036854775808 ≤ r.od ∧ r.od ≤ 9223372036854775807) ∧ (-9223372036854775808 ≤ r.bu ∧ r.bu ≤ 9223372036854775807)
def Pe.zero : Pe := ⟨0, 0, 0, 0⟩

/-- Is it a Pie? -/
def Pe.good (r : Pe) : Bool := decide (1 ≤ r.tg ∧ r.tg ≤ 1000000000 ∧ 0 ≤ r.pr ∧ r.pr ≤ 2147483648 ∧ 0 ≤ r.od ∧ r.od ≤ 10000000000 ∧ 0 ≤ r.bu ∧ r.bu ≤ 150000000)
theorem Pe.good_iff (r : Pe) : r.good = true ↔ (1 ≤ r.tg ∧ r.tg ≤ 1000000000 ∧ 0 ≤ r.pr ∧ r.pr ≤ 2147483648 ∧ 0 ≤ r.od ∧ r.od ≤ 10000000000 ∧ 0 ≤ r.bu ∧ r.bu ≤ 150000000) := by unfold Pe.good; exact decide_eq_true_iff

theorem pe_cells {W : World} {B : Nat} {r : Pe} {t : TypeId} (h : Sits W B (peCells r) t) : W.cell? ⟨B, 0, none⟩ = some (.int .i64 r.tg) ∧ W.cell? ⟨B, 1, none⟩ = some (.int .i64 r.pr) ∧ W.cell? ⟨B, 2, none⟩ = some (.int .i64 r.od) ∧ W.cell? ⟨B, 3, none⟩ = some (.int .i64 r.bu) :=
  ⟨h.cell 0, h.cell 1, h.cell 2, h.cell 3⟩

set_option maxHeartbeats 1000000 in
theorem ipieOk_ex (r : Pe) (w : World) :
    Calls Tryd.prog 9 #[r.val] w fun e w' => e = .returned (.bool r.good) ∧ w' = w.alloc (.cells (peCells r) 24) := by
  obtain ⟨a, b, c, d⟩ := r
  simp only [Pe.val, Pe.good]
  have HC : inB a 1 1000000000 = false ∨ (inB a 1 1000000000 = true ∧ inB b 0 2147483648 = false) ∨ (inB a 1 1000000000 = true ∧ inB b 0 2147483648 = true ∧ inB c 0 10000000000 = false) ∨ (inB a 1 1000000000 = true ∧ inB b 0 2147483648 = true ∧ inB c 0 10000000000 = true ∧ inB d 0 150000000 = false) ∨ (inB a 1 1000000000 = true ∧ inB b 0 2147483648 = true ∧ inB c 0 10000000000 = true ∧ inB d 0 150000000 = true) := by
    cases inB a 1 1000000000 <;> cases inB b 0 2147483648 <;> cases inB c 0 10000000000 <;> cases inB d 0 150000000 <;> simp
  rcases HC with h1 | ⟨h1, h2⟩ | ⟨h1, h2, h3⟩ | ⟨h1, h2, h3, h4⟩ | ⟨h1, h2, h3, h4⟩
  all_goals
    go_enter Tryd.func9, Tryd.ntmps9
    go_wp2_with (go_at_call 14; refine (within_any _ _ _ _).mono ?_; rintro e w' ⟨rfl, rfl⟩)
    all_goals
      go_ret
      exact ⟨ret_bool (by rw [Bool.eq_iff_iff]; simp [inB] at *; omega), rfl⟩

theorem ipieOk_any (r : Pe) (w : World) :
    Calls Tryd.prog 9 #[r.val] w fun e w' => e = .returned (.bool r.good) ∧ Kept w w' := by
  refine (ipieOk_ex r w).mono ?_
  rintro e w' ⟨rfl, rfl⟩
  exact ⟨rfl, Kept.alloc _ _ _⟩

set_option maxHeartbeats 1000000 in
theorem ipieNew_any (a : Int) (w : World) :
    Calls Tryd.prog 7 #[.int .i64 a] w fun e w' => e = .returned (.tuple #[(if (Pe.mk a 0 0 150000000).good then (Pe.mk a 0 0 150000000) else Pe.zero).val, .bool (Pe.mk a 0 0 150000000).good]) ∧ Below w.heap.size w w' := by
  cases hg : (Pe.mk a 0 0 150000000).good
  case false =>
    go_enter Tryd.func7, Tryd.ntmps7
    go_wp2_with (go_at_call 9; refine (ipieOk_ex ⟨a, 0, 0, 150000000⟩ _).mono ?_; rintro e w1 ⟨rfl, rfl⟩; rw [hg])
    refine bodyPost_ret (v := .tuple #[Pe.zero.val, .bool false]) (by simp [results, Tryd.results7, go_sem, Pe.zero]) rfl ⟨rfl, by go_grown⟩
  case true =>
    go_enter Tryd.func7, Tryd.ntmps7
    go_wp2_with (go_at_call 9; refine (ipieOk_ex ⟨a, 0, 0, 150000000⟩ _).mono ?_; rintro e w1 ⟨rfl, rfl⟩; rw [hg])
    refine bodyPost_ret (v := .tuple #[(Pe.mk a 0 0 150000000).val, .bool true]) (by simp [results, Tryd.results7, go_sem]) rfl ⟨rfl, by go_grown⟩

end Go.Proofs.YtkeccjomnmpcoacDoor
