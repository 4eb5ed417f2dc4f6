/-
  RED: a Red's five numbers; which are well: RedOk OF BOTH SIDES; RedNew, RedAvg, RedIdle of both; the laws' toRed and eqRed.
-/
import Derived.Test.YtboomccnfnaboacBase
namespace Go.Proofs.Ytboomccnfnaboac
open Go.RowKit
set_option linter.unusedVariables false

/-- A Red's numbers. -/
structure Rd where
  mn : Int
  mx : Int
  mp : Int
  avg : Int
  cnt : Int
@[reducible] def Rd.val (r : Rd) : Value := .agg #[.int .i64 r.mn, .int .i64 r.mx, .int .i64 r.mp, .int .i64 r.avg, .int .i64 r.cnt]
@[reducible] def rdCells (r : Rd) : Array Value := #[.int .i64 r.mn, .int .i64 r.mx, .int .i64 r.mp, .int .i64 r.avg, .int .i64 r.cnt]
/-- The numbers lie in an int. -/
def Rd.In (r : Rd) : Prop := (-9223372036854775808 ≤ r.mn ∧ r.mn ≤ 9223372036854775807) ∧ (-9223372036854775808 ≤ r.mx ∧ r.mx ≤ 9223372036854775807) ∧ (-9223372036854775808 ≤ r.mp ∧ r.mp ≤ 9223372036854775807) ∧ (-9223372036854775808 ≤ r.avg ∧ r.avg ≤ 9223372036854775807) ∧ (-9223372036854775808 ≤ r.cnt ∧ r.cnt ≤ 9223372036854775807)
def Rd.zero : Rd := ⟨0, 0, 0, 0, 0⟩

/-- v lies in l .. h. -/
def inR (v l h : Int) : Bool := decide (l ≤ v ∧ v ≤ h)
/-- Is it a Red? -/
def Rd.good (r : Rd) : Bool := decide (1 ≤ r.mn ∧ r.mn < r.mx ∧ r.mx ≤ 1048576 ∧ 1 ≤ r.mp ∧ r.mp ≤ 65536 ∧ 0 ≤ r.avg ∧ r.avg ≤ 68719476736 ∧ 0 ≤ r.cnt ∧ r.cnt ≤ 1000000)
theorem Rd.good_iff (r : Rd) : r.good = true ↔ (1 ≤ r.mn ∧ r.mn < r.mx ∧ r.mx ≤ 1048576 ∧ 1 ≤ r.mp ∧ r.mp ≤ 65536 ∧ 0 ≤ r.avg ∧ r.avg ≤ 68719476736 ∧ 0 ≤ r.cnt ∧ r.cnt ≤ 1000000) := by unfold Rd.good; exact decide_eq_true_iff

theorem within_r (v l h : Int) (w : World) :
    Calls Try.prog 15 #[.int .i64 v, .int .i64 l, .int .i64 h] w fun e w' => e = .returned (.bool (inR v l h)) ∧ w' = w := by
  by_cases hn : l ≤ v
  · go_enter Try.func15, Try.ntmps15
    go_wp2
    go_ret
    exact ⟨ret_bool (by rw [Bool.eq_iff_iff]; simp [inR]; omega), rfl⟩
  · have HE : Hid (false = inR v l h) := by show _ = _; unfold inR; simp; omega
    have hn' : decide (l ≤ v) = false := by simp; omega
    go_enter Try.func15, Try.ntmps15
    go_wp2
    go_ret
    exact ⟨ret_bool HE.out, rfl⟩

set_option maxHeartbeats 1000000 in
theorem iredOk_ex (r : Rd) (w : World) :
    Calls Try.prog 10 #[r.val] w fun e w' => e = .returned (.bool r.good) ∧ w' = w.alloc (.cells (rdCells r) 24) := by
  obtain ⟨a, b, c, d, t⟩ := r
  simp only [Rd.val, Rd.good]
  cases h1 : inR c 1 65536 <;> cases h2 : inR d 0 68719476736 <;> cases h3 : inR t 0 1000000
  all_goals
    go_enter Try.func10, Try.ntmps10
    go_wp2_with (go_at_call 15; refine (within_r _ _ _ _).mono ?_; rintro e w' ⟨rfl, rfl⟩)
    all_goals
      go_ret
      exact ⟨ret_bool (by rw [Bool.eq_iff_iff]; simp [inR] at h1 h2 h3 ⊢; omega), rfl⟩

set_option maxHeartbeats 1000000 in
theorem sredOk_ex (r : Rd) (w : World) :
    Calls Try.prog 6 #[r.val] w fun e w' => e = .returned (.bool r.good) ∧ w' = w.alloc (.cells (rdCells r) 24) := by
  obtain ⟨a, b, c, d, t⟩ := r
  simp only [Rd.val, Rd.good]
  go_enter Try.func6, Try.ntmps6
  go_wp2
  all_goals
    go_ret
    exact ⟨ret_bool (by rw [Bool.eq_iff_iff]; simp; omega), rfl⟩

theorem iredOk_any (r : Rd) (w : World) :
    Calls Try.prog 10 #[r.val] w fun e w' => e = .returned (.bool r.good) ∧ Kept w w' := by
  refine (iredOk_ex r w).mono ?_
  rintro e w' ⟨rfl, rfl⟩
  exact ⟨rfl, Kept.alloc _ _ _⟩

theorem sredOk_any (r : Rd) (w : World) :
    Calls Try.prog 6 #[r.val] w fun e w' => e = .returned (.bool r.good) ∧ Kept w w' := by
  refine (sredOk_ex r w).mono ?_
  rintro e w' ⟨rfl, rfl⟩
  exact ⟨rfl, Kept.alloc _ _ _⟩

end Go.Proofs.Ytboomccnfnaboac
