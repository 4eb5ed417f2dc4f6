/-
  RenoNew, Flight, MaySend OF BOTH SIDES.
-/
import Derived.Test.YtcchnhjkifdemaqRenoI
import Derived.Test.YtcchnhjkifdemaqRenoS
import Derived.Test.YtcchnhjkifdemaqRenoA
namespace Go.Proofs.Ytcchnhjkifdemaq
open Go.RowKit
set_option linter.unusedVariables false

/-- A new one. -/
def rnNew (m : Int) : Rn := ⟨m, 10 * m, 100000000, 0, 0, 0, 0, 0, false, 0⟩
def Rn.orZero (r : Rn) : Rn := if r.good then r else Rn.zero
def mayF (r : Rn) (win : Int) : Int := if r.good = true ∧ 0 ≤ win then (if (if win < r.cw then win else r.cw) - r.fl < 0 then 0 else (if win < r.cw then win else r.cw) - r.fl) else 0

theorem less_any (a b : Int) (w : World) : Calls Try.prog 24 #[.int .i64 a, .int .i64 b] w fun e w' => e = .returned (.int .i64 (if a < b then a else b)) ∧ w' = w := by
  by_cases h : a < b
  all_goals
    go_enter Try.func24, Try.ntmps24
    go_wp2
    go_ret
    exact ⟨ret_int rfl, rfl⟩

theorem more_any (a b : Int) (w : World) : Calls Try.prog 23 #[.int .i64 a, .int .i64 b] w fun e w' => e = .returned (.int .i64 (if b < a then a else b)) ∧ w' = w := by
  by_cases h : b < a
  all_goals
    go_enter Try.func23, Try.ntmps23
    go_wp2
    go_ret
    exact ⟨ret_int rfl, rfl⟩

set_option maxRecDepth 20000 in
set_option maxHeartbeats 1000000 in
theorem iflight_any (r : Rn) (w : World) :
    Calls Try.prog 10 #[r.val] w fun e w' => e = .returned (.int .i64 (if r.good then r.fl else 0)) ∧ Below w.heap.size w w' := by
  have S0 : Hid (Sits (w.alloc (.cells (rnCells r) 25)) w.heap.size (rnCells r) 25) := Sits.new _ _ _
  have B0 : Hid (Below w.heap.size w (w.alloc (.cells (rnCells r) 25))) := (Below.refl _ _).alloc (Nat.le_refl _) _
  cases hg : r.good
  case false =>
    go_enter Try.func10, Try.ntmps10
    go_wp2_with (first | (go_at_call 21; refine (irenoOk_any r _).mono ?_; rintro e w1 ⟨rfl, b1⟩; rw [hg]; obtain ⟨q0, q1, q2, q3, q4, q5, q6, q7, q8, q9⟩ := rn_cells (Sits.below S0.out b1 (by simp)); have S1 : Hid (Sits w1 w.heap.size (rnCells r) 25) := Sits.below S0.out b1 (by simp); replace b1 := B0.out.trans (b1.mono (by simp))))
    go_ret
    exact ⟨rfl, b1⟩
  case true =>
    have HF : Hid r.fit := good_fit hg
    have hf := good_fit hg
    unfold Rn.fit at hf
    obtain ⟨f, hfe⟩ : ∃ f, r.fl = f := ⟨_, rfl⟩
    have hfe' : r.nx - r.una = f := hfe
    rw [hfe]
    go_enter Try.func10, Try.ntmps10
    go_wp2_with (first | (go_at_call 21; refine (irenoOk_any r _).mono ?_; rintro e w1 ⟨rfl, b1⟩; rw [hg]; obtain ⟨q0, q1, q2, q3, q4, q5, q6, q7, q8, q9⟩ := rn_cells (Sits.below S0.out b1 (by simp)); have S1 : Hid (Sits w1 w.heap.size (rnCells r) 25) := Sits.below S0.out b1 (by simp); replace b1 := B0.out.trans (b1.mono (by simp))) | (go_at_call 22; refine (underWay_any r HF.out _).mono ?_; rintro e w2 ⟨rfl, b2⟩; rw [hfe]; replace b1 := b1.trans (b2.mono b1.size)))
    go_ret
    exact ⟨ret_int (by simp), b1⟩


set_option maxRecDepth 20000 in
set_option maxHeartbeats 1000000 in
theorem sflight_any (r : Rn) (w : World) :
    Calls Try.prog 8 #[r.val] w fun e w' => e = .returned (.int .i64 (if r.good then r.fl else 0)) ∧ Below w.heap.size w w' := by
  have S0 : Hid (Sits (w.alloc (.cells (rnCells r) 25)) w.heap.size (rnCells r) 25) := Sits.new _ _ _
  have B0 : Hid (Below w.heap.size w (w.alloc (.cells (rnCells r) 25))) := (Below.refl _ _).alloc (Nat.le_refl _) _
  cases hg : r.good
  case false =>
    go_enter Try.func8, Try.ntmps8
    go_wp2_with (first | (go_at_call 20; refine (srenoOk_any r _).mono ?_; rintro e w1 ⟨rfl, b1⟩; rw [hg]; obtain ⟨q0, q1, q2, q3, q4, q5, q6, q7, q8, q9⟩ := rn_cells (Sits.below S0.out b1 (by simp)); have S1 : Hid (Sits w1 w.heap.size (rnCells r) 25) := Sits.below S0.out b1 (by simp); replace b1 := B0.out.trans (b1.mono (by simp))))
    go_ret
    exact ⟨rfl, b1⟩
  case true =>
    have HF : Hid r.fit := good_fit hg
    have hf := good_fit hg
    unfold Rn.fit at hf
    obtain ⟨f, hfe⟩ : ∃ f, r.fl = f := ⟨_, rfl⟩
    have hfe' : r.nx - r.una = f := hfe
    rw [hfe]
    go_enter Try.func8, Try.ntmps8
    go_wp2_with (first | (go_at_call 20; refine (srenoOk_any r _).mono ?_; rintro e w1 ⟨rfl, b1⟩; rw [hg]; obtain ⟨q0, q1, q2, q3, q4, q5, q6, q7, q8, q9⟩ := rn_cells (Sits.below S0.out b1 (by simp)); have S1 : Hid (Sits w1 w.heap.size (rnCells r) 25) := Sits.below S0.out b1 (by simp); replace b1 := B0.out.trans (b1.mono (by simp))))
    go_ret
    exact ⟨ret_int (by simp), b1⟩


end Go.Proofs.Ytcchnhjkifdemaq
