/-
  RenoNew, Flight, MaySend OF BOTH SIDES.
-/
import Derived.Test.YtfflheebjbdnoaeRenoI
import Derived.Test.YtfflheebjbdnoaeRenoS
import Derived.Test.YtfflheebjbdnoaeRenoA
namespace Go.Proofs.Ytfflheebjbdnoae
open Go.RowKit
set_option linter.unusedVariables false

/-- A new one. -/
def rnNew (m : Int) : Rn := ⟨m, 10 * m, 100000000, 0, 0, 0, 0, 0, false, 0⟩
def Rn.orZero (r : Rn) : Rn := if r.good then r else Rn.zero
def mayF (r : Rn) (win : Int) : Int := if r.good = true ∧ 0 ≤ win then (if (if win < r.cw then win else r.cw) - r.fl < 0 then 0 else (if win < r.cw then win else r.cw) - r.fl) else 0

theorem less_any (a b : Int) (w : World) : Calls Try.prog 47 #[.int .i64 a, .int .i64 b] w fun e w' => e = .returned (.int .i64 (if a < b then a else b)) ∧ w' = w := by
  by_cases h : a < b
  all_goals
    go_enter Try.func47, Try.ntmps47
    go_wp2
    go_ret
    exact ⟨ret_int rfl, rfl⟩

theorem more_any (a b : Int) (w : World) : Calls Try.prog 46 #[.int .i64 a, .int .i64 b] w fun e w' => e = .returned (.int .i64 (if b < a then a else b)) ∧ w' = w := by
  by_cases h : b < a
  all_goals
    go_enter Try.func46, Try.ntmps46
    go_wp2
    go_ret
    exact ⟨ret_int rfl, rfl⟩

set_option maxRecDepth 20000 in
set_option maxHeartbeats 1000000 in
theorem irenoNew_any (a : Int) (a0 : -9223372036854775808 ≤ a) (a1 : a ≤ 9223372036854775807) (w : World) :
    Calls Try.prog 32 #[.int .i64 a] w fun e w' => e = .returned (.tuple #[(rnNew a).orZero.val, .bool (rnNew a).good]) ∧ Below w.heap.size w w' := by
  cases hg : (rnNew a).good
  case false =>
    have hb : ∀ x, (Rn.mk a x 100000000 0 0 0 0 0 false 0).good = false := fun x => by
      cases hx : (Rn.mk a x 100000000 0 0 0 0 0 false 0).good
      · rfl
      · exfalso
        obtain ⟨g1, g2, g3, g4, g5, g6, g7, g8, g9, g10, g11, g12, g13, g14, g15, g16, g17, g18⟩ := (Rn.good_iff _).1 hx
        dsimp only at *
        have : (rnNew a).good = true := (Rn.good_iff _).2 (by simp [rnNew]; omega)
        rw [hg] at this
        cases this
    have HB : Hid (∀ x, (Rn.mk a x 100000000 0 0 0 0 0 false 0).good = false) := hb
    clear hb
    have hz : (rnNew a).orZero = Rn.zero := by unfold Rn.orZero; simp [hg]
    rw [hz]
    clear hz hg
    go_enter Try.func32, Try.ntmps32
    go_wp2_with (go_at_call 12; refine (irenoOk_ex (Rn.mk a _ 100000000 0 0 0 0 0 false 0) _).mono ?_; rintro e w1 ⟨rfl, rfl⟩; rw [HB.out])
    refine bodyPost_ret (v := .tuple #[Rn.zero.val, .bool false]) (by simp [results, Try.results32, go_sem, Rn.zero]) rfl ⟨rfl, by go_grown⟩
  case true =>
    have hz : (rnNew a).orZero = rnNew a := by unfold Rn.orZero; simp [hg]
    rw [hz]
    have hm := (Rn.good_iff _).1 hg
    simp only [rnNew] at hm
    obtain ⟨m1, m2, hm⟩ := hm
    clear hm
    unfold rnNew at hg ⊢
    go_enter Try.func32, Try.ntmps32
    go_wp2_with (go_at_call 12; refine (irenoOk_ex (Rn.mk a (10 * a) 100000000 0 0 0 0 0 false 0) _).mono ?_; rintro e w1 ⟨rfl, rfl⟩; rw [hg])
    refine bodyPost_ret (v := .tuple #[(Rn.mk a (10 * a) 100000000 0 0 0 0 0 false 0).val, .bool true]) (by simp [results, Try.results32, go_sem]) rfl ⟨rfl, by go_grown⟩

set_option maxRecDepth 20000 in
set_option maxHeartbeats 1000000 in
theorem srenoNew_any (a : Int) (a0 : -9223372036854775808 ≤ a) (a1 : a ≤ 9223372036854775807) (w : World) :
    Calls Try.prog 44 #[.int .i64 a] w fun e w' => e = .returned (.tuple #[(rnNew a).orZero.val, .bool (rnNew a).good]) ∧ Below w.heap.size w w' := by
  cases hg : (rnNew a).good
  case false =>
    have hb : ∀ x, (Rn.mk a x 100000000 0 0 0 0 0 false 0).good = false := fun x => by
      cases hx : (Rn.mk a x 100000000 0 0 0 0 0 false 0).good
      · rfl
      · exfalso
        obtain ⟨g1, g2, g3, g4, g5, g6, g7, g8, g9, g10, g11, g12, g13, g14, g15, g16, g17, g18⟩ := (Rn.good_iff _).1 hx
        dsimp only at *
        have : (rnNew a).good = true := (Rn.good_iff _).2 (by simp [rnNew]; omega)
        rw [hg] at this
        cases this
    have HB : Hid (∀ x, (Rn.mk a x 100000000 0 0 0 0 0 false 0).good = false) := hb
    clear hb
    have hz : (rnNew a).orZero = Rn.zero := by unfold Rn.orZero; simp [hg]
    rw [hz]
    clear hz hg
    go_enter Try.func44, Try.ntmps44
    go_wp2_with (go_at_call 10; refine (srenoOk_ex (Rn.mk a _ 100000000 0 0 0 0 0 false 0) _).mono ?_; rintro e w1 ⟨rfl, rfl⟩; rw [HB.out])
    refine bodyPost_ret (v := .tuple #[Rn.zero.val, .bool false]) (by simp [results, Try.results44, go_sem, Rn.zero]) rfl ⟨rfl, by go_grown⟩
  case true =>
    have hz : (rnNew a).orZero = rnNew a := by unfold Rn.orZero; simp [hg]
    rw [hz]
    have hm := (Rn.good_iff _).1 hg
    simp only [rnNew] at hm
    obtain ⟨m1, m2, hm⟩ := hm
    clear hm
    unfold rnNew at hg ⊢
    go_enter Try.func44, Try.ntmps44
    go_wp2_with (go_at_call 10; refine (srenoOk_ex (Rn.mk a (10 * a) 100000000 0 0 0 0 0 false 0) _).mono ?_; rintro e w1 ⟨rfl, rfl⟩; rw [hg])
    refine bodyPost_ret (v := .tuple #[(Rn.mk a (10 * a) 100000000 0 0 0 0 0 false 0).val, .bool true]) (by simp [results, Try.results44, go_sem]) rfl ⟨rfl, by go_grown⟩

set_option maxRecDepth 20000 in
set_option maxHeartbeats 1000000 in
theorem iflight_any (r : Rn) (w : World) :
    Calls Try.prog 15 #[r.val] w fun e w' => e = .returned (.int .i64 (if r.good then r.fl else 0)) ∧ Below w.heap.size w w' := by
  have S0 : Hid (Sits (w.alloc (.cells (rnCells r) 24)) w.heap.size (rnCells r) 24) := Sits.new _ _ _
  have B0 : Hid (Below w.heap.size w (w.alloc (.cells (rnCells r) 24))) := (Below.refl _ _).alloc (Nat.le_refl _) _
  cases hg : r.good
  case false =>
    go_enter Try.func15, Try.ntmps15
    go_wp2_with (first | (go_at_call 12; refine (irenoOk_any r _).mono ?_; rintro e w1 ⟨rfl, b1⟩; rw [hg]; obtain ⟨q0, q1, q2, q3, q4, q5, q6, q7, q8, q9⟩ := rn_cells (Sits.below S0.out b1 (by simp)); have S1 : Hid (Sits w1 w.heap.size (rnCells r) 24) := Sits.below S0.out b1 (by simp); replace b1 := B0.out.trans (b1.mono (by simp))))
    go_ret
    exact ⟨rfl, b1⟩
  case true =>
    have HF : Hid r.fit := good_fit hg
    have hf := good_fit hg
    unfold Rn.fit at hf
    obtain ⟨f, hfe⟩ : ∃ f, r.fl = f := ⟨_, rfl⟩
    have hfe' : r.nx - r.una = f := hfe
    rw [hfe]
    go_enter Try.func15, Try.ntmps15
    go_wp2_with (first | (go_at_call 12; refine (irenoOk_any r _).mono ?_; rintro e w1 ⟨rfl, b1⟩; rw [hg]; obtain ⟨q0, q1, q2, q3, q4, q5, q6, q7, q8, q9⟩ := rn_cells (Sits.below S0.out b1 (by simp)); have S1 : Hid (Sits w1 w.heap.size (rnCells r) 24) := Sits.below S0.out b1 (by simp); replace b1 := B0.out.trans (b1.mono (by simp))) | (go_at_call 33; refine (underWay_any r HF.out _).mono ?_; rintro e w2 ⟨rfl, b2⟩; rw [hfe]; replace b1 := b1.trans (b2.mono b1.size)))
    go_ret
    exact ⟨ret_int (by simp), b1⟩


end Go.Proofs.Ytfflheebjbdnoae
