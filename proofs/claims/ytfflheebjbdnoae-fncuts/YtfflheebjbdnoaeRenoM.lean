/-
  MaySend OF BOTH SIDES.
-/
import Derived.Test.YtfflheebjbdnoaeRenoN
import Derived.Deep.Quiet
import Derived.Deep.QuietTactic
import Derived.BigQuiet
namespace Go.Proofs.Ytfflheebjbdnoae
open Go.RowKit
set_option linter.unusedVariables false

set_option maxRecDepth 20000 in
set_option maxHeartbeats 2000000 in
theorem imaySend_any (r : Rn) (win : Int) (w : World) :
    Calls Try.prog 14 #[r.val, .int .i64 win] w fun e w' => e = .returned (.int .i64 (mayF r win)) ∧ Below w.heap.size w w' := by
  have S0 : Hid (Sits (w.alloc (.cells (rnCells r) 24)) w.heap.size (rnCells r) 24) := Sits.new _ _ _
  have B0 : Hid (Below w.heap.size w (w.alloc (.cells (rnCells r) 24))) := (Below.refl _ _).alloc (Nat.le_refl _) _
  cases hg : r.good
  case false =>
    have hm : mayF r win = 0 := by unfold mayF; simp [hg]
    rw [hm]
    go_enter Try.func14, Try.ntmps14
    go_wp2_with (first | (go_at_call 12; refine (irenoOk_any r _).mono ?_; rintro e w1 ⟨rfl, b1⟩; rw [hg]; obtain ⟨q0, q1, q2, q3, q4, q5, q6, q7, q8, q9⟩ := rn_cells (Sits.below S0.out b1 (by simp)); have S1 : Hid (Sits w1 w.heap.size (rnCells r) 24) := Sits.below S0.out b1 (by simp); replace b1 := B0.out.trans (b1.mono (by simp))))
    go_ret
    exact ⟨rfl, b1⟩
  case true =>
  by_cases hw : win < 0
  · have hm : mayF r win = 0 := by unfold mayF; rw [if_neg (by omega)]
    rw [hm]
    go_enter Try.func14, Try.ntmps14
    go_wp2_with (first | (go_at_call 12; refine (irenoOk_any r _).mono ?_; rintro e w1 ⟨rfl, b1⟩; rw [hg]; obtain ⟨q0, q1, q2, q3, q4, q5, q6, q7, q8, q9⟩ := rn_cells (Sits.below S0.out b1 (by simp)); have S1 : Hid (Sits w1 w.heap.size (rnCells r) 24) := Sits.below S0.out b1 (by simp); replace b1 := B0.out.trans (b1.mono (by simp))))
    go_ret
    exact ⟨rfl, b1⟩
  · have HF : Hid r.fit := good_fit hg
    have hf := good_fit hg
    unfold Rn.fit at hf
    have hm : mayF r win = (if (if win < r.cw then win else r.cw) - r.fl < 0 then 0 else (if win < r.cw then win else r.cw) - r.fl) := by unfold mayF; rw [if_pos ⟨hg, by omega⟩]
    have hfl : 0 ≤ r.fl ∧ r.fl ≤ 1000000000000 := by unfold Rn.fl; omega
    obtain ⟨f, hfe⟩ : ∃ f, r.fl = f := ⟨_, rfl⟩
    have hfe' : r.nx - r.una = f := hfe
    rw [hfe] at hm hfl
    have HM : Hid _ := hm
    clear hm
    obtain ⟨f0, f1⟩ := hfl
    by_cases c1 : win < r.cw
    · have HE : Hid (mayF r win = (if win - f < 0 then 0 else win - f)) := by show _ = _; rw [HM.out]; simp [c1]
      clear HM
      have e1 : IntKind.i64.wrap (r.nx - r.una) = f := by rw [hfe']; exact wrap_id (by omega) (by omega)
      have e2 : IntKind.i64.wrap (win - f) = win - f := wrap_id (by omega) (by omega)
      go_enter Try.func14, Try.ntmps14
      go_wp2_with (first | (go_at_call 12; refine (irenoOk_any r _).mono ?_; rintro e w1 ⟨rfl, b1⟩; rw [hg]; obtain ⟨q0, q1, q2, q3, q4, q5, q6, q7, q8, q9⟩ := rn_cells (Sits.below S0.out b1 (by simp)); have S1 : Hid (Sits w1 w.heap.size (rnCells r) 24) := Sits.below S0.out b1 (by simp); replace b1 := B0.out.trans (b1.mono (by simp))))
      refine wp_region_quiet (C := fun w' => Below w1.heap.size w1 w') (by kernel_rfl) (by kernel_rfl) ((Below.refl _ _).drew) ?_
      simp only []
      repeat (first
        | go_big_quiet_skip
        | (go_big_quiet_want
           unfold Oper.quiet
           apply Exists.intro
           refine ⟨fun w' hw' => ?_, ?_⟩
           (obtain ⟨q0, q1, q2, q3, q4, q5, q6, q7, q8, q9⟩ := rn_cells (Sits.below S1.out hw' (Sits.lt S1.out))
            go_simp
            first
              | (go_at_call 33; refine (underWay_any r HF.out _).mono ?_; rintro e w8 ⟨rfl, hb8⟩; rw [hfe]; exact ⟨rfl, hw'.trans (hb8.mono hw'.size)⟩)
              | exact rfl)
           simp only [Act.put, List.setIfInBounds_toArray, List.set_cons_zero, List.set_cons_succ]
           go_big_quiet_on))
      refine wpQuiet_nil ?_
      intro w2 hw2
      go_wp2
      all_goals
        go_ret
        refine ⟨ret_int ?_, b1.trans (hw2.mono b1.size)⟩
        rw [HE.out]
        clear HE S0 B0 S1 HF q0 q1 q2 q3 q4 q5 q6 q7 q8 q9
        simp only [IntKind.wrap_i64] at *
        (repeat' split) <;> omega
    · have HE : Hid (mayF r win = (if r.cw - f < 0 then 0 else r.cw - f)) := by show _ = _; rw [HM.out]; simp [c1]
      clear HM
      have e1 : IntKind.i64.wrap (r.nx - r.una) = f := by rw [hfe']; exact wrap_id (by omega) (by omega)
      have e2 : IntKind.i64.wrap (r.cw - f) = r.cw - f := wrap_id (by omega) (by omega)
      go_enter Try.func14, Try.ntmps14
      go_wp2_with (first | (go_at_call 12; refine (irenoOk_any r _).mono ?_; rintro e w1 ⟨rfl, b1⟩; rw [hg]; obtain ⟨q0, q1, q2, q3, q4, q5, q6, q7, q8, q9⟩ := rn_cells (Sits.below S0.out b1 (by simp)); have S1 : Hid (Sits w1 w.heap.size (rnCells r) 24) := Sits.below S0.out b1 (by simp); replace b1 := B0.out.trans (b1.mono (by simp))))
      refine wp_region_quiet (C := fun w' => Below w1.heap.size w1 w') (by kernel_rfl) (by kernel_rfl) ((Below.refl _ _).drew) ?_
      simp only []
      repeat (first
        | go_big_quiet_skip
        | (go_big_quiet_want
           unfold Oper.quiet
           apply Exists.intro
           refine ⟨fun w' hw' => ?_, ?_⟩
           (obtain ⟨q0, q1, q2, q3, q4, q5, q6, q7, q8, q9⟩ := rn_cells (Sits.below S1.out hw' (Sits.lt S1.out))
            go_simp
            first
              | (go_at_call 33; refine (underWay_any r HF.out _).mono ?_; rintro e w8 ⟨rfl, hb8⟩; rw [hfe]; exact ⟨rfl, hw'.trans (hb8.mono hw'.size)⟩)
              | exact rfl)
           simp only [Act.put, List.setIfInBounds_toArray, List.set_cons_zero, List.set_cons_succ]
           go_big_quiet_on))
      refine wpQuiet_nil ?_
      intro w2 hw2
      go_wp2
      all_goals
        go_ret
        refine ⟨ret_int ?_, b1.trans (hw2.mono b1.size)⟩
        rw [HE.out]
        clear HE S0 B0 S1 HF q0 q1 q2 q3 q4 q5 q6 q7 q8 q9
        simp only [IntKind.wrap_i64] at *
        (repeat' split) <;> omega

set_option maxRecDepth 20000 in
set_option maxHeartbeats 2000000 in
theorem smaySend_any (r : Rn) (win : Int) (w : World) :
    Calls Try.prog 48 #[r.val, .int .i64 win] w fun e w' => e = .returned (.int .i64 (mayF r win)) ∧ Below w.heap.size w w' := by
  have S0 : Hid (Sits (w.alloc (.cells (rnCells r) 24)) w.heap.size (rnCells r) 24) := Sits.new _ _ _
  have B0 : Hid (Below w.heap.size w (w.alloc (.cells (rnCells r) 24))) := (Below.refl _ _).alloc (Nat.le_refl _) _
  cases hg : r.good
  case false =>
    have hm : mayF r win = 0 := by unfold mayF; simp [hg]
    rw [hm]
    go_enter Try.func48, Try.ntmps48
    go_wp2_with (first | (go_at_call 10; refine (srenoOk_any r _).mono ?_; rintro e w1 ⟨rfl, b1⟩; rw [hg]; obtain ⟨q0, q1, q2, q3, q4, q5, q6, q7, q8, q9⟩ := rn_cells (Sits.below S0.out b1 (by simp)); have S1 : Hid (Sits w1 w.heap.size (rnCells r) 24) := Sits.below S0.out b1 (by simp); replace b1 := B0.out.trans (b1.mono (by simp))))
    go_ret
    exact ⟨rfl, b1⟩
  case true =>
  by_cases hw : win < 0
  · have hm : mayF r win = 0 := by unfold mayF; rw [if_neg (by omega)]
    rw [hm]
    go_enter Try.func48, Try.ntmps48
    go_wp2_with (first | (go_at_call 10; refine (srenoOk_any r _).mono ?_; rintro e w1 ⟨rfl, b1⟩; rw [hg]; obtain ⟨q0, q1, q2, q3, q4, q5, q6, q7, q8, q9⟩ := rn_cells (Sits.below S0.out b1 (by simp)); have S1 : Hid (Sits w1 w.heap.size (rnCells r) 24) := Sits.below S0.out b1 (by simp); replace b1 := B0.out.trans (b1.mono (by simp))))
    go_ret
    exact ⟨rfl, b1⟩
  · have HF : Hid r.fit := good_fit hg
    have hf := good_fit hg
    unfold Rn.fit at hf
    have hm : mayF r win = (if (if win < r.cw then win else r.cw) - r.fl < 0 then 0 else (if win < r.cw then win else r.cw) - r.fl) := by unfold mayF; rw [if_pos ⟨hg, by omega⟩]
    have hfl : 0 ≤ r.fl ∧ r.fl ≤ 1000000000000 := by unfold Rn.fl; omega
    obtain ⟨f, hfe⟩ : ∃ f, r.fl = f := ⟨_, rfl⟩
    have hfe' : r.nx - r.una = f := hfe
    rw [hfe] at hm hfl
    have HM : Hid _ := hm
    clear hm
    obtain ⟨f0, f1⟩ := hfl
    by_cases c1 : win < r.cw
    · have HE : Hid (mayF r win = (if win - f < 0 then 0 else win - f)) := by show _ = _; rw [HM.out]; simp [c1]
      clear HM
      have e1 : IntKind.i64.wrap (r.nx - r.una) = f := by rw [hfe']; exact wrap_id (by omega) (by omega)
      have e2 : IntKind.i64.wrap (win - f) = win - f := wrap_id (by omega) (by omega)
      go_enter Try.func48, Try.ntmps48
      go_wp2_with (first | (go_at_call 10; refine (srenoOk_any r _).mono ?_; rintro e w1 ⟨rfl, b1⟩; rw [hg]; obtain ⟨q0, q1, q2, q3, q4, q5, q6, q7, q8, q9⟩ := rn_cells (Sits.below S0.out b1 (by simp)); have S1 : Hid (Sits w1 w.heap.size (rnCells r) 24) := Sits.below S0.out b1 (by simp); replace b1 := B0.out.trans (b1.mono (by simp))))
      refine wp_region_quiet (C := fun w' => Below w1.heap.size w1 w') (by kernel_rfl) (by kernel_rfl) ((Below.refl _ _).drew) ?_
      simp only []
      repeat (first
        | go_big_quiet_skip
        | (go_big_quiet_want
           unfold Oper.quiet
           apply Exists.intro
           refine ⟨fun w' hw' => ?_, ?_⟩
           (obtain ⟨q0, q1, q2, q3, q4, q5, q6, q7, q8, q9⟩ := rn_cells (Sits.below S1.out hw' (Sits.lt S1.out))
            go_simp
            first
              | (go_at_call 47; refine (less_any _ _ _).mono ?_; rintro e w8 ⟨rfl, rfl⟩; exact ⟨rfl, hw'⟩)
              | (go_at_call 46; refine (more_any _ _ _).mono ?_; rintro e w8 ⟨rfl, rfl⟩; exact ⟨rfl, hw'⟩)
              | exact rfl)
           simp only [Act.put, List.setIfInBounds_toArray, List.set_cons_zero, List.set_cons_succ]
           go_big_quiet_on))
      refine wpQuiet_nil ?_
      intro w2 hw2
      go_wp2
      all_goals
        go_ret
        refine ⟨ret_int ?_, b1.trans (hw2.mono b1.size)⟩
        rw [HE.out]
        clear HE S0 B0 S1 HF q0 q1 q2 q3 q4 q5 q6 q7 q8 q9
        simp only [IntKind.wrap_i64] at *
        (repeat' split) <;> omega
    · have HE : Hid (mayF r win = (if r.cw - f < 0 then 0 else r.cw - f)) := by show _ = _; rw [HM.out]; simp [c1]
      clear HM
      have e1 : IntKind.i64.wrap (r.nx - r.una) = f := by rw [hfe']; exact wrap_id (by omega) (by omega)
      have e2 : IntKind.i64.wrap (r.cw - f) = r.cw - f := wrap_id (by omega) (by omega)
      go_enter Try.func48, Try.ntmps48
      go_wp2_with (first | (go_at_call 10; refine (srenoOk_any r _).mono ?_; rintro e w1 ⟨rfl, b1⟩; rw [hg]; obtain ⟨q0, q1, q2, q3, q4, q5, q6, q7, q8, q9⟩ := rn_cells (Sits.below S0.out b1 (by simp)); have S1 : Hid (Sits w1 w.heap.size (rnCells r) 24) := Sits.below S0.out b1 (by simp); replace b1 := B0.out.trans (b1.mono (by simp))))
      refine wp_region_quiet (C := fun w' => Below w1.heap.size w1 w') (by kernel_rfl) (by kernel_rfl) ((Below.refl _ _).drew) ?_
      simp only []
      repeat (first
        | go_big_quiet_skip
        | (go_big_quiet_want
           unfold Oper.quiet
           apply Exists.intro
           refine ⟨fun w' hw' => ?_, ?_⟩
           (obtain ⟨q0, q1, q2, q3, q4, q5, q6, q7, q8, q9⟩ := rn_cells (Sits.below S1.out hw' (Sits.lt S1.out))
            go_simp
            first
              | (go_at_call 47; refine (less_any _ _ _).mono ?_; rintro e w8 ⟨rfl, rfl⟩; exact ⟨rfl, hw'⟩)
              | (go_at_call 46; refine (more_any _ _ _).mono ?_; rintro e w8 ⟨rfl, rfl⟩; exact ⟨rfl, hw'⟩)
              | exact rfl)
           simp only [Act.put, List.setIfInBounds_toArray, List.set_cons_zero, List.set_cons_succ]
           go_big_quiet_on))
      refine wpQuiet_nil ?_
      intro w2 hw2
      go_wp2
      all_goals
        go_ret
        refine ⟨ret_int ?_, b1.trans (hw2.mono b1.size)⟩
        rw [HE.out]
        clear HE S0 B0 S1 HF q0 q1 q2 q3 q4 q5 q6 q7 q8 q9
        simp only [IntKind.wrap_i64] at *
        (repeat' split) <;> omega

end Go.Proofs.Ytfflheebjbdnoae
