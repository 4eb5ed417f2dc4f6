/-
  THE SPECIFICATION's l9ack, through a pointer.
-/
import Derived.Test.YtfflheebjbdnoaeRenoP
namespace Go.Proofs.Ytfflheebjbdnoae
open Go.RowKit
set_option linter.unusedVariables false

set_option maxRecDepth 100000 in
set_option maxHeartbeats 4000000 in
theorem l9ack_any (B : Nat) (r : Rn) (ack : Int) (hg : r.good = true) (h0 : r.una < ack) (h1 : ack ≤ r.nx) (w : World) (hS : Sits w B (rnCells r) 24) :
    Calls Try.prog 58 #[.pointer (some ⟨B, 0, none⟩), .int .i64 ack] w fun e w' => e = .returned (.tuple #[]) ∧ Sits w' B (rnCells (r.prog (ack - r.una))) 24 ∧ Only B w w' := by
  obtain ⟨g1, g2, g3, g4, g5, g6, g7, g8, g9, g10, g11, g12, g13, g14, g15, g16, g17, g18⟩ := r.good_iff.1 hg
  clear g18 hg
  obtain ⟨b, hb⟩ : ∃ b, ack - r.una = b := ⟨_, rfl⟩
  have hab : r.una + b = ack := by omega
  rw [hb]
  have S0 : Hid (Sits w B (rnCells r) 24) := hS
  have O0 : Hid (Only B w w) := Only.refl _ _
  clear hS
  cases hi : r.inn
  case false =>
    have hv : r.prog b = Rn.grow (Rn.mk r.mss r.cw r.th r.ac ack r.nx 0 r.rc r.inn r.cut) b := by unfold Rn.prog; rw [if_neg (by rw [hi]; decide), hab]
    rw [hv]
    have HF : Hid (Rn.fit (Rn.mk r.mss r.cw r.th r.ac ack r.nx 0 r.rc r.inn r.cut)) := by show Rn.fit _; unfold Rn.fit; dsimp only; omega
    clear hv
    go_enter Try.func58, Try.ntmps58
    obtain ⟨q0, q1, q2, q3, q4, q5, q6, q7, q8, q9⟩ := rn_cells S0.out
    have fs := Sits.frozen S0.out
    (try dsimp only at q0 q1 q2 q3 q4 q5 q6 q7 q8 q9)
    go_upto_region 3 with fail
    obtain ⟨w1, hW⟩ : ∃ x, ((w.setCell ⟨B, 4, none⟩ (.int .i64 ack)).setCell ⟨B, 6, none⟩ (.int .i64 0)) = x := ⟨_, rfl⟩
    have S1 : Hid (Sits w1 B (rnCells (Rn.mk r.mss r.cw r.th r.ac ack r.nx 0 r.rc r.inn r.cut)) 24) := by rw [← hW]; exact rn_s6 (rn_s4 (S0.out) _) _
    have O1 : Hid (Only B w w1) := by rw [← hW]; exact Only.set (Only.set (O0.out) 4 _) 6 _
    rw [hW]
    clear hW S0 O0
    clear q0 q1 q2 q3 q4 q5 q6 q7 q8 q9 fs
    obtain ⟨q0, q1, q2, q3, q4, q5, q6, q7, q8, q9⟩ := rn_cells S1.out
    have fs := Sits.frozen S1.out
    (try dsimp only at q0 q1 q2 q3 q4 q5 q6 q7 q8 q9)
    go_wp2_with (go_at_call 61; refine (l9grow_any B (Rn.mk r.mss r.cw r.th r.ac ack r.nx 0 r.rc r.inn r.cut) b HF.out (by omega) (by omega) _ S1.out).mono ?_; rintro e w9 ⟨rfl, s9, o9⟩; have O9 : Hid (Only B w w9) := Only.trans O1.out o9; have S9 : Hid (Sits w9 B (rnCells (Rn.grow (Rn.mk r.mss r.cw r.th r.ac ack r.nx 0 r.rc r.inn r.cut) b)) 24) := s9; clear s9 o9)
    skip
    first | refine bodyPost_end (v := .tuple #[]) (by first | rfl | simp [results, go_sem] | simp [results, Try.results58, go_sem]) rfl ⟨rfl, ?_, O9.out⟩ | refine bodyPost_ret (v := .tuple #[]) (by first | rfl | simp [results, go_sem] | simp [results, Try.results58, go_sem]) rfl ⟨rfl, ?_, O9.out⟩
    first | exact S9.out | (rw [← hi]; exact S9.out)
  case true =>
    by_cases k : r.rc ≤ ack
    · obtain ⟨f, hfe⟩ : ∃ f, r.nx - ack = f := ⟨_, rfl⟩
      obtain ⟨M, hM⟩ : ∃ M, (if r.mss < f then f else r.mss) = M := ⟨_, rfl⟩
      have hMb : 0 ≤ M ∧ M ≤ 1000000010000 ∧ r.mss ≤ M := by rw [← hM]; split <;> omega
      obtain ⟨X, hX⟩ : ∃ X, (if r.th < M + r.mss then r.th else M + r.mss) = X := ⟨_, rfl⟩
      have hXb : r.mss ≤ X ∧ X ≤ 100000000 := by rw [← hX]; split <;> omega
      have hX2 : (if r.mss < X then X else r.mss) = X := by split <;> omega
      have hv : r.prog b = (Rn.mk r.mss X r.th r.ac ack r.nx 0 r.rc false r.cut) := by
        have e1 : maxI f r.mss = M := by rw [← hM]; unfold maxI; split <;> split <;> omega
        have e2 : minI r.th (r.mss + M) = X := by rw [← hX]; unfold minI; split <;> split <;> omega
        unfold Rn.prog; rw [if_pos hi, hab, if_pos k]; unfold Rn.recov Rn.fl; dsimp only; rw [hfe, e1, e2]
      rw [hv]
      have ew0 : IntKind.i64.wrap f = f := wrap_id (by omega) (by omega)
      have ew : IntKind.i64.wrap (M + r.mss) = M + r.mss := wrap_id (by omega) (by omega)
      clear hv
      go_enter Try.func58, Try.ntmps58
      obtain ⟨q0, q1, q2, q3, q4, q5, q6, q7, q8, q9⟩ := rn_cells S0.out
      have fs := Sits.frozen S0.out
      (try dsimp only at q0 q1 q2 q3 q4 q5 q6 q7 q8 q9)
      go_upto_region 3 with fail
      obtain ⟨w1, hW⟩ : ∃ x, ((w.setCell ⟨B, 4, none⟩ (.int .i64 ack)).setCell ⟨B, 6, none⟩ (.int .i64 0)) = x := ⟨_, rfl⟩
      have S1 : Hid (Sits w1 B (rnCells (Rn.mk r.mss r.cw r.th r.ac ack r.nx 0 r.rc r.inn r.cut)) 24) := by rw [← hW]; exact rn_s6 (rn_s4 (S0.out) _) _
      have O1 : Hid (Only B w w1) := by rw [← hW]; exact Only.set (Only.set (O0.out) 4 _) 6 _
      rw [hW]
      clear hW S0 O0
      clear q0 q1 q2 q3 q4 q5 q6 q7 q8 q9 fs
      obtain ⟨q0, q1, q2, q3, q4, q5, q6, q7, q8, q9⟩ := rn_cells S1.out
      have fs := Sits.frozen S1.out
      (try dsimp only at q0 q1 q2 q3 q4 q5 q6 q7 q8 q9)
      go_upto_region 7 with fail
      obtain ⟨w2, hW⟩ : ∃ x, (w1.setCell ⟨B, 8, none⟩ (.bool false)) = x := ⟨_, rfl⟩
      have S2 : Hid (Sits w2 B (rnCells (Rn.mk r.mss r.cw r.th r.ac ack r.nx 0 r.rc false r.cut)) 24) := by rw [← hW]; exact rn_s8 (S1.out) _
      have O2 : Hid (Only B w w2) := by rw [← hW]; exact Only.set (O1.out) 8 _
      rw [hW]
      clear hW S1 O1
      clear q0 q1 q2 q3 q4 q5 q6 q7 q8 q9 fs
      obtain ⟨q0, q1, q2, q3, q4, q5, q6, q7, q8, q9⟩ := rn_cells S2.out
      have fs := Sits.frozen S2.out
      (try dsimp only at q0 q1 q2 q3 q4 q5 q6 q7 q8 q9)
      go_upto_region 7 with fail
      refine wp_region_qtail 27 (C := fun w' => Below w2.heap.size w2 w') (by kernel_rfl) (by kernel_rfl) ((Below.refl _ _).drew) ?_
      simp only [List.take_succ_cons, List.take_zero, List.drop_succ_cons, List.drop_zero]
      repeat (first
        | go_big_quiet_skip
        | (go_big_quiet_want
           unfold Oper.quiet
           apply Exists.intro
           refine ⟨fun w' hw' => ?_, ?_⟩
           (obtain ⟨q0, q1, q2, q3, q4, q5, q6, q7, q8, q9⟩ := rn_cells (Sits.below S2.out hw' (Sits.lt S2.out))
            (try dsimp only at q0 q1 q2 q3 q4 q5 q6 q7 q8 q9)
            go_simp
            first
              | (go_at_call 47; refine (less_any _ _ _).mono ?_; rintro e w8 ⟨rfl, rfl⟩; rw [hX]; exact ⟨rfl, hw'⟩)
              | (go_at_call 46; refine (more_any _ _ _).mono ?_; rintro e w8 ⟨rfl, rfl⟩; rw [hM]; exact ⟨rfl, hw'⟩)
              | exact rfl)
           simp only [Act.put, List.setIfInBounds_toArray, List.set_cons_zero, List.set_cons_succ]
           go_big_quiet_on))
      refine wpQuiet_nil ?_
      intro w3 hw3
      have S3 : Hid (Sits w3 B (rnCells (Rn.mk r.mss r.cw r.th r.ac ack r.nx 0 r.rc false r.cut)) 24) := Sits.below S2.out hw3 (Sits.lt S2.out)
      have O3 : Hid (Only B w w3) := Only.trans O2.out (only_below hw3)
      clear hw3 S2 O2
      clear q0 q1 q2 q3 q4 q5 q6 q7 q8 q9 fs
      obtain ⟨q0, q1, q2, q3, q4, q5, q6, q7, q8, q9⟩ := rn_cells S3.out
      have fs := Sits.frozen S3.out
      (try dsimp only at q0 q1 q2 q3 q4 q5 q6 q7 q8 q9)
      go_upto_region 8 with fail
      obtain ⟨w4, hW⟩ : ∃ x, (w3.setCell ⟨B, 1, none⟩ (.int .i64 X)) = x := ⟨_, rfl⟩
      have S4 : Hid (Sits w4 B (rnCells (Rn.mk r.mss X r.th r.ac ack r.nx 0 r.rc false r.cut)) 24) := by rw [← hW]; exact rn_s1 (S3.out) _
      have O4 : Hid (Only B w w4) := by rw [← hW]; exact Only.set (O3.out) 1 _
      rw [hW]
      clear hW S3 O3
      clear q0 q1 q2 q3 q4 q5 q6 q7 q8 q9 fs
      obtain ⟨q0, q1, q2, q3, q4, q5, q6, q7, q8, q9⟩ := rn_cells S4.out
      have fs := Sits.frozen S4.out
      (try dsimp only at q0 q1 q2 q3 q4 q5 q6 q7 q8 q9)
      go_upto_region 8 with fail
      refine wp_region_qtail 12 (C := fun w' => Below w4.heap.size w4 w') (by kernel_rfl) (by kernel_rfl) ((Below.refl _ _).drew) ?_
      simp only [List.take_succ_cons, List.take_zero, List.drop_succ_cons, List.drop_zero]
      repeat (first
        | go_big_quiet_skip
        | (go_big_quiet_want
           unfold Oper.quiet
           apply Exists.intro
           refine ⟨fun w' hw' => ?_, ?_⟩
           (obtain ⟨q0, q1, q2, q3, q4, q5, q6, q7, q8, q9⟩ := rn_cells (Sits.below S4.out hw' (Sits.lt S4.out))
            (try dsimp only at q0 q1 q2 q3 q4 q5 q6 q7 q8 q9)
            go_simp
            first
              | (go_at_call 46; refine (more_any _ _ _).mono ?_; rintro e w8 ⟨rfl, rfl⟩; rw [hX2]; exact ⟨rfl, hw'⟩)
              | exact rfl)
           simp only [Act.put, List.setIfInBounds_toArray, List.set_cons_zero, List.set_cons_succ]
           go_big_quiet_on))
      refine wpQuiet_nil ?_
      intro w5 hw5
      have S5 : Hid (Sits w5 B (rnCells (Rn.mk r.mss X r.th r.ac ack r.nx 0 r.rc false r.cut)) 24) := Sits.below S4.out hw5 (Sits.lt S4.out)
      have O5 : Hid (Only B w w5) := Only.trans O4.out (only_below hw5)
      clear hw5 S4 O4
      clear q0 q1 q2 q3 q4 q5 q6 q7 q8 q9 fs
      obtain ⟨q0, q1, q2, q3, q4, q5, q6, q7, q8, q9⟩ := rn_cells S5.out
      have fs := Sits.frozen S5.out
      (try dsimp only at q0 q1 q2 q3 q4 q5 q6 q7 q8 q9)
      go_wp2
      first | refine bodyPost_end (v := .tuple #[]) (by first | rfl | simp [results, go_sem] | simp [results, Try.results58, go_sem]) rfl ⟨rfl, ?_, Only.set (O5.out) 1 _⟩ | refine bodyPost_ret (v := .tuple #[]) (by first | rfl | simp [results, go_sem] | simp [results, Try.results58, go_sem]) rfl ⟨rfl, ?_, Only.set (O5.out) 1 _⟩
      first | exact rn_s1 (S5.out) _ | (rw [← hi]; exact rn_s1 (S5.out) _)
    · obtain ⟨m, hm⟩ : ∃ m, (if b < r.cw - r.mss then b else r.cw - r.mss) = m := ⟨_, rfl⟩
      have hmb : 0 ≤ m ∧ m ≤ r.cw - r.mss := by rw [← hm]; split <;> omega
      have eM : maxI (r.cw - b) r.mss = r.cw - m := by rw [← hm]; unfold maxI; split <;> split <;> omega
      have ew0 : IntKind.i64.wrap (r.cw - r.mss) = r.cw - r.mss := wrap_id (by omega) (by omega)
      have ew1 : IntKind.i64.wrap (r.cw - m) = r.cw - m := wrap_id (by omega) (by omega)
      by_cases k2 : b < r.mss
      · have hv : r.prog b = (Rn.mk r.mss (r.cw - m) r.th r.ac ack r.nx 0 r.rc r.inn r.cut) := by unfold Rn.prog; rw [if_pos hi, hab, if_neg k]; unfold Rn.part; dsimp only; rw [if_pos k2, eM]
        rw [hv]
        have k3 : ¬ r.mss ≤ b := by omega
        clear hv
        go_enter Try.func58, Try.ntmps58
        obtain ⟨q0, q1, q2, q3, q4, q5, q6, q7, q8, q9⟩ := rn_cells S0.out
        have fs := Sits.frozen S0.out
        (try dsimp only at q0 q1 q2 q3 q4 q5 q6 q7 q8 q9)
        go_upto_region 3 with fail
        obtain ⟨w1, hW⟩ : ∃ x, ((w.setCell ⟨B, 4, none⟩ (.int .i64 ack)).setCell ⟨B, 6, none⟩ (.int .i64 0)) = x := ⟨_, rfl⟩
        have S1 : Hid (Sits w1 B (rnCells (Rn.mk r.mss r.cw r.th r.ac ack r.nx 0 r.rc r.inn r.cut)) 24) := by rw [← hW]; exact rn_s6 (rn_s4 (S0.out) _) _
        have O1 : Hid (Only B w w1) := by rw [← hW]; exact Only.set (Only.set (O0.out) 4 _) 6 _
        rw [hW]
        clear hW S0 O0
        clear q0 q1 q2 q3 q4 q5 q6 q7 q8 q9 fs
        obtain ⟨q0, q1, q2, q3, q4, q5, q6, q7, q8, q9⟩ := rn_cells S1.out
        have fs := Sits.frozen S1.out
        (try dsimp only at q0 q1 q2 q3 q4 q5 q6 q7 q8 q9)
        go_upto_region 9 with fail
        refine wp_region_qtail 19 (C := fun w' => Below w1.heap.size w1 w') (by kernel_rfl) (by kernel_rfl) ((Below.refl _ _).drew) ?_
        simp only [List.take_succ_cons, List.take_zero, List.drop_succ_cons, List.drop_zero]
        repeat (first
          | go_big_quiet_skip
          | (go_big_quiet_want
             unfold Oper.quiet
             apply Exists.intro
             refine ⟨fun w' hw' => ?_, ?_⟩
             (obtain ⟨q0, q1, q2, q3, q4, q5, q6, q7, q8, q9⟩ := rn_cells (Sits.below S1.out hw' (Sits.lt S1.out))
              (try dsimp only at q0 q1 q2 q3 q4 q5 q6 q7 q8 q9)
              go_simp
              first
                | (go_at_call 47; refine (less_any _ _ _).mono ?_; rintro e w8 ⟨rfl, rfl⟩; rw [hm]; exact ⟨rfl, hw'⟩)
                | exact rfl)
             simp only [Act.put, List.setIfInBounds_toArray, List.set_cons_zero, List.set_cons_succ]
             go_big_quiet_on))
        refine wpQuiet_nil ?_
        intro w2 hw2
        have S2 : Hid (Sits w2 B (rnCells (Rn.mk r.mss r.cw r.th r.ac ack r.nx 0 r.rc r.inn r.cut)) 24) := Sits.below S1.out hw2 (Sits.lt S1.out)
        have O2 : Hid (Only B w w2) := Only.trans O1.out (only_below hw2)
        clear hw2 S1 O1
        clear q0 q1 q2 q3 q4 q5 q6 q7 q8 q9 fs
        obtain ⟨q0, q1, q2, q3, q4, q5, q6, q7, q8, q9⟩ := rn_cells S2.out
        have fs := Sits.frozen S2.out
        (try dsimp only at q0 q1 q2 q3 q4 q5 q6 q7 q8 q9)
        go_upto_region 10 with fail
        obtain ⟨w3, hW⟩ : ∃ x, (w2.setCell ⟨B, 1, none⟩ (.int .i64 (r.cw - m))) = x := ⟨_, rfl⟩
        have S3 : Hid (Sits w3 B (rnCells (Rn.mk r.mss (r.cw - m) r.th r.ac ack r.nx 0 r.rc r.inn r.cut)) 24) := by rw [← hW]; exact rn_s1 (S2.out) _
        have O3 : Hid (Only B w w3) := by rw [← hW]; exact Only.set (O2.out) 1 _
        rw [hW]
        clear hW S2 O2
        clear q0 q1 q2 q3 q4 q5 q6 q7 q8 q9 fs
        obtain ⟨q0, q1, q2, q3, q4, q5, q6, q7, q8, q9⟩ := rn_cells S3.out
        have fs := Sits.frozen S3.out
        (try dsimp only at q0 q1 q2 q3 q4 q5 q6 q7 q8 q9)
        go_wp2
        first | refine bodyPost_end (v := .tuple #[]) (by first | rfl | simp [results, go_sem] | simp [results, Try.results58, go_sem]) rfl ⟨rfl, ?_, O3.out⟩ | refine bodyPost_ret (v := .tuple #[]) (by first | rfl | simp [results, go_sem] | simp [results, Try.results58, go_sem]) rfl ⟨rfl, ?_, O3.out⟩
        first | exact S3.out | (rw [← hi]; exact S3.out)
      · obtain ⟨X, hX⟩ : ∃ X, (if r.cw - m + r.mss < 100000000 then r.cw - m + r.mss else 100000000) = X := ⟨_, rfl⟩
        have hv : r.prog b = (Rn.mk r.mss X r.th r.ac ack r.nx 0 r.rc r.inn r.cut) := by
          have e2 : minI (r.cw - m + r.mss) 100000000 = X := by rw [← hX]; unfold minI; split <;> split <;> omega
          unfold Rn.prog; rw [if_pos hi, hab, if_neg k]; unfold Rn.part; dsimp only; rw [if_neg k2, eM]; unfold Rn.widen; dsimp only; rw [e2]
        rw [hv]
        have k3 : r.mss ≤ b := by omega
        have ew2 : IntKind.i64.wrap (r.cw - m + r.mss) = r.cw - m + r.mss := wrap_id (by omega) (by omega)
        clear hv
        go_enter Try.func58, Try.ntmps58
        obtain ⟨q0, q1, q2, q3, q4, q5, q6, q7, q8, q9⟩ := rn_cells S0.out
        have fs := Sits.frozen S0.out
        (try dsimp only at q0 q1 q2 q3 q4 q5 q6 q7 q8 q9)
        go_upto_region 3 with fail
        obtain ⟨w1, hW⟩ : ∃ x, ((w.setCell ⟨B, 4, none⟩ (.int .i64 ack)).setCell ⟨B, 6, none⟩ (.int .i64 0)) = x := ⟨_, rfl⟩
        have S1 : Hid (Sits w1 B (rnCells (Rn.mk r.mss r.cw r.th r.ac ack r.nx 0 r.rc r.inn r.cut)) 24) := by rw [← hW]; exact rn_s6 (rn_s4 (S0.out) _) _
        have O1 : Hid (Only B w w1) := by rw [← hW]; exact Only.set (Only.set (O0.out) 4 _) 6 _
        rw [hW]
        clear hW S0 O0
        clear q0 q1 q2 q3 q4 q5 q6 q7 q8 q9 fs
        obtain ⟨q0, q1, q2, q3, q4, q5, q6, q7, q8, q9⟩ := rn_cells S1.out
        have fs := Sits.frozen S1.out
        (try dsimp only at q0 q1 q2 q3 q4 q5 q6 q7 q8 q9)
        go_upto_region 9 with fail
        refine wp_region_qtail 19 (C := fun w' => Below w1.heap.size w1 w') (by kernel_rfl) (by kernel_rfl) ((Below.refl _ _).drew) ?_
        simp only [List.take_succ_cons, List.take_zero, List.drop_succ_cons, List.drop_zero]
        repeat (first
          | go_big_quiet_skip
          | (go_big_quiet_want
             unfold Oper.quiet
             apply Exists.intro
             refine ⟨fun w' hw' => ?_, ?_⟩
             (obtain ⟨q0, q1, q2, q3, q4, q5, q6, q7, q8, q9⟩ := rn_cells (Sits.below S1.out hw' (Sits.lt S1.out))
              (try dsimp only at q0 q1 q2 q3 q4 q5 q6 q7 q8 q9)
              go_simp
              first
                | (go_at_call 47; refine (less_any _ _ _).mono ?_; rintro e w8 ⟨rfl, rfl⟩; rw [hm]; exact ⟨rfl, hw'⟩)
                | exact rfl)
             simp only [Act.put, List.setIfInBounds_toArray, List.set_cons_zero, List.set_cons_succ]
             go_big_quiet_on))
        refine wpQuiet_nil ?_
        intro w2 hw2
        have S2 : Hid (Sits w2 B (rnCells (Rn.mk r.mss r.cw r.th r.ac ack r.nx 0 r.rc r.inn r.cut)) 24) := Sits.below S1.out hw2 (Sits.lt S1.out)
        have O2 : Hid (Only B w w2) := Only.trans O1.out (only_below hw2)
        clear hw2 S1 O1
        clear q0 q1 q2 q3 q4 q5 q6 q7 q8 q9 fs
        obtain ⟨q0, q1, q2, q3, q4, q5, q6, q7, q8, q9⟩ := rn_cells S2.out
        have fs := Sits.frozen S2.out
        (try dsimp only at q0 q1 q2 q3 q4 q5 q6 q7 q8 q9)
        go_upto_region 11 with fail
        obtain ⟨w3, hW⟩ : ∃ x, (w2.setCell ⟨B, 1, none⟩ (.int .i64 (r.cw - m))) = x := ⟨_, rfl⟩
        have S3 : Hid (Sits w3 B (rnCells (Rn.mk r.mss (r.cw - m) r.th r.ac ack r.nx 0 r.rc r.inn r.cut)) 24) := by rw [← hW]; exact rn_s1 (S2.out) _
        have O3 : Hid (Only B w w3) := by rw [← hW]; exact Only.set (O2.out) 1 _
        rw [hW]
        clear hW S2 O2
        clear q0 q1 q2 q3 q4 q5 q6 q7 q8 q9 fs
        obtain ⟨q0, q1, q2, q3, q4, q5, q6, q7, q8, q9⟩ := rn_cells S3.out
        have fs := Sits.frozen S3.out
        (try dsimp only at q0 q1 q2 q3 q4 q5 q6 q7 q8 q9)
        go_upto_region 11 with fail
        refine wp_region_qtail 13 (C := fun w' => Below w3.heap.size w3 w') (by kernel_rfl) (by kernel_rfl) ((Below.refl _ _).drew) ?_
        simp only [List.take_succ_cons, List.take_zero, List.drop_succ_cons, List.drop_zero]
        repeat (first
          | go_big_quiet_skip
          | (go_big_quiet_want
             unfold Oper.quiet
             apply Exists.intro
             refine ⟨fun w' hw' => ?_, ?_⟩
             (obtain ⟨q0, q1, q2, q3, q4, q5, q6, q7, q8, q9⟩ := rn_cells (Sits.below S3.out hw' (Sits.lt S3.out))
              (try dsimp only at q0 q1 q2 q3 q4 q5 q6 q7 q8 q9)
              go_simp
              first
                | (go_at_call 47; refine (less_any _ _ _).mono ?_; rintro e w8 ⟨rfl, rfl⟩; rw [hX]; exact ⟨rfl, hw'⟩)
                | exact rfl)
             simp only [Act.put, List.setIfInBounds_toArray, List.set_cons_zero, List.set_cons_succ]
             go_big_quiet_on))
        refine wpQuiet_nil ?_
        intro w4 hw4
        have S4 : Hid (Sits w4 B (rnCells (Rn.mk r.mss (r.cw - m) r.th r.ac ack r.nx 0 r.rc r.inn r.cut)) 24) := Sits.below S3.out hw4 (Sits.lt S3.out)
        have O4 : Hid (Only B w w4) := Only.trans O3.out (only_below hw4)
        clear hw4 S3 O3
        clear q0 q1 q2 q3 q4 q5 q6 q7 q8 q9 fs
        obtain ⟨q0, q1, q2, q3, q4, q5, q6, q7, q8, q9⟩ := rn_cells S4.out
        have fs := Sits.frozen S4.out
        (try dsimp only at q0 q1 q2 q3 q4 q5 q6 q7 q8 q9)
        go_wp2
        first | refine bodyPost_end (v := .tuple #[]) (by first | rfl | simp [results, go_sem] | simp [results, Try.results58, go_sem]) rfl ⟨rfl, ?_, Only.set (O4.out) 1 _⟩ | refine bodyPost_ret (v := .tuple #[]) (by first | rfl | simp [results, go_sem] | simp [results, Try.results58, go_sem]) rfl ⟨rfl, ?_, Only.set (O4.out) 1 _⟩
        first | exact rn_s1 (S4.out) _ | (rw [← hi]; exact rn_s1 (S4.out) _)

end Go.Proofs.Ytfflheebjbdnoae
