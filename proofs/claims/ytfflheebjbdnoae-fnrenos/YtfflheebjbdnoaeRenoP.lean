/-
  THE SPECIFICATION's l9grow, l9echo, l9dup, through a pointer.
-/
import Derived.Test.YtfflheebjbdnoaeRenoO
import Derived.Test.YtfflheebjbdnoaeRenoG
import Derived.Test.YtfflheebjbdnoaeQTail
import Derived.Test.YtfflheebjbdnoaeDrawR0
namespace Go.Proofs.Ytfflheebjbdnoae
open Go.RowKit
set_option linter.unusedVariables false

theorem only_below {B : Nat} {w w' : World} (h : Below w.heap.size w w') : Only B w w' := ⟨h.os, h.tape, h.output, h.size, fun k hk _ => h.block k hk⟩

set_option maxRecDepth 100000 in
set_option maxHeartbeats 4000000 in
theorem l9grow_any (B : Nat) (r : Rn) (b : Int) (hf : r.fit) (b0 : 0 ≤ b) (b1 : b ≤ 1000000000000) (w : World) (hS : Sits w B (rnCells r) 24) :
    Calls Try.prog 61 #[.pointer (some ⟨B, 0, none⟩), .int .i64 b] w fun e w' => e = .returned (.tuple #[]) ∧ Sits w' B (rnCells (r.grow b)) 24 ∧ Only B w w' := by
  unfold Rn.fit at hf
  have S0 : Hid (Sits w B (rnCells r) 24) := hS
  have O0 : Hid (Only B w w) := Only.refl _ _
  clear hS
  by_cases k : r.cw < r.th
  · obtain ⟨m, hm⟩ : ∃ m, (if b < r.mss then b else r.mss) = m := ⟨_, rfl⟩
    have hmb : 0 ≤ m ∧ m ≤ 10000 := by rw [← hm]; split <;> omega
    obtain ⟨X, hX⟩ : ∃ X, (if r.cw + m < 100000000 then r.cw + m else 100000000) = X := ⟨_, rfl⟩
    have hv : r.grow b = (Rn.mk r.mss X r.th r.ac r.una r.nx r.du r.rc r.inn r.cut) := by
      have e1 : minI b r.mss = m := by rw [← hm]; unfold minI; split <;> split <;> omega
      have e2 : minI (r.cw + m) 100000000 = X := by rw [← hX]; unfold minI; split <;> split <;> omega
      unfold Rn.grow Rn.widen; rw [if_pos k, e1, e2]
    rw [hv]
    have ew : IntKind.i64.wrap (r.cw + m) = r.cw + m := wrap_id (by omega) (by omega)
    clear hv
    go_enter Try.func61, Try.ntmps61
    obtain ⟨q0, q1, q2, q3, q4, q5, q6, q7, q8, q9⟩ := rn_cells S0.out
    have fs := Sits.frozen S0.out
    (try dsimp only at q0 q1 q2 q3 q4 q5 q6 q7 q8 q9)
    go_upto_region 0 with fail
    refine wp_region_quiet (C := fun w' => Below w.heap.size w w') (by kernel_rfl) (by kernel_rfl) ((Below.refl _ _).drew) ?_
    simp only []
    repeat (first
      | go_big_quiet_skip
      | (go_big_quiet_want
         unfold Oper.quiet
         apply Exists.intro
         refine ⟨fun w' hw' => ?_, ?_⟩
         (obtain ⟨q0, q1, q2, q3, q4, q5, q6, q7, q8, q9⟩ := rn_cells (Sits.below S0.out hw' (Sits.lt S0.out))
          (try dsimp only at q0 q1 q2 q3 q4 q5 q6 q7 q8 q9)
          go_simp
          first
            | exact rfl)
         simp only [Act.put, List.setIfInBounds_toArray, List.set_cons_zero, List.set_cons_succ]
         go_big_quiet_on))
    refine wpQuiet_nil ?_
    intro w1 hw1
    have S1 : Hid (Sits w1 B (rnCells r) 24) := Sits.below S0.out hw1 (Sits.lt S0.out)
    have O1 : Hid (Only B w w1) := Only.trans O0.out (only_below hw1)
    clear hw1 S0 O0
    clear q0 q1 q2 q3 q4 q5 q6 q7 q8 q9 fs
    obtain ⟨q0, q1, q2, q3, q4, q5, q6, q7, q8, q9⟩ := rn_cells S1.out
    have fs := Sits.frozen S1.out
    (try dsimp only at q0 q1 q2 q3 q4 q5 q6 q7 q8 q9)
    go_upto_region 1 with fail
    refine wp_region_qtail 15 (C := fun w' => Below w1.heap.size w1 w') (by kernel_rfl) (by kernel_rfl) ((Below.refl _ _).drew) ?_
    simp only [List.take_succ_cons, List.take_zero, List.drop_succ_cons, List.drop_zero]
    repeat (first
      | go_big_quiet_skip
      | (go_big_quiet_want
         unfold Oper.quiet
         apply Exists.intro
         refine ⟨fun w' hw' => ?_, ?_⟩
         (obtain ⟨q0, q1, q2, q3, q4, q5, q6, q7, q8, q9⟩ := rn_cells (Sits.below S1.out hw' (Sits.lt S1.out))
          (try dsimp only at q0 q1 q2 q3 q4 q5 q6 q7 q8 q9)
          go_simp
          first
            | (go_at_call 47; refine (less_any _ _ _).mono ?_; rintro e w8 ⟨rfl, rfl⟩; first | rw [hm]; exact ⟨rfl, hw'⟩ | rw [hX]; exact ⟨rfl, hw'⟩)
            | exact rfl)
         simp only [Act.put, List.setIfInBounds_toArray, List.set_cons_zero, List.set_cons_succ]
         go_big_quiet_on))
    refine wpQuiet_nil ?_
    intro w2 hw2
    have S2 : Hid (Sits w2 B (rnCells r) 24) := Sits.below S1.out hw2 (Sits.lt S1.out)
    have O2 : Hid (Only B w w2) := Only.trans O1.out (only_below hw2)
    clear hw2 S1 O1
    clear q0 q1 q2 q3 q4 q5 q6 q7 q8 q9 fs
    obtain ⟨q0, q1, q2, q3, q4, q5, q6, q7, q8, q9⟩ := rn_cells S2.out
    have fs := Sits.frozen S2.out
    (try dsimp only at q0 q1 q2 q3 q4 q5 q6 q7 q8 q9)
    go_wp2
    first | refine bodyPost_end (v := .tuple #[]) (by first | rfl | simp [results, go_sem] | simp [results, Try.results61, go_sem]) rfl ⟨rfl, ?_, Only.set (O2.out) 1 _⟩ | refine bodyPost_ret (v := .tuple #[]) (by first | rfl | simp [results, go_sem] | simp [results, Try.results61, go_sem]) rfl ⟨rfl, ?_, Only.set (O2.out) 1 _⟩
    first | exact rn_s1 (S2.out) _ | (rw [← hi]; exact rn_s1 (S2.out) _)
  · obtain ⟨A, hA⟩ : ∃ A, (if r.ac + b < 100000000 then r.ac + b else 100000000) = A := ⟨_, rfl⟩
    have hAb : 0 ≤ A ∧ A ≤ 100000000 := by rw [← hA]; split <;> omega
    have eA : minI (r.ac + b) 100000000 = A := by rw [← hA]; unfold minI; split <;> split <;> omega
    by_cases k2 : A < r.cw
    · have hv : r.grow b = (Rn.mk r.mss r.cw r.th A r.una r.nx r.du r.rc r.inn r.cut) := by unfold Rn.grow; rw [if_neg k, eA, if_pos k2]
      rw [hv]
      have k3 : ¬ r.cw ≤ A := by omega
      clear hv eA
      go_enter Try.func61, Try.ntmps61
      obtain ⟨q0, q1, q2, q3, q4, q5, q6, q7, q8, q9⟩ := rn_cells S0.out
      have fs := Sits.frozen S0.out
      (try dsimp only at q0 q1 q2 q3 q4 q5 q6 q7 q8 q9)
      go_upto_region 0 with fail
      refine wp_region_quiet (C := fun w' => Below w.heap.size w w') (by kernel_rfl) (by kernel_rfl) ((Below.refl _ _).drew) ?_
      simp only []
      repeat (first
        | go_big_quiet_skip
        | (go_big_quiet_want
           unfold Oper.quiet
           apply Exists.intro
           refine ⟨fun w' hw' => ?_, ?_⟩
           (obtain ⟨q0, q1, q2, q3, q4, q5, q6, q7, q8, q9⟩ := rn_cells (Sits.below S0.out hw' (Sits.lt S0.out))
            (try dsimp only at q0 q1 q2 q3 q4 q5 q6 q7 q8 q9)
            go_simp
            first
              | exact rfl)
           simp only [Act.put, List.setIfInBounds_toArray, List.set_cons_zero, List.set_cons_succ]
           go_big_quiet_on))
      refine wpQuiet_nil ?_
      intro w1 hw1
      have S1 : Hid (Sits w1 B (rnCells r) 24) := Sits.below S0.out hw1 (Sits.lt S0.out)
      have O1 : Hid (Only B w w1) := Only.trans O0.out (only_below hw1)
      clear hw1 S0 O0
      clear q0 q1 q2 q3 q4 q5 q6 q7 q8 q9 fs
      obtain ⟨q0, q1, q2, q3, q4, q5, q6, q7, q8, q9⟩ := rn_cells S1.out
      have fs := Sits.frozen S1.out
      (try dsimp only at q0 q1 q2 q3 q4 q5 q6 q7 q8 q9)
      go_upto_region 3 with (go_at_call 47; refine (less_any _ _ _).mono ?_; rintro e w8 ⟨rfl, hw8⟩; replace hw8 := hw8.symm; subst hw8; rw [hA])
      obtain ⟨w2, hW⟩ : ∃ x, (w1.setCell ⟨B, 3, none⟩ (.int .i64 A)) = x := ⟨_, rfl⟩
      have S2 : Hid (Sits w2 B (rnCells (Rn.mk r.mss r.cw r.th A r.una r.nx r.du r.rc r.inn r.cut)) 24) := by rw [← hW]; exact rn_s3 (S1.out) _
      have O2 : Hid (Only B w w2) := by rw [← hW]; exact Only.set (O1.out) 3 _
      rw [hW]
      clear hW S1 O1
      clear q0 q1 q2 q3 q4 q5 q6 q7 q8 q9 fs
      obtain ⟨q0, q1, q2, q3, q4, q5, q6, q7, q8, q9⟩ := rn_cells S2.out
      have fs := Sits.frozen S2.out
      (try dsimp only at q0 q1 q2 q3 q4 q5 q6 q7 q8 q9)
      go_upto_region 3 with fail
      refine wp_region_quiet (C := fun w' => Below w2.heap.size w2 w') (by kernel_rfl) (by kernel_rfl) ((Below.refl _ _).drew) ?_
      simp only []
      repeat (first
        | go_big_quiet_skip
        | (go_big_quiet_want
           unfold Oper.quiet
           apply Exists.intro
           refine ⟨fun w' hw' => ?_, ?_⟩
           (obtain ⟨q0, q1, q2, q3, q4, q5, q6, q7, q8, q9⟩ := rn_cells (Sits.below S2.out hw' (Sits.lt S2.out))
            (try dsimp only at q0 q1 q2 q3 q4 q5 q6 q7 q8 q9)
            go_simp
            first
              | exact rfl)
           simp only [Act.put, List.setIfInBounds_toArray, List.set_cons_zero, List.set_cons_succ]
           go_big_quiet_on))
      refine wpQuiet_nil ?_
      intro w3 hw3
      have S3 : Hid (Sits w3 B (rnCells (Rn.mk r.mss r.cw r.th A r.una r.nx r.du r.rc r.inn r.cut)) 24) := Sits.below S2.out hw3 (Sits.lt S2.out)
      have O3 : Hid (Only B w w3) := Only.trans O2.out (only_below hw3)
      clear hw3 S2 O2
      clear q0 q1 q2 q3 q4 q5 q6 q7 q8 q9 fs
      obtain ⟨q0, q1, q2, q3, q4, q5, q6, q7, q8, q9⟩ := rn_cells S3.out
      have fs := Sits.frozen S3.out
      (try dsimp only at q0 q1 q2 q3 q4 q5 q6 q7 q8 q9)
      go_wp2
      first | refine bodyPost_end (v := .tuple #[]) (by first | rfl | simp [results, go_sem] | simp [results, Try.results61, go_sem]) rfl ⟨rfl, ?_, O3.out⟩ | refine bodyPost_ret (v := .tuple #[]) (by first | rfl | simp [results, go_sem] | simp [results, Try.results61, go_sem]) rfl ⟨rfl, ?_, O3.out⟩
      first | exact S3.out | (rw [← hi]; exact S3.out)
    · obtain ⟨X, hX⟩ : ∃ X, (if r.cw + r.mss < 100000000 then r.cw + r.mss else 100000000) = X := ⟨_, rfl⟩
      have hv : r.grow b = (Rn.mk r.mss X r.th (A - r.cw) r.una r.nx r.du r.rc r.inn r.cut) := by
        have e2 : minI (r.cw + r.mss) 100000000 = X := by rw [← hX]; unfold minI; split <;> split <;> omega
        unfold Rn.grow; rw [if_neg k, eA, if_neg k2]; unfold Rn.widen; dsimp only; rw [e2]
      rw [hv]
      have k3 : r.cw ≤ A := by omega
      have e4 : IntKind.i64.wrap (A - r.cw) = A - r.cw := wrap_id (by omega) (by omega)
      have e5 : IntKind.i64.wrap (r.cw + r.mss) = r.cw + r.mss := wrap_id (by omega) (by omega)
      clear hv eA
      go_enter Try.func61, Try.ntmps61
      obtain ⟨q0, q1, q2, q3, q4, q5, q6, q7, q8, q9⟩ := rn_cells S0.out
      have fs := Sits.frozen S0.out
      (try dsimp only at q0 q1 q2 q3 q4 q5 q6 q7 q8 q9)
      go_upto_region 0 with fail
      refine wp_region_quiet (C := fun w' => Below w.heap.size w w') (by kernel_rfl) (by kernel_rfl) ((Below.refl _ _).drew) ?_
      simp only []
      repeat (first
        | go_big_quiet_skip
        | (go_big_quiet_want
           unfold Oper.quiet
           apply Exists.intro
           refine ⟨fun w' hw' => ?_, ?_⟩
           (obtain ⟨q0, q1, q2, q3, q4, q5, q6, q7, q8, q9⟩ := rn_cells (Sits.below S0.out hw' (Sits.lt S0.out))
            (try dsimp only at q0 q1 q2 q3 q4 q5 q6 q7 q8 q9)
            go_simp
            first
              | exact rfl)
           simp only [Act.put, List.setIfInBounds_toArray, List.set_cons_zero, List.set_cons_succ]
           go_big_quiet_on))
      refine wpQuiet_nil ?_
      intro w1 hw1
      have S1 : Hid (Sits w1 B (rnCells r) 24) := Sits.below S0.out hw1 (Sits.lt S0.out)
      have O1 : Hid (Only B w w1) := Only.trans O0.out (only_below hw1)
      clear hw1 S0 O0
      clear q0 q1 q2 q3 q4 q5 q6 q7 q8 q9 fs
      obtain ⟨q0, q1, q2, q3, q4, q5, q6, q7, q8, q9⟩ := rn_cells S1.out
      have fs := Sits.frozen S1.out
      (try dsimp only at q0 q1 q2 q3 q4 q5 q6 q7 q8 q9)
      go_upto_region 3 with (go_at_call 47; refine (less_any _ _ _).mono ?_; rintro e w8 ⟨rfl, hw8⟩; replace hw8 := hw8.symm; subst hw8; rw [hA])
      obtain ⟨w2, hW⟩ : ∃ x, (w1.setCell ⟨B, 3, none⟩ (.int .i64 A)) = x := ⟨_, rfl⟩
      have S2 : Hid (Sits w2 B (rnCells (Rn.mk r.mss r.cw r.th A r.una r.nx r.du r.rc r.inn r.cut)) 24) := by rw [← hW]; exact rn_s3 (S1.out) _
      have O2 : Hid (Only B w w2) := by rw [← hW]; exact Only.set (O1.out) 3 _
      rw [hW]
      clear hW S1 O1
      clear q0 q1 q2 q3 q4 q5 q6 q7 q8 q9 fs
      obtain ⟨q0, q1, q2, q3, q4, q5, q6, q7, q8, q9⟩ := rn_cells S2.out
      have fs := Sits.frozen S2.out
      (try dsimp only at q0 q1 q2 q3 q4 q5 q6 q7 q8 q9)
      go_upto_region 3 with fail
      refine wp_region_quiet (C := fun w' => Below w2.heap.size w2 w') (by kernel_rfl) (by kernel_rfl) ((Below.refl _ _).drew) ?_
      simp only []
      repeat (first
        | go_big_quiet_skip
        | (go_big_quiet_want
           unfold Oper.quiet
           apply Exists.intro
           refine ⟨fun w' hw' => ?_, ?_⟩
           (obtain ⟨q0, q1, q2, q3, q4, q5, q6, q7, q8, q9⟩ := rn_cells (Sits.below S2.out hw' (Sits.lt S2.out))
            (try dsimp only at q0 q1 q2 q3 q4 q5 q6 q7 q8 q9)
            go_simp
            first
              | exact rfl)
           simp only [Act.put, List.setIfInBounds_toArray, List.set_cons_zero, List.set_cons_succ]
           go_big_quiet_on))
      refine wpQuiet_nil ?_
      intro w3 hw3
      have S3 : Hid (Sits w3 B (rnCells (Rn.mk r.mss r.cw r.th A r.una r.nx r.du r.rc r.inn r.cut)) 24) := Sits.below S2.out hw3 (Sits.lt S2.out)
      have O3 : Hid (Only B w w3) := Only.trans O2.out (only_below hw3)
      clear hw3 S2 O2
      clear q0 q1 q2 q3 q4 q5 q6 q7 q8 q9 fs
      obtain ⟨q0, q1, q2, q3, q4, q5, q6, q7, q8, q9⟩ := rn_cells S3.out
      have fs := Sits.frozen S3.out
      (try dsimp only at q0 q1 q2 q3 q4 q5 q6 q7 q8 q9)
      go_upto_region 4 with fail
      refine wp_region_qtail 12 (C := fun w' => Below w3.heap.size w3 w') (by kernel_rfl) (by kernel_rfl) ((Below.refl _ _).drew) ?_
      simp only [List.take_succ_cons, List.take_zero, List.drop_succ_cons, List.drop_zero]
      repeat (first
        | go_big_quiet_skip
        | (go_big_quiet_want
           unfold Oper.quiet
           apply Exists.intro
           refine ⟨fun w' hw' => ?_, ?_⟩
           (obtain ⟨q0, q1, q2, q3, q4, q5, q6, q7, q8, q9⟩ := rn_cells (Sits.below S3.out hw' (Sits.lt S3.out))
            (try dsimp only at q0 q1 q2 q3 q4 q5 q6 q7 q8 q9)
            go_simp
            first
              | exact rfl)
           simp only [Act.put, List.setIfInBounds_toArray, List.set_cons_zero, List.set_cons_succ]
           go_big_quiet_on))
      refine wpQuiet_nil ?_
      intro w4 hw4
      have S4 : Hid (Sits w4 B (rnCells (Rn.mk r.mss r.cw r.th A r.una r.nx r.du r.rc r.inn r.cut)) 24) := Sits.below S3.out hw4 (Sits.lt S3.out)
      have O4 : Hid (Only B w w4) := Only.trans O3.out (only_below hw4)
      clear hw4 S3 O3
      clear q0 q1 q2 q3 q4 q5 q6 q7 q8 q9 fs
      obtain ⟨q0, q1, q2, q3, q4, q5, q6, q7, q8, q9⟩ := rn_cells S4.out
      have fs := Sits.frozen S4.out
      (try dsimp only at q0 q1 q2 q3 q4 q5 q6 q7 q8 q9)
      go_upto_region 5 with fail
      obtain ⟨w5, hW⟩ : ∃ x, (w4.setCell ⟨B, 3, none⟩ (.int .i64 (A - r.cw))) = x := ⟨_, rfl⟩
      have S5 : Hid (Sits w5 B (rnCells (Rn.mk r.mss r.cw r.th (A - r.cw) r.una r.nx r.du r.rc r.inn r.cut)) 24) := by rw [← hW]; exact rn_s3 (S4.out) _
      have O5 : Hid (Only B w w5) := by rw [← hW]; exact Only.set (O4.out) 3 _
      rw [hW]
      clear hW S4 O4
      clear q0 q1 q2 q3 q4 q5 q6 q7 q8 q9 fs
      obtain ⟨q0, q1, q2, q3, q4, q5, q6, q7, q8, q9⟩ := rn_cells S5.out
      have fs := Sits.frozen S5.out
      (try dsimp only at q0 q1 q2 q3 q4 q5 q6 q7 q8 q9)
      go_upto_region 5 with fail
      refine wp_region_qtail 13 (C := fun w' => Below w5.heap.size w5 w') (by kernel_rfl) (by kernel_rfl) ((Below.refl _ _).drew) ?_
      simp only [List.take_succ_cons, List.take_zero, List.drop_succ_cons, List.drop_zero]
      repeat (first
        | go_big_quiet_skip
        | (go_big_quiet_want
           unfold Oper.quiet
           apply Exists.intro
           refine ⟨fun w' hw' => ?_, ?_⟩
           (obtain ⟨q0, q1, q2, q3, q4, q5, q6, q7, q8, q9⟩ := rn_cells (Sits.below S5.out hw' (Sits.lt S5.out))
            (try dsimp only at q0 q1 q2 q3 q4 q5 q6 q7 q8 q9)
            go_simp
            first
              | (go_at_call 47; refine (less_any _ _ _).mono ?_; rintro e w8 ⟨rfl, rfl⟩; rw [hX]; exact ⟨rfl, hw'⟩)
              | exact rfl)
           simp only [Act.put, List.setIfInBounds_toArray, List.set_cons_zero, List.set_cons_succ]
           go_big_quiet_on))
      refine wpQuiet_nil ?_
      intro w6 hw6
      have S6 : Hid (Sits w6 B (rnCells (Rn.mk r.mss r.cw r.th (A - r.cw) r.una r.nx r.du r.rc r.inn r.cut)) 24) := Sits.below S5.out hw6 (Sits.lt S5.out)
      have O6 : Hid (Only B w w6) := Only.trans O5.out (only_below hw6)
      clear hw6 S5 O5
      clear q0 q1 q2 q3 q4 q5 q6 q7 q8 q9 fs
      obtain ⟨q0, q1, q2, q3, q4, q5, q6, q7, q8, q9⟩ := rn_cells S6.out
      have fs := Sits.frozen S6.out
      (try dsimp only at q0 q1 q2 q3 q4 q5 q6 q7 q8 q9)
      go_wp2
      first | refine bodyPost_end (v := .tuple #[]) (by first | rfl | simp [results, go_sem] | simp [results, Try.results61, go_sem]) rfl ⟨rfl, ?_, Only.set (O6.out) 1 _⟩ | refine bodyPost_ret (v := .tuple #[]) (by first | rfl | simp [results, go_sem] | simp [results, Try.results61, go_sem]) rfl ⟨rfl, ?_, Only.set (O6.out) 1 _⟩
      first | exact rn_s1 (S6.out) _ | (rw [← hi]; exact rn_s1 (S6.out) _)

set_option maxRecDepth 100000 in
set_option maxHeartbeats 4000000 in
theorem l9echo_any (B : Nat) (r : Rn) (hf : r.fit) (w : World) (hS : Sits w B (rnCells r) 24) :
    Calls Try.prog 60 #[.pointer (some ⟨B, 0, none⟩)] w fun e w' => e = .returned (.tuple #[]) ∧ Sits w' B (rnCells (r.ack2 r.half)) 24 ∧ Only B w w' := by
  have HF : Hid r.fit := hf
  unfold Rn.fit at hf
  obtain ⟨h, hh⟩ : ∃ h, r.half = h := ⟨_, rfl⟩
  rw [hh]
  have S0 : Hid (Sits w B (rnCells r) 24) := hS
  have O0 : Hid (Only B w w) := Only.refl _ _
  clear hS
  cases hi : r.inn
  case true =>
    have hv : r.ack2 h = r := by unfold Rn.ack2; rw [if_neg (fun k => by rw [hi] at k; cases k.1)]
    rw [hv]
    clear hv
    go_enter Try.func60, Try.ntmps60
    obtain ⟨q0, q1, q2, q3, q4, q5, q6, q7, q8, q9⟩ := rn_cells S0.out
    have fs := Sits.frozen S0.out
    (try dsimp only at q0 q1 q2 q3 q4 q5 q6 q7 q8 q9)
    go_upto_region 0 with fail
    refine wp_region_quiet (C := fun w' => Below w.heap.size w w') (by kernel_rfl) (by kernel_rfl) ((Below.refl _ _).drew) ?_
    simp only []
    repeat (first
      | go_big_quiet_skip
      | (go_big_quiet_want
         unfold Oper.quiet
         apply Exists.intro
         refine ⟨fun w' hw' => ?_, ?_⟩
         (obtain ⟨q0, q1, q2, q3, q4, q5, q6, q7, q8, q9⟩ := rn_cells (Sits.below S0.out hw' (Sits.lt S0.out))
          (try dsimp only at q0 q1 q2 q3 q4 q5 q6 q7 q8 q9)
          go_simp
          first
            | exact rfl)
         simp only [Act.put, List.setIfInBounds_toArray, List.set_cons_zero, List.set_cons_succ]
         go_big_quiet_on))
    refine wpQuiet_nil ?_
    intro w1 hw1
    have S1 : Hid (Sits w1 B (rnCells r) 24) := Sits.below S0.out hw1 (Sits.lt S0.out)
    have O1 : Hid (Only B w w1) := Only.trans O0.out (only_below hw1)
    clear hw1 S0 O0
    clear q0 q1 q2 q3 q4 q5 q6 q7 q8 q9 fs
    obtain ⟨q0, q1, q2, q3, q4, q5, q6, q7, q8, q9⟩ := rn_cells S1.out
    have fs := Sits.frozen S1.out
    (try dsimp only at q0 q1 q2 q3 q4 q5 q6 q7 q8 q9)
    go_wp2
    first | refine bodyPost_end (v := .tuple #[]) (by first | rfl | simp [results, go_sem] | simp [results, Try.results60, go_sem]) rfl ⟨rfl, ?_, O1.out⟩ | refine bodyPost_ret (v := .tuple #[]) (by first | rfl | simp [results, go_sem] | simp [results, Try.results60, go_sem]) rfl ⟨rfl, ?_, O1.out⟩
    first | exact S1.out | (rw [← hi]; exact S1.out)
  case false =>
    by_cases k : r.una < r.cut
    · have hv : r.ack2 h = r := by unfold Rn.ack2; rw [if_neg (fun k' => by omega)]
      rw [hv]
      clear hv
      go_enter Try.func60, Try.ntmps60
      obtain ⟨q0, q1, q2, q3, q4, q5, q6, q7, q8, q9⟩ := rn_cells S0.out
      have fs := Sits.frozen S0.out
      (try dsimp only at q0 q1 q2 q3 q4 q5 q6 q7 q8 q9)
      go_upto_region 0 with fail
      refine wp_region_quiet (C := fun w' => Below w.heap.size w w') (by kernel_rfl) (by kernel_rfl) ((Below.refl _ _).drew) ?_
      simp only []
      repeat (first
        | go_big_quiet_skip
        | (go_big_quiet_want
           unfold Oper.quiet
           apply Exists.intro
           refine ⟨fun w' hw' => ?_, ?_⟩
           (obtain ⟨q0, q1, q2, q3, q4, q5, q6, q7, q8, q9⟩ := rn_cells (Sits.below S0.out hw' (Sits.lt S0.out))
            (try dsimp only at q0 q1 q2 q3 q4 q5 q6 q7 q8 q9)
            go_simp
            first
              | exact rfl)
           simp only [Act.put, List.setIfInBounds_toArray, List.set_cons_zero, List.set_cons_succ]
           go_big_quiet_on))
      refine wpQuiet_nil ?_
      intro w1 hw1
      have S1 : Hid (Sits w1 B (rnCells r) 24) := Sits.below S0.out hw1 (Sits.lt S0.out)
      have O1 : Hid (Only B w w1) := Only.trans O0.out (only_below hw1)
      clear hw1 S0 O0
      clear q0 q1 q2 q3 q4 q5 q6 q7 q8 q9 fs
      obtain ⟨q0, q1, q2, q3, q4, q5, q6, q7, q8, q9⟩ := rn_cells S1.out
      have fs := Sits.frozen S1.out
      (try dsimp only at q0 q1 q2 q3 q4 q5 q6 q7 q8 q9)
      go_wp2
      first | refine bodyPost_end (v := .tuple #[]) (by first | rfl | simp [results, go_sem] | simp [results, Try.results60, go_sem]) rfl ⟨rfl, ?_, O1.out⟩ | refine bodyPost_ret (v := .tuple #[]) (by first | rfl | simp [results, go_sem] | simp [results, Try.results60, go_sem]) rfl ⟨rfl, ?_, O1.out⟩
      first | exact S1.out | (rw [← hi]; exact S1.out)
    · have hv : r.ack2 h = (Rn.mk r.mss h h 0 r.una r.nx r.du r.rc r.inn r.nx) := by unfold Rn.ack2; rw [if_pos ⟨hi, by omega⟩]; rfl
      rw [hv]
      clear hv
      go_enter Try.func60, Try.ntmps60
      obtain ⟨q0, q1, q2, q3, q4, q5, q6, q7, q8, q9⟩ := rn_cells S0.out
      have fs := Sits.frozen S0.out
      (try dsimp only at q0 q1 q2 q3 q4 q5 q6 q7 q8 q9)
      go_upto_region 0 with fail
      refine wp_region_quiet (C := fun w' => Below w.heap.size w w') (by kernel_rfl) (by kernel_rfl) ((Below.refl _ _).drew) ?_
      simp only []
      repeat (first
        | go_big_quiet_skip
        | (go_big_quiet_want
           unfold Oper.quiet
           apply Exists.intro
           refine ⟨fun w' hw' => ?_, ?_⟩
           (obtain ⟨q0, q1, q2, q3, q4, q5, q6, q7, q8, q9⟩ := rn_cells (Sits.below S0.out hw' (Sits.lt S0.out))
            (try dsimp only at q0 q1 q2 q3 q4 q5 q6 q7 q8 q9)
            go_simp
            first
              | exact rfl)
           simp only [Act.put, List.setIfInBounds_toArray, List.set_cons_zero, List.set_cons_succ]
           go_big_quiet_on))
      refine wpQuiet_nil ?_
      intro w1 hw1
      have S1 : Hid (Sits w1 B (rnCells r) 24) := Sits.below S0.out hw1 (Sits.lt S0.out)
      have O1 : Hid (Only B w w1) := Only.trans O0.out (only_below hw1)
      clear hw1 S0 O0
      clear q0 q1 q2 q3 q4 q5 q6 q7 q8 q9 fs
      obtain ⟨q0, q1, q2, q3, q4, q5, q6, q7, q8, q9⟩ := rn_cells S1.out
      have fs := Sits.frozen S1.out
      (try dsimp only at q0 q1 q2 q3 q4 q5 q6 q7 q8 q9)
      have HF2 : Hid (Rn.fit (Rn.mk r.mss r.cw r.th r.ac r.una r.nx r.du r.rc false r.cut)) := HF.out
      have hh2 : Rn.half (Rn.mk r.mss r.cw r.th r.ac r.una r.nx r.du r.rc false r.cut) = h := hh
      go_upto_region 2 with (go_at_call 57; refine (l9half_any (Rn.mk r.mss r.cw r.th r.ac r.una r.nx r.du r.rc false r.cut) HF2.out _).mono ?_; rintro e w2 ⟨rfl, b9⟩; rw [hh2]; have s9 := Sits.below S1.out b9 (Sits.lt S1.out); have o9 := Only.trans O1.out (only_below b9); clear q0 q1 q2 q3 q4 q5 q6 q7 q8 q9 fs; obtain ⟨q0, q1, q2, q3, q4, q5, q6, q7, q8, q9⟩ := rn_cells s9; (try dsimp only at q0 q1 q2 q3 q4 q5 q6 q7 q8 q9); have fs := s9.frozen; have S2 : Hid (Sits w2 B (rnCells r) 24) := s9; have O2 : Hid (Only B w w2) := o9; clear s9 o9 b9)
      obtain ⟨w3, hW⟩ : ∃ x, (w2.setCell ⟨B, 2, none⟩ (.int .i64 h)) = x := ⟨_, rfl⟩
      have S3 : Hid (Sits w3 B (rnCells (Rn.mk r.mss r.cw h r.ac r.una r.nx r.du r.rc r.inn r.cut)) 24) := by rw [← hW]; exact rn_s2 (S2.out) _
      have O3 : Hid (Only B w w3) := by rw [← hW]; exact Only.set (O2.out) 2 _
      rw [hW]
      clear hW S2 O2
      clear q0 q1 q2 q3 q4 q5 q6 q7 q8 q9 fs
      obtain ⟨q0, q1, q2, q3, q4, q5, q6, q7, q8, q9⟩ := rn_cells S3.out
      have fs := Sits.frozen S3.out
      (try dsimp only at q0 q1 q2 q3 q4 q5 q6 q7 q8 q9)
      go_upto_region 4 with fail
      obtain ⟨w4, hW⟩ : ∃ x, ((w3.setCell ⟨B, 1, none⟩ (.int .i64 h)).setCell ⟨B, 3, none⟩ (.int .i64 0)) = x := ⟨_, rfl⟩
      have S4 : Hid (Sits w4 B (rnCells (Rn.mk r.mss h h 0 r.una r.nx r.du r.rc r.inn r.cut)) 24) := by rw [← hW]; exact rn_s3 (rn_s1 (S3.out) _) _
      have O4 : Hid (Only B w w4) := by rw [← hW]; exact Only.set (Only.set (O3.out) 1 _) 3 _
      rw [hW]
      clear hW S3 O3
      clear q0 q1 q2 q3 q4 q5 q6 q7 q8 q9 fs
      obtain ⟨q0, q1, q2, q3, q4, q5, q6, q7, q8, q9⟩ := rn_cells S4.out
      have fs := Sits.frozen S4.out
      (try dsimp only at q0 q1 q2 q3 q4 q5 q6 q7 q8 q9)
      go_wp2
      first | refine bodyPost_end (v := .tuple #[]) (by first | rfl | simp [results, go_sem] | simp [results, Try.results60, go_sem]) rfl ⟨rfl, ?_, Only.set (O4.out) 9 _⟩ | refine bodyPost_ret (v := .tuple #[]) (by first | rfl | simp [results, go_sem] | simp [results, Try.results60, go_sem]) rfl ⟨rfl, ?_, Only.set (O4.out) 9 _⟩
      first | exact rn_s9 (S4.out) _ | (rw [← hi]; exact rn_s9 (S4.out) _)

set_option maxRecDepth 100000 in
set_option maxHeartbeats 4000000 in
theorem l9dup_any (B : Nat) (r : Rn) (hf : r.fit) (hw : 0 < r.fl) (w : World) (hS : Sits w B (rnCells r) 24) :
    Calls Try.prog 59 #[.pointer (some ⟨B, 0, none⟩)] w fun e w' => e = .returned (.tuple #[]) ∧ Sits w' B (rnCells (r.rep r.half)) 24 ∧ Only B w w' := by
  have hw2 : r.una < r.nx := by have : 0 < r.nx - r.una := hw; omega
  clear hw
  obtain ⟨h, hh0⟩ : ∃ h, r.half = h := ⟨_, rfl⟩
  have hhb := half_bd hf
  rw [hh0] at hhb ⊢
  have HFr : Hid r.fit := hf
  unfold Rn.fit at hf
  have S0 : Hid (Sits w B (rnCells r) 24) := hS
  have O0 : Hid (Only B w w) := Only.refl _ _
  clear hS
  by_cases k : r.du < 1000000
  · have eD : minI (r.du + 1) 1000000 = (r.du + 1) := by unfold minI; split <;> omega
    have HF : Hid (Rn.fit (Rn.mk r.mss r.cw r.th r.ac r.una r.nx (r.du + 1) r.rc r.inn r.cut)) := by show Rn.fit _; unfold Rn.fit; dsimp only; omega
    have hh : Rn.half (Rn.mk r.mss r.cw r.th r.ac r.una r.nx (r.du + 1) r.rc r.inn r.cut) = h := hh0
    cases hi : r.inn
    case true =>
      obtain ⟨X, hX⟩ : ∃ X, (if r.cw + r.mss < 100000000 then r.cw + r.mss else 100000000) = X := ⟨_, rfl⟩
      have hv : r.rep h = (Rn.mk r.mss X r.th r.ac r.una r.nx (r.du + 1) r.rc r.inn r.cut) := by
        have e2 : minI (r.cw + r.mss) 100000000 = X := by rw [← hX]; unfold minI; split <;> split <;> omega
        unfold Rn.rep; rw [if_pos hi, eD]; unfold Rn.widen; dsimp only; rw [e2]
      rw [hv]
      have ew : IntKind.i64.wrap (r.cw + r.mss) = r.cw + r.mss := wrap_id (by omega) (by omega)
      clear hv
      go_enter Try.func59, Try.ntmps59
      obtain ⟨q0, q1, q2, q3, q4, q5, q6, q7, q8, q9⟩ := rn_cells S0.out
      have fs := Sits.frozen S0.out
      (try dsimp only at q0 q1 q2 q3 q4 q5 q6 q7 q8 q9)
      go_upto_region 2 with fail
      obtain ⟨w1, hW⟩ : ∃ x, (w.setCell ⟨B, 6, none⟩ (.int .i64 (r.du + 1))) = x := ⟨_, rfl⟩
      have S1 : Hid (Sits w1 B (rnCells (Rn.mk r.mss r.cw r.th r.ac r.una r.nx (r.du + 1) r.rc r.inn r.cut)) 24) := by rw [← hW]; exact rn_s6 (S0.out) _
      have O1 : Hid (Only B w w1) := by rw [← hW]; exact Only.set (O0.out) 6 _
      rw [hW]
      clear hW S0 O0
      clear q0 q1 q2 q3 q4 q5 q6 q7 q8 q9 fs
      obtain ⟨q0, q1, q2, q3, q4, q5, q6, q7, q8, q9⟩ := rn_cells S1.out
      have fs := Sits.frozen S1.out
      (try dsimp only at q0 q1 q2 q3 q4 q5 q6 q7 q8 q9)
      go_upto_region 3 with fail
      refine wp_region_qtail 13 (C := fun w' => Below w1.heap.size w1 w') (by kernel_rfl) (by kernel_rfl) ((Below.refl _ _).drew) ?_
      simp only [List.take_succ_cons, List.take_zero, List.drop_succ_cons, List.drop_zero]
      repeat (first
        | go_big_quiet_skip
        | (go_big_quiet_want
           unfold Oper.quiet
           apply Exists.intro
           refine ⟨fun w' hw' => ?_, ?_⟩
           (obtain ⟨q0, q1, q2, q3, q4, q5, q6, q7, q8, q9⟩ := rn_cells (Sits.below S1.out hw' (Sits.lt S1.out))
            (try dsimp only at q0 q1 q2 q3 q4 q5 q6 q7 q8 q9)
            go_simp
            first
              | (go_at_call 47; refine (less_any _ _ _).mono ?_; rintro e w8 ⟨rfl, rfl⟩; rw [hX]; exact ⟨rfl, hw'⟩)
              | exact rfl)
           simp only [Act.put, List.setIfInBounds_toArray, List.set_cons_zero, List.set_cons_succ]
           go_big_quiet_on))
      refine wpQuiet_nil ?_
      intro w2 hw2
      have S2 : Hid (Sits w2 B (rnCells (Rn.mk r.mss r.cw r.th r.ac r.una r.nx (r.du + 1) r.rc r.inn r.cut)) 24) := Sits.below S1.out hw2 (Sits.lt S1.out)
      have O2 : Hid (Only B w w2) := Only.trans O1.out (only_below hw2)
      clear hw2 S1 O1
      clear q0 q1 q2 q3 q4 q5 q6 q7 q8 q9 fs
      obtain ⟨q0, q1, q2, q3, q4, q5, q6, q7, q8, q9⟩ := rn_cells S2.out
      have fs := Sits.frozen S2.out
      (try dsimp only at q0 q1 q2 q3 q4 q5 q6 q7 q8 q9)
      go_wp2
      first | refine bodyPost_end (v := .tuple #[]) (by first | rfl | simp [results, go_sem] | simp [results, Try.results59, go_sem]) rfl ⟨rfl, ?_, Only.set (O2.out) 1 _⟩ | refine bodyPost_ret (v := .tuple #[]) (by first | rfl | simp [results, go_sem] | simp [results, Try.results59, go_sem]) rfl ⟨rfl, ?_, Only.set (O2.out) 1 _⟩
      first | exact rn_s1 (S2.out) _ | (rw [← hi]; exact rn_s1 (S2.out) _)
    case false =>
      have hn : ¬ r.inn = true := by rw [hi]; decide
      by_cases k2 : (r.du + 1) = 3
      · have k2' : ((r.du + 1) == 3) = true := by simpa using k2
        by_cases k3 : r.rc ≤ r.una
        · obtain ⟨X, hX⟩ : ∃ X, (if h + 3 * r.mss < 100000000 then h + 3 * r.mss else 100000000) = X := ⟨_, rfl⟩
          have hv : r.rep h = (Rn.mk r.mss X h 0 r.una r.nx (r.du + 1) r.nx true r.cut) := by
            have e2 : minI (h + 3 * r.mss) 100000000 = X := by rw [← hX]; unfold minI; split <;> split <;> omega
            unfold Rn.rep; rw [if_neg hn, eD, if_pos ⟨k2, k3⟩]; unfold Rn.recg; dsimp only; rw [e2]
          rw [hv]
          have ew1 : IntKind.i64.wrap (3 * r.mss) = 3 * r.mss := wrap_id (by omega) (by omega)
          have ew : IntKind.i64.wrap (h + 3 * r.mss) = h + 3 * r.mss := wrap_id (by omega) (by omega)
          clear hv k2 hn
          go_enter Try.func59, Try.ntmps59
          obtain ⟨q0, q1, q2, q3, q4, q5, q6, q7, q8, q9⟩ := rn_cells S0.out
          have fs := Sits.frozen S0.out
          (try dsimp only at q0 q1 q2 q3 q4 q5 q6 q7 q8 q9)
          go_upto_region 2 with fail
          obtain ⟨w1, hW⟩ : ∃ x, (w.setCell ⟨B, 6, none⟩ (.int .i64 (r.du + 1))) = x := ⟨_, rfl⟩
          have S1 : Hid (Sits w1 B (rnCells (Rn.mk r.mss r.cw r.th r.ac r.una r.nx (r.du + 1) r.rc r.inn r.cut)) 24) := by rw [← hW]; exact rn_s6 (S0.out) _
          have O1 : Hid (Only B w w1) := by rw [← hW]; exact Only.set (O0.out) 6 _
          rw [hW]
          clear hW S0 O0
          clear q0 q1 q2 q3 q4 q5 q6 q7 q8 q9 fs
          obtain ⟨q0, q1, q2, q3, q4, q5, q6, q7, q8, q9⟩ := rn_cells S1.out
          have fs := Sits.frozen S1.out
          (try dsimp only at q0 q1 q2 q3 q4 q5 q6 q7 q8 q9)
          go_upto_region 4 with fail
          refine wp_region_quiet (C := fun w' => Below w1.heap.size w1 w') (by kernel_rfl) (by kernel_rfl) ((Below.refl _ _).drew) ?_
          simp only []
          repeat (first
            | go_big_quiet_skip
            | (go_big_quiet_want
               unfold Oper.quiet
               apply Exists.intro
               refine ⟨fun w' hw' => ?_, ?_⟩
               (obtain ⟨q0, q1, q2, q3, q4, q5, q6, q7, q8, q9⟩ := rn_cells (Sits.below S1.out hw' (Sits.lt S1.out))
                (try dsimp only at q0 q1 q2 q3 q4 q5 q6 q7 q8 q9)
                go_simp
                first
                  | exact rfl)
               simp only [Act.put, List.setIfInBounds_toArray, List.set_cons_zero, List.set_cons_succ]
               go_big_quiet_on))
          refine wpQuiet_nil ?_
          intro w2 hw2
          have S2 : Hid (Sits w2 B (rnCells (Rn.mk r.mss r.cw r.th r.ac r.una r.nx (r.du + 1) r.rc r.inn r.cut)) 24) := Sits.below S1.out hw2 (Sits.lt S1.out)
          have O2 : Hid (Only B w w2) := Only.trans O1.out (only_below hw2)
          clear hw2 S1 O1
          clear q0 q1 q2 q3 q4 q5 q6 q7 q8 q9 fs
          obtain ⟨q0, q1, q2, q3, q4, q5, q6, q7, q8, q9⟩ := rn_cells S2.out
          have fs := Sits.frozen S2.out
          (try dsimp only at q0 q1 q2 q3 q4 q5 q6 q7 q8 q9)
          have HF2 : Hid (Rn.fit (Rn.mk r.mss r.cw r.th r.ac r.una r.nx (r.du + 1) r.rc false r.cut)) := HF.out
          have hh2 : Rn.half (Rn.mk r.mss r.cw r.th r.ac r.una r.nx (r.du + 1) r.rc false r.cut) = h := hh
          go_upto_region 6 with (go_at_call 57; refine (l9half_any (Rn.mk r.mss r.cw r.th r.ac r.una r.nx (r.du + 1) r.rc false r.cut) HF2.out _).mono ?_; rintro e w3 ⟨rfl, b9⟩; rw [hh2]; have s9 := Sits.below S2.out b9 (Sits.lt S2.out); have o9 := Only.trans O2.out (only_below b9); clear q0 q1 q2 q3 q4 q5 q6 q7 q8 q9 fs; obtain ⟨q0, q1, q2, q3, q4, q5, q6, q7, q8, q9⟩ := rn_cells s9; (try dsimp only at q0 q1 q2 q3 q4 q5 q6 q7 q8 q9); have fs := s9.frozen; have S3 : Hid (Sits w3 B (rnCells (Rn.mk r.mss r.cw r.th r.ac r.una r.nx (r.du + 1) r.rc r.inn r.cut)) 24) := s9; have O3 : Hid (Only B w w3) := o9; clear s9 o9 b9)
          obtain ⟨w4, hW⟩ : ∃ x, (w3.setCell ⟨B, 2, none⟩ (.int .i64 h)) = x := ⟨_, rfl⟩
          have S4 : Hid (Sits w4 B (rnCells (Rn.mk r.mss r.cw h r.ac r.una r.nx (r.du + 1) r.rc r.inn r.cut)) 24) := by rw [← hW]; exact rn_s2 (S3.out) _
          have O4 : Hid (Only B w w4) := by rw [← hW]; exact Only.set (O3.out) 2 _
          rw [hW]
          clear hW S3 O3
          clear q0 q1 q2 q3 q4 q5 q6 q7 q8 q9 fs
          obtain ⟨q0, q1, q2, q3, q4, q5, q6, q7, q8, q9⟩ := rn_cells S4.out
          have fs := Sits.frozen S4.out
          (try dsimp only at q0 q1 q2 q3 q4 q5 q6 q7 q8 q9)
          go_upto_region 6 with fail
          refine wp_region_qtail 14 (C := fun w' => Below w4.heap.size w4 w') (by kernel_rfl) (by kernel_rfl) ((Below.refl _ _).drew) ?_
          simp only [List.take_succ_cons, List.take_zero, List.drop_succ_cons, List.drop_zero]
          repeat (first
            | go_big_quiet_skip
            | (go_big_quiet_want
               unfold Oper.quiet
               apply Exists.intro
               refine ⟨fun w' hw' => ?_, ?_⟩
               (obtain ⟨q0, q1, q2, q3, q4, q5, q6, q7, q8, q9⟩ := rn_cells (Sits.below S4.out hw' (Sits.lt S4.out))
                (try dsimp only at q0 q1 q2 q3 q4 q5 q6 q7 q8 q9)
                go_simp
                first
                  | (go_at_call 47; refine (less_any _ _ _).mono ?_; rintro e w8 ⟨rfl, rfl⟩; rw [hX]; exact ⟨rfl, hw'⟩)
                  | exact rfl)
               simp only [Act.put, List.setIfInBounds_toArray, List.set_cons_zero, List.set_cons_succ]
               go_big_quiet_on))
          refine wpQuiet_nil ?_
          intro w5 hw5
          have S5 : Hid (Sits w5 B (rnCells (Rn.mk r.mss r.cw h r.ac r.una r.nx (r.du + 1) r.rc r.inn r.cut)) 24) := Sits.below S4.out hw5 (Sits.lt S4.out)
          have O5 : Hid (Only B w w5) := Only.trans O4.out (only_below hw5)
          clear hw5 S4 O4
          clear q0 q1 q2 q3 q4 q5 q6 q7 q8 q9 fs
          obtain ⟨q0, q1, q2, q3, q4, q5, q6, q7, q8, q9⟩ := rn_cells S5.out
          have fs := Sits.frozen S5.out
          (try dsimp only at q0 q1 q2 q3 q4 q5 q6 q7 q8 q9)
          go_upto_region 8 with fail
          obtain ⟨w6, hW⟩ : ∃ x, ((w5.setCell ⟨B, 1, none⟩ (.int .i64 X)).setCell ⟨B, 7, none⟩ (.int .i64 r.nx)) = x := ⟨_, rfl⟩
          have S6 : Hid (Sits w6 B (rnCells (Rn.mk r.mss X h r.ac r.una r.nx (r.du + 1) r.nx r.inn r.cut)) 24) := by rw [← hW]; exact rn_s7 (rn_s1 (S5.out) _) _
          have O6 : Hid (Only B w w6) := by rw [← hW]; exact Only.set (Only.set (O5.out) 1 _) 7 _
          rw [hW]
          clear hW S5 O5
          clear q0 q1 q2 q3 q4 q5 q6 q7 q8 q9 fs
          obtain ⟨q0, q1, q2, q3, q4, q5, q6, q7, q8, q9⟩ := rn_cells S6.out
          have fs := Sits.frozen S6.out
          (try dsimp only at q0 q1 q2 q3 q4 q5 q6 q7 q8 q9)
          go_wp2
          first | refine bodyPost_end (v := .tuple #[]) (by first | rfl | simp [results, go_sem] | simp [results, Try.results59, go_sem]) rfl ⟨rfl, ?_, Only.set (Only.set (O6.out) 8 _) 3 _⟩ | refine bodyPost_ret (v := .tuple #[]) (by first | rfl | simp [results, go_sem] | simp [results, Try.results59, go_sem]) rfl ⟨rfl, ?_, Only.set (Only.set (O6.out) 8 _) 3 _⟩
          first | exact rn_s3 (rn_s8 (S6.out) _) _ | (rw [← hi]; exact rn_s3 (rn_s8 (S6.out) _) _)
        · have hv : r.rep h = (Rn.mk r.mss r.cw r.th r.ac r.una r.nx (r.du + 1) r.rc r.inn r.cut) := by unfold Rn.rep; rw [if_neg hn, eD, if_neg (fun k' => k3 k'.2)]
          rw [hv]
          clear hv k2 hn
          go_enter Try.func59, Try.ntmps59
          obtain ⟨q0, q1, q2, q3, q4, q5, q6, q7, q8, q9⟩ := rn_cells S0.out
          have fs := Sits.frozen S0.out
          (try dsimp only at q0 q1 q2 q3 q4 q5 q6 q7 q8 q9)
          go_upto_region 2 with fail
          obtain ⟨w1, hW⟩ : ∃ x, (w.setCell ⟨B, 6, none⟩ (.int .i64 (r.du + 1))) = x := ⟨_, rfl⟩
          have S1 : Hid (Sits w1 B (rnCells (Rn.mk r.mss r.cw r.th r.ac r.una r.nx (r.du + 1) r.rc r.inn r.cut)) 24) := by rw [← hW]; exact rn_s6 (S0.out) _
          have O1 : Hid (Only B w w1) := by rw [← hW]; exact Only.set (O0.out) 6 _
          rw [hW]
          clear hW S0 O0
          clear q0 q1 q2 q3 q4 q5 q6 q7 q8 q9 fs
          obtain ⟨q0, q1, q2, q3, q4, q5, q6, q7, q8, q9⟩ := rn_cells S1.out
          have fs := Sits.frozen S1.out
          (try dsimp only at q0 q1 q2 q3 q4 q5 q6 q7 q8 q9)
          go_upto_region 4 with fail
          refine wp_region_quiet (C := fun w' => Below w1.heap.size w1 w') (by kernel_rfl) (by kernel_rfl) ((Below.refl _ _).drew) ?_
          simp only []
          repeat (first
            | go_big_quiet_skip
            | (go_big_quiet_want
               unfold Oper.quiet
               apply Exists.intro
               refine ⟨fun w' hw' => ?_, ?_⟩
               (obtain ⟨q0, q1, q2, q3, q4, q5, q6, q7, q8, q9⟩ := rn_cells (Sits.below S1.out hw' (Sits.lt S1.out))
                (try dsimp only at q0 q1 q2 q3 q4 q5 q6 q7 q8 q9)
                go_simp
                first
                  | exact rfl)
               simp only [Act.put, List.setIfInBounds_toArray, List.set_cons_zero, List.set_cons_succ]
               go_big_quiet_on))
          refine wpQuiet_nil ?_
          intro w2 hw2
          have S2 : Hid (Sits w2 B (rnCells (Rn.mk r.mss r.cw r.th r.ac r.una r.nx (r.du + 1) r.rc r.inn r.cut)) 24) := Sits.below S1.out hw2 (Sits.lt S1.out)
          have O2 : Hid (Only B w w2) := Only.trans O1.out (only_below hw2)
          clear hw2 S1 O1
          clear q0 q1 q2 q3 q4 q5 q6 q7 q8 q9 fs
          obtain ⟨q0, q1, q2, q3, q4, q5, q6, q7, q8, q9⟩ := rn_cells S2.out
          have fs := Sits.frozen S2.out
          (try dsimp only at q0 q1 q2 q3 q4 q5 q6 q7 q8 q9)
          go_wp2
          first | refine bodyPost_end (v := .tuple #[]) (by first | rfl | simp [results, go_sem] | simp [results, Try.results59, go_sem]) rfl ⟨rfl, ?_, O2.out⟩ | refine bodyPost_ret (v := .tuple #[]) (by first | rfl | simp [results, go_sem] | simp [results, Try.results59, go_sem]) rfl ⟨rfl, ?_, O2.out⟩
          first | exact S2.out | (rw [← hi]; exact S2.out)
      · have k2' : ((r.du + 1) == 3) = false := by simpa using k2
        have hv : r.rep h = (Rn.mk r.mss r.cw r.th r.ac r.una r.nx (r.du + 1) r.rc r.inn r.cut) := by unfold Rn.rep; rw [if_neg hn, eD, if_neg (fun k' => k2 k'.1)]
        rw [hv]
        clear hv k2 hn
        go_enter Try.func59, Try.ntmps59
        obtain ⟨q0, q1, q2, q3, q4, q5, q6, q7, q8, q9⟩ := rn_cells S0.out
        have fs := Sits.frozen S0.out
        (try dsimp only at q0 q1 q2 q3 q4 q5 q6 q7 q8 q9)
        go_upto_region 2 with fail
        obtain ⟨w1, hW⟩ : ∃ x, (w.setCell ⟨B, 6, none⟩ (.int .i64 (r.du + 1))) = x := ⟨_, rfl⟩
        have S1 : Hid (Sits w1 B (rnCells (Rn.mk r.mss r.cw r.th r.ac r.una r.nx (r.du + 1) r.rc r.inn r.cut)) 24) := by rw [← hW]; exact rn_s6 (S0.out) _
        have O1 : Hid (Only B w w1) := by rw [← hW]; exact Only.set (O0.out) 6 _
        rw [hW]
        clear hW S0 O0
        clear q0 q1 q2 q3 q4 q5 q6 q7 q8 q9 fs
        obtain ⟨q0, q1, q2, q3, q4, q5, q6, q7, q8, q9⟩ := rn_cells S1.out
        have fs := Sits.frozen S1.out
        (try dsimp only at q0 q1 q2 q3 q4 q5 q6 q7 q8 q9)
        go_upto_region 4 with fail
        refine wp_region_quiet (C := fun w' => Below w1.heap.size w1 w') (by kernel_rfl) (by kernel_rfl) ((Below.refl _ _).drew) ?_
        simp only []
        repeat (first
          | go_big_quiet_skip
          | (go_big_quiet_want
             unfold Oper.quiet
             apply Exists.intro
             refine ⟨fun w' hw' => ?_, ?_⟩
             (obtain ⟨q0, q1, q2, q3, q4, q5, q6, q7, q8, q9⟩ := rn_cells (Sits.below S1.out hw' (Sits.lt S1.out))
              (try dsimp only at q0 q1 q2 q3 q4 q5 q6 q7 q8 q9)
              go_simp
              first
                | exact rfl)
             simp only [Act.put, List.setIfInBounds_toArray, List.set_cons_zero, List.set_cons_succ]
             go_big_quiet_on))
        refine wpQuiet_nil ?_
        intro w2 hw2
        have S2 : Hid (Sits w2 B (rnCells (Rn.mk r.mss r.cw r.th r.ac r.una r.nx (r.du + 1) r.rc r.inn r.cut)) 24) := Sits.below S1.out hw2 (Sits.lt S1.out)
        have O2 : Hid (Only B w w2) := Only.trans O1.out (only_below hw2)
        clear hw2 S1 O1
        clear q0 q1 q2 q3 q4 q5 q6 q7 q8 q9 fs
        obtain ⟨q0, q1, q2, q3, q4, q5, q6, q7, q8, q9⟩ := rn_cells S2.out
        have fs := Sits.frozen S2.out
        (try dsimp only at q0 q1 q2 q3 q4 q5 q6 q7 q8 q9)
        go_wp2
        first | refine bodyPost_end (v := .tuple #[]) (by first | rfl | simp [results, go_sem] | simp [results, Try.results59, go_sem]) rfl ⟨rfl, ?_, O2.out⟩ | refine bodyPost_ret (v := .tuple #[]) (by first | rfl | simp [results, go_sem] | simp [results, Try.results59, go_sem]) rfl ⟨rfl, ?_, O2.out⟩
        first | exact S2.out | (rw [← hi]; exact S2.out)
  · have eD : minI (r.du + 1) 1000000 = r.du := by unfold minI; split <;> omega
    have HF : Hid (Rn.fit (Rn.mk r.mss r.cw r.th r.ac r.una r.nx r.du r.rc r.inn r.cut)) := by show Rn.fit _; unfold Rn.fit; dsimp only; omega
    have hh : Rn.half (Rn.mk r.mss r.cw r.th r.ac r.una r.nx r.du r.rc r.inn r.cut) = h := hh0
    cases hi : r.inn
    case true =>
      obtain ⟨X, hX⟩ : ∃ X, (if r.cw + r.mss < 100000000 then r.cw + r.mss else 100000000) = X := ⟨_, rfl⟩
      have hv : r.rep h = (Rn.mk r.mss X r.th r.ac r.una r.nx r.du r.rc r.inn r.cut) := by
        have e2 : minI (r.cw + r.mss) 100000000 = X := by rw [← hX]; unfold minI; split <;> split <;> omega
        unfold Rn.rep; rw [if_pos hi, eD]; unfold Rn.widen; dsimp only; rw [e2]
      rw [hv]
      have ew : IntKind.i64.wrap (r.cw + r.mss) = r.cw + r.mss := wrap_id (by omega) (by omega)
      clear hv
      go_enter Try.func59, Try.ntmps59
      obtain ⟨q0, q1, q2, q3, q4, q5, q6, q7, q8, q9⟩ := rn_cells S0.out
      have fs := Sits.frozen S0.out
      (try dsimp only at q0 q1 q2 q3 q4 q5 q6 q7 q8 q9)
      go_upto_region 2 with fail
      obtain ⟨w1, hW⟩ : ∃ x, w = x := ⟨_, rfl⟩
      have S1 : Hid (Sits w1 B (rnCells (Rn.mk r.mss r.cw r.th r.ac r.una r.nx r.du r.rc r.inn r.cut)) 24) := by rw [← hW]; exact S0.out
      have O1 : Hid (Only B w w1) := by rw [← hW]; exact O0.out
      rw [hW]
      clear hW S0 O0
      clear q0 q1 q2 q3 q4 q5 q6 q7 q8 q9 fs
      obtain ⟨q0, q1, q2, q3, q4, q5, q6, q7, q8, q9⟩ := rn_cells S1.out
      have fs := Sits.frozen S1.out
      (try dsimp only at q0 q1 q2 q3 q4 q5 q6 q7 q8 q9)
      go_upto_region 3 with fail
      refine wp_region_qtail 13 (C := fun w' => Below w1.heap.size w1 w') (by kernel_rfl) (by kernel_rfl) ((Below.refl _ _).drew) ?_
      simp only [List.take_succ_cons, List.take_zero, List.drop_succ_cons, List.drop_zero]
      repeat (first
        | go_big_quiet_skip
        | (go_big_quiet_want
           unfold Oper.quiet
           apply Exists.intro
           refine ⟨fun w' hw' => ?_, ?_⟩
           (obtain ⟨q0, q1, q2, q3, q4, q5, q6, q7, q8, q9⟩ := rn_cells (Sits.below S1.out hw' (Sits.lt S1.out))
            (try dsimp only at q0 q1 q2 q3 q4 q5 q6 q7 q8 q9)
            go_simp
            first
              | (go_at_call 47; refine (less_any _ _ _).mono ?_; rintro e w8 ⟨rfl, rfl⟩; rw [hX]; exact ⟨rfl, hw'⟩)
              | exact rfl)
           simp only [Act.put, List.setIfInBounds_toArray, List.set_cons_zero, List.set_cons_succ]
           go_big_quiet_on))
      refine wpQuiet_nil ?_
      intro w2 hw2
      have S2 : Hid (Sits w2 B (rnCells (Rn.mk r.mss r.cw r.th r.ac r.una r.nx r.du r.rc r.inn r.cut)) 24) := Sits.below S1.out hw2 (Sits.lt S1.out)
      have O2 : Hid (Only B w w2) := Only.trans O1.out (only_below hw2)
      clear hw2 S1 O1
      clear q0 q1 q2 q3 q4 q5 q6 q7 q8 q9 fs
      obtain ⟨q0, q1, q2, q3, q4, q5, q6, q7, q8, q9⟩ := rn_cells S2.out
      have fs := Sits.frozen S2.out
      (try dsimp only at q0 q1 q2 q3 q4 q5 q6 q7 q8 q9)
      go_wp2
      first | refine bodyPost_end (v := .tuple #[]) (by first | rfl | simp [results, go_sem] | simp [results, Try.results59, go_sem]) rfl ⟨rfl, ?_, Only.set (O2.out) 1 _⟩ | refine bodyPost_ret (v := .tuple #[]) (by first | rfl | simp [results, go_sem] | simp [results, Try.results59, go_sem]) rfl ⟨rfl, ?_, Only.set (O2.out) 1 _⟩
      first | exact rn_s1 (S2.out) _ | (rw [← hi]; exact rn_s1 (S2.out) _)
    case false =>
      have hn : ¬ r.inn = true := by rw [hi]; decide
      by_cases k2 : r.du = 3
      · have k2' : (r.du == 3) = true := by simpa using k2
        by_cases k3 : r.rc ≤ r.una
        · obtain ⟨X, hX⟩ : ∃ X, (if h + 3 * r.mss < 100000000 then h + 3 * r.mss else 100000000) = X := ⟨_, rfl⟩
          have hv : r.rep h = (Rn.mk r.mss X h 0 r.una r.nx r.du r.nx true r.cut) := by
            have e2 : minI (h + 3 * r.mss) 100000000 = X := by rw [← hX]; unfold minI; split <;> split <;> omega
            unfold Rn.rep; rw [if_neg hn, eD, if_pos ⟨k2, k3⟩]; unfold Rn.recg; dsimp only; rw [e2]
          rw [hv]
          have ew1 : IntKind.i64.wrap (3 * r.mss) = 3 * r.mss := wrap_id (by omega) (by omega)
          have ew : IntKind.i64.wrap (h + 3 * r.mss) = h + 3 * r.mss := wrap_id (by omega) (by omega)
          clear hv k2 hn
          go_enter Try.func59, Try.ntmps59
          obtain ⟨q0, q1, q2, q3, q4, q5, q6, q7, q8, q9⟩ := rn_cells S0.out
          have fs := Sits.frozen S0.out
          (try dsimp only at q0 q1 q2 q3 q4 q5 q6 q7 q8 q9)
          go_upto_region 2 with fail
          obtain ⟨w1, hW⟩ : ∃ x, w = x := ⟨_, rfl⟩
          have S1 : Hid (Sits w1 B (rnCells (Rn.mk r.mss r.cw r.th r.ac r.una r.nx r.du r.rc r.inn r.cut)) 24) := by rw [← hW]; exact S0.out
          have O1 : Hid (Only B w w1) := by rw [← hW]; exact O0.out
          rw [hW]
          clear hW S0 O0
          clear q0 q1 q2 q3 q4 q5 q6 q7 q8 q9 fs
          obtain ⟨q0, q1, q2, q3, q4, q5, q6, q7, q8, q9⟩ := rn_cells S1.out
          have fs := Sits.frozen S1.out
          (try dsimp only at q0 q1 q2 q3 q4 q5 q6 q7 q8 q9)
          go_upto_region 4 with fail
          refine wp_region_quiet (C := fun w' => Below w1.heap.size w1 w') (by kernel_rfl) (by kernel_rfl) ((Below.refl _ _).drew) ?_
          simp only []
          repeat (first
            | go_big_quiet_skip
            | (go_big_quiet_want
               unfold Oper.quiet
               apply Exists.intro
               refine ⟨fun w' hw' => ?_, ?_⟩
               (obtain ⟨q0, q1, q2, q3, q4, q5, q6, q7, q8, q9⟩ := rn_cells (Sits.below S1.out hw' (Sits.lt S1.out))
                (try dsimp only at q0 q1 q2 q3 q4 q5 q6 q7 q8 q9)
                go_simp
                first
                  | exact rfl)
               simp only [Act.put, List.setIfInBounds_toArray, List.set_cons_zero, List.set_cons_succ]
               go_big_quiet_on))
          refine wpQuiet_nil ?_
          intro w2 hw2
          have S2 : Hid (Sits w2 B (rnCells (Rn.mk r.mss r.cw r.th r.ac r.una r.nx r.du r.rc r.inn r.cut)) 24) := Sits.below S1.out hw2 (Sits.lt S1.out)
          have O2 : Hid (Only B w w2) := Only.trans O1.out (only_below hw2)
          clear hw2 S1 O1
          clear q0 q1 q2 q3 q4 q5 q6 q7 q8 q9 fs
          obtain ⟨q0, q1, q2, q3, q4, q5, q6, q7, q8, q9⟩ := rn_cells S2.out
          have fs := Sits.frozen S2.out
          (try dsimp only at q0 q1 q2 q3 q4 q5 q6 q7 q8 q9)
          have HF2 : Hid (Rn.fit (Rn.mk r.mss r.cw r.th r.ac r.una r.nx r.du r.rc false r.cut)) := HF.out
          have hh2 : Rn.half (Rn.mk r.mss r.cw r.th r.ac r.una r.nx r.du r.rc false r.cut) = h := hh
          go_upto_region 6 with (go_at_call 57; refine (l9half_any (Rn.mk r.mss r.cw r.th r.ac r.una r.nx r.du r.rc false r.cut) HF2.out _).mono ?_; rintro e w3 ⟨rfl, b9⟩; rw [hh2]; have s9 := Sits.below S2.out b9 (Sits.lt S2.out); have o9 := Only.trans O2.out (only_below b9); clear q0 q1 q2 q3 q4 q5 q6 q7 q8 q9 fs; obtain ⟨q0, q1, q2, q3, q4, q5, q6, q7, q8, q9⟩ := rn_cells s9; (try dsimp only at q0 q1 q2 q3 q4 q5 q6 q7 q8 q9); have fs := s9.frozen; have S3 : Hid (Sits w3 B (rnCells (Rn.mk r.mss r.cw r.th r.ac r.una r.nx r.du r.rc r.inn r.cut)) 24) := s9; have O3 : Hid (Only B w w3) := o9; clear s9 o9 b9)
          obtain ⟨w4, hW⟩ : ∃ x, (w3.setCell ⟨B, 2, none⟩ (.int .i64 h)) = x := ⟨_, rfl⟩
          have S4 : Hid (Sits w4 B (rnCells (Rn.mk r.mss r.cw h r.ac r.una r.nx r.du r.rc r.inn r.cut)) 24) := by rw [← hW]; exact rn_s2 (S3.out) _
          have O4 : Hid (Only B w w4) := by rw [← hW]; exact Only.set (O3.out) 2 _
          rw [hW]
          clear hW S3 O3
          clear q0 q1 q2 q3 q4 q5 q6 q7 q8 q9 fs
          obtain ⟨q0, q1, q2, q3, q4, q5, q6, q7, q8, q9⟩ := rn_cells S4.out
          have fs := Sits.frozen S4.out
          (try dsimp only at q0 q1 q2 q3 q4 q5 q6 q7 q8 q9)
          go_upto_region 6 with fail
          refine wp_region_qtail 14 (C := fun w' => Below w4.heap.size w4 w') (by kernel_rfl) (by kernel_rfl) ((Below.refl _ _).drew) ?_
          simp only [List.take_succ_cons, List.take_zero, List.drop_succ_cons, List.drop_zero]
          repeat (first
            | go_big_quiet_skip
            | (go_big_quiet_want
               unfold Oper.quiet
               apply Exists.intro
               refine ⟨fun w' hw' => ?_, ?_⟩
               (obtain ⟨q0, q1, q2, q3, q4, q5, q6, q7, q8, q9⟩ := rn_cells (Sits.below S4.out hw' (Sits.lt S4.out))
                (try dsimp only at q0 q1 q2 q3 q4 q5 q6 q7 q8 q9)
                go_simp
                first
                  | (go_at_call 47; refine (less_any _ _ _).mono ?_; rintro e w8 ⟨rfl, rfl⟩; rw [hX]; exact ⟨rfl, hw'⟩)
                  | exact rfl)
               simp only [Act.put, List.setIfInBounds_toArray, List.set_cons_zero, List.set_cons_succ]
               go_big_quiet_on))
          refine wpQuiet_nil ?_
          intro w5 hw5
          have S5 : Hid (Sits w5 B (rnCells (Rn.mk r.mss r.cw h r.ac r.una r.nx r.du r.rc r.inn r.cut)) 24) := Sits.below S4.out hw5 (Sits.lt S4.out)
          have O5 : Hid (Only B w w5) := Only.trans O4.out (only_below hw5)
          clear hw5 S4 O4
          clear q0 q1 q2 q3 q4 q5 q6 q7 q8 q9 fs
          obtain ⟨q0, q1, q2, q3, q4, q5, q6, q7, q8, q9⟩ := rn_cells S5.out
          have fs := Sits.frozen S5.out
          (try dsimp only at q0 q1 q2 q3 q4 q5 q6 q7 q8 q9)
          go_upto_region 8 with fail
          obtain ⟨w6, hW⟩ : ∃ x, ((w5.setCell ⟨B, 1, none⟩ (.int .i64 X)).setCell ⟨B, 7, none⟩ (.int .i64 r.nx)) = x := ⟨_, rfl⟩
          have S6 : Hid (Sits w6 B (rnCells (Rn.mk r.mss X h r.ac r.una r.nx r.du r.nx r.inn r.cut)) 24) := by rw [← hW]; exact rn_s7 (rn_s1 (S5.out) _) _
          have O6 : Hid (Only B w w6) := by rw [← hW]; exact Only.set (Only.set (O5.out) 1 _) 7 _
          rw [hW]
          clear hW S5 O5
          clear q0 q1 q2 q3 q4 q5 q6 q7 q8 q9 fs
          obtain ⟨q0, q1, q2, q3, q4, q5, q6, q7, q8, q9⟩ := rn_cells S6.out
          have fs := Sits.frozen S6.out
          (try dsimp only at q0 q1 q2 q3 q4 q5 q6 q7 q8 q9)
          go_wp2
          first | refine bodyPost_end (v := .tuple #[]) (by first | rfl | simp [results, go_sem] | simp [results, Try.results59, go_sem]) rfl ⟨rfl, ?_, Only.set (Only.set (O6.out) 8 _) 3 _⟩ | refine bodyPost_ret (v := .tuple #[]) (by first | rfl | simp [results, go_sem] | simp [results, Try.results59, go_sem]) rfl ⟨rfl, ?_, Only.set (Only.set (O6.out) 8 _) 3 _⟩
          first | exact rn_s3 (rn_s8 (S6.out) _) _ | (rw [← hi]; exact rn_s3 (rn_s8 (S6.out) _) _)
        · have hv : r.rep h = (Rn.mk r.mss r.cw r.th r.ac r.una r.nx r.du r.rc r.inn r.cut) := by unfold Rn.rep; rw [if_neg hn, eD, if_neg (fun k' => k3 k'.2)]
          rw [hv]
          clear hv k2 hn
          go_enter Try.func59, Try.ntmps59
          obtain ⟨q0, q1, q2, q3, q4, q5, q6, q7, q8, q9⟩ := rn_cells S0.out
          have fs := Sits.frozen S0.out
          (try dsimp only at q0 q1 q2 q3 q4 q5 q6 q7 q8 q9)
          go_upto_region 2 with fail
          obtain ⟨w1, hW⟩ : ∃ x, w = x := ⟨_, rfl⟩
          have S1 : Hid (Sits w1 B (rnCells (Rn.mk r.mss r.cw r.th r.ac r.una r.nx r.du r.rc r.inn r.cut)) 24) := by rw [← hW]; exact S0.out
          have O1 : Hid (Only B w w1) := by rw [← hW]; exact O0.out
          rw [hW]
          clear hW S0 O0
          clear q0 q1 q2 q3 q4 q5 q6 q7 q8 q9 fs
          obtain ⟨q0, q1, q2, q3, q4, q5, q6, q7, q8, q9⟩ := rn_cells S1.out
          have fs := Sits.frozen S1.out
          (try dsimp only at q0 q1 q2 q3 q4 q5 q6 q7 q8 q9)
          go_upto_region 4 with fail
          refine wp_region_quiet (C := fun w' => Below w1.heap.size w1 w') (by kernel_rfl) (by kernel_rfl) ((Below.refl _ _).drew) ?_
          simp only []
          repeat (first
            | go_big_quiet_skip
            | (go_big_quiet_want
               unfold Oper.quiet
               apply Exists.intro
               refine ⟨fun w' hw' => ?_, ?_⟩
               (obtain ⟨q0, q1, q2, q3, q4, q5, q6, q7, q8, q9⟩ := rn_cells (Sits.below S1.out hw' (Sits.lt S1.out))
                (try dsimp only at q0 q1 q2 q3 q4 q5 q6 q7 q8 q9)
                go_simp
                first
                  | exact rfl)
               simp only [Act.put, List.setIfInBounds_toArray, List.set_cons_zero, List.set_cons_succ]
               go_big_quiet_on))
          refine wpQuiet_nil ?_
          intro w2 hw2
          have S2 : Hid (Sits w2 B (rnCells (Rn.mk r.mss r.cw r.th r.ac r.una r.nx r.du r.rc r.inn r.cut)) 24) := Sits.below S1.out hw2 (Sits.lt S1.out)
          have O2 : Hid (Only B w w2) := Only.trans O1.out (only_below hw2)
          clear hw2 S1 O1
          clear q0 q1 q2 q3 q4 q5 q6 q7 q8 q9 fs
          obtain ⟨q0, q1, q2, q3, q4, q5, q6, q7, q8, q9⟩ := rn_cells S2.out
          have fs := Sits.frozen S2.out
          (try dsimp only at q0 q1 q2 q3 q4 q5 q6 q7 q8 q9)
          go_wp2
          first | refine bodyPost_end (v := .tuple #[]) (by first | rfl | simp [results, go_sem] | simp [results, Try.results59, go_sem]) rfl ⟨rfl, ?_, O2.out⟩ | refine bodyPost_ret (v := .tuple #[]) (by first | rfl | simp [results, go_sem] | simp [results, Try.results59, go_sem]) rfl ⟨rfl, ?_, O2.out⟩
          first | exact S2.out | (rw [← hi]; exact S2.out)
      · have k2' : (r.du == 3) = false := by simpa using k2
        have hv : r.rep h = (Rn.mk r.mss r.cw r.th r.ac r.una r.nx r.du r.rc r.inn r.cut) := by unfold Rn.rep; rw [if_neg hn, eD, if_neg (fun k' => k2 k'.1)]
        rw [hv]
        clear hv k2 hn
        go_enter Try.func59, Try.ntmps59
        obtain ⟨q0, q1, q2, q3, q4, q5, q6, q7, q8, q9⟩ := rn_cells S0.out
        have fs := Sits.frozen S0.out
        (try dsimp only at q0 q1 q2 q3 q4 q5 q6 q7 q8 q9)
        go_upto_region 2 with fail
        obtain ⟨w1, hW⟩ : ∃ x, w = x := ⟨_, rfl⟩
        have S1 : Hid (Sits w1 B (rnCells (Rn.mk r.mss r.cw r.th r.ac r.una r.nx r.du r.rc r.inn r.cut)) 24) := by rw [← hW]; exact S0.out
        have O1 : Hid (Only B w w1) := by rw [← hW]; exact O0.out
        rw [hW]
        clear hW S0 O0
        clear q0 q1 q2 q3 q4 q5 q6 q7 q8 q9 fs
        obtain ⟨q0, q1, q2, q3, q4, q5, q6, q7, q8, q9⟩ := rn_cells S1.out
        have fs := Sits.frozen S1.out
        (try dsimp only at q0 q1 q2 q3 q4 q5 q6 q7 q8 q9)
        go_upto_region 4 with fail
        refine wp_region_quiet (C := fun w' => Below w1.heap.size w1 w') (by kernel_rfl) (by kernel_rfl) ((Below.refl _ _).drew) ?_
        simp only []
        repeat (first
          | go_big_quiet_skip
          | (go_big_quiet_want
             unfold Oper.quiet
             apply Exists.intro
             refine ⟨fun w' hw' => ?_, ?_⟩
             (obtain ⟨q0, q1, q2, q3, q4, q5, q6, q7, q8, q9⟩ := rn_cells (Sits.below S1.out hw' (Sits.lt S1.out))
              (try dsimp only at q0 q1 q2 q3 q4 q5 q6 q7 q8 q9)
              go_simp
              first
                | exact rfl)
             simp only [Act.put, List.setIfInBounds_toArray, List.set_cons_zero, List.set_cons_succ]
             go_big_quiet_on))
        refine wpQuiet_nil ?_
        intro w2 hw2
        have S2 : Hid (Sits w2 B (rnCells (Rn.mk r.mss r.cw r.th r.ac r.una r.nx r.du r.rc r.inn r.cut)) 24) := Sits.below S1.out hw2 (Sits.lt S1.out)
        have O2 : Hid (Only B w w2) := Only.trans O1.out (only_below hw2)
        clear hw2 S1 O1
        clear q0 q1 q2 q3 q4 q5 q6 q7 q8 q9 fs
        obtain ⟨q0, q1, q2, q3, q4, q5, q6, q7, q8, q9⟩ := rn_cells S2.out
        have fs := Sits.frozen S2.out
        (try dsimp only at q0 q1 q2 q3 q4 q5 q6 q7 q8 q9)
        go_wp2
        first | refine bodyPost_end (v := .tuple #[]) (by first | rfl | simp [results, go_sem] | simp [results, Try.results59, go_sem]) rfl ⟨rfl, ?_, O2.out⟩ | refine bodyPost_ret (v := .tuple #[]) (by first | rfl | simp [results, go_sem] | simp [results, Try.results59, go_sem]) rfl ⟨rfl, ?_, O2.out⟩
        first | exact S2.out | (rw [← hi]; exact S2.out)

end Go.Proofs.Ytfflheebjbdnoae
