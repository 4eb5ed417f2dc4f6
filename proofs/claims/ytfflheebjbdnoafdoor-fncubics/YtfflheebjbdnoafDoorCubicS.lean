/-
  l10time, l10grow, l10loss, CubicGrow, CubicLoss OF THE SPECIFICATION.
-/
import Derived.Test.YtfflheebjbdnoafDoorCubicT
import Derived.Test.YtfflheebjbdnoafDoorQTail
namespace Go.Proofs.YtfflheebjbdnoafDoor
open Go.RowKit
set_option linter.unusedVariables false

theorem onlyB {B : Nat} {w w' : World} (h : Below w.heap.size w w') : Only B w w' := ⟨h.os, h.tape, h.output, h.size, fun k hk _ => h.block k hk⟩

set_option maxRecDepth 20000 in
set_option maxHeartbeats 1000000 in
theorem more2_any (a b : Int) (w : World) : Calls Tryd.prog 33 #[.int .i64 a, .int .i64 b] w fun e w' => e = .returned (.int .i64 (if a ≤ b then b else a)) ∧ w' = w := by
  by_cases h : a ≤ b
  · rw [if_pos h]
    go_enter Tryd.func33, Tryd.ntmps33
    go_wp2
    go_ret
    exact ⟨ret_int rfl, rfl⟩
  · rw [if_neg h]
    go_enter Tryd.func33, Tryd.ntmps33
    go_wp2
    go_ret
    exact ⟨ret_int rfl, rfl⟩

set_option maxRecDepth 100000 in
set_option maxHeartbeats 4000000 in
theorem l10grow_any (B : Nat) (r : Cb) (now : Int) (hg : r.good = true) (ht : r.timeB now = true) (hw : r.wn < 1048576) (w : World) (hS : Sits w B (cbCells r) 24) :
    Calls Tryd.prog 29 #[.pointer (some ⟨B, 0, none⟩), .int .i64 now] w fun e w' => e = .returned (.tuple #[]) ∧ Sits w' B (cbCells (r.grw now)) 24 ∧ Only B w w' := by
  obtain ⟨g1, g2, g3, g4, g5, g6, g7, g8, g9, g10⟩ := r.good_iff.1 hg
  obtain ⟨t0, t1, t2⟩ := (r.timeB_iff now).1 ht
  clear hg ht
  have S0 : Hid (Sits w B (cbCells r) 24) := hS
  have O0 : Hid (Only B w w) := Only.refl _ _
  clear hS
  by_cases k : r.wn < r.th
  · have hv : r.grw now = (Cb.mk (r.wn + 1) r.mx r.kk r.st r.th r.bg) := by unfold Cb.grw; rw [if_pos k]
    rw [hv]
    clear hv
    go_enter Tryd.func29, Tryd.ntmps29
    obtain ⟨q0, q1, q2, q3, q4, q5⟩ := cb_cells S0.out
    have fs := Sits.frozen S0.out
    (try dsimp only at q0 q1 q2 q3 q4 q5)
    go_upto_region 0 with fail
    refine wp_region_quiet (C := fun w' => Below w.heap.size w w') (by kernel_rfl) (by kernel_rfl) ((Below.refl _ _).drew) ?_
    simp only []
    repeat (first
      | go_big_quiet_skip
      | (go_big_quiet_want
         unfold Oper.quiet
         apply Exists.intro
         refine ⟨fun w' hw' => ?_, ?_⟩
         (obtain ⟨q0, q1, q2, q3, q4, q5⟩ := cb_cells (Sits.below S0.out hw' (Sits.lt S0.out))
          (try dsimp only at q0 q1 q2 q3 q4 q5)
          go_simp
          first
            | exact rfl)
         simp only [Act.put, List.setIfInBounds_toArray, List.set_cons_zero, List.set_cons_succ]
         go_big_quiet_on))
    refine wpQuiet_nil ?_
    intro w1 hw1
    have S1 : Hid (Sits w1 B (cbCells r) 24) := Sits.below S0.out hw1 (Sits.lt S0.out)
    have O1 : Hid (Only B w w1) := Only.trans O0.out (onlyB hw1)
    clear hw1 S0 O0
    clear q0 q1 q2 q3 q4 q5 fs
    obtain ⟨q0, q1, q2, q3, q4, q5⟩ := cb_cells S1.out
    have fs := Sits.frozen S1.out
    (try dsimp only at q0 q1 q2 q3 q4 q5)
    go_wp2
    first | refine bodyPost_end (v := .tuple #[]) (by first | rfl | simp [results, go_sem] | simp [results, Tryd.results29, go_sem]) rfl ⟨rfl, ?_, Only.set (O1.out) 0 _⟩ | refine bodyPost_ret (v := .tuple #[]) (by first | rfl | simp [results, go_sem] | simp [results, Tryd.results29, go_sem]) rfl ⟨rfl, ?_, Only.set (O1.out) 0 _⟩
    first | exact cb_s0 (S1.out) _ | (rw [← HB.out]; exact cb_s0 (S1.out) _)
  cases hb : r.bg
  case true =>
    obtain ⟨t2, t3⟩ := t2 hb
    obtain ⟨x, hx⟩ : ∃ x, wF r.mx r.kk (now - r.st) = x := ⟨_, rfl⟩
    obtain ⟨X, hX⟩ : ∃ X, towF r.wn x = X := ⟨_, rfl⟩
    have hv : r.grw now = (Cb.mk X r.mx r.kk r.st r.th r.bg) := by unfold Cb.grw; rw [if_neg k]; unfold Cb.opn; rw [if_pos hb, hx, hX]
    rw [hv]
    clear hv
    have HB : Hid (r.bg = true) := hb
    clear hb
    have HWI : Hid (0 ≤ r.mx ∧ r.mx ≤ 1048576 ∧ 0 ≤ r.kk ∧ r.kk ≤ 200000 ∧ 0 ≤ now - r.st ∧ now - r.st ≤ 1048576) := by show _ ∧ _; omega
    have e9 : IntKind.i64.wrap (now - r.st) = now - r.st := wrapc (by omega) (by omega)
    have e6 : IntKind.i64.wrap ((r.wn + 1).tdiv 2) = (r.wn + 1) / 2 := by rw [Int.tdiv_eq_ediv_of_nonneg (by omega)]; exact wrapc (by omega) (by omega)
    have e7 : IntKind.i64.wrap (r.wn + (r.wn + 1) / 2) = r.wn + (r.wn + 1) / 2 := wrapc (by omega) (by omega)
    have e8 : IntKind.i64.wrap (r.wn + 1) = r.wn + 1 := wrapc (by omega) (by omega)
    go_enter Tryd.func29, Tryd.ntmps29
    obtain ⟨q0, q1, q2, q3, q4, q5⟩ := cb_cells S0.out
    have fs := Sits.frozen S0.out
    (try dsimp only at q0 q1 q2 q3 q4 q5)
    (try rw [HB.out] at q5)
    go_upto_region 0 with fail
    refine wp_region_quiet (C := fun w' => Below w.heap.size w w') (by kernel_rfl) (by kernel_rfl) ((Below.refl _ _).drew) ?_
    simp only []
    repeat (first
      | go_big_quiet_skip
      | (go_big_quiet_want
         unfold Oper.quiet
         apply Exists.intro
         refine ⟨fun w' hw' => ?_, ?_⟩
         (obtain ⟨q0, q1, q2, q3, q4, q5⟩ := cb_cells (Sits.below S0.out hw' (Sits.lt S0.out))
          (try dsimp only at q0 q1 q2 q3 q4 q5)
          go_simp
          first
            | exact rfl)
         simp only [Act.put, List.setIfInBounds_toArray, List.set_cons_zero, List.set_cons_succ]
         go_big_quiet_on))
    refine wpQuiet_nil ?_
    intro w1 hw1
    have S1 : Hid (Sits w1 B (cbCells r) 24) := Sits.below S0.out hw1 (Sits.lt S0.out)
    have O1 : Hid (Only B w w1) := Only.trans O0.out (onlyB hw1)
    clear hw1 S0 O0
    clear q0 q1 q2 q3 q4 q5 fs
    obtain ⟨q0, q1, q2, q3, q4, q5⟩ := cb_cells S1.out
    have fs := Sits.frozen S1.out
    (try dsimp only at q0 q1 q2 q3 q4 q5)
    (try rw [HB.out] at q5)
    go_upto_region 8 with fail
    refine wp_region_quiet (C := fun w' => Below w1.heap.size w1 w') (by kernel_rfl) (by kernel_rfl) ((Below.refl _ _).drew) ?_
    simp only []
    repeat (first
      | go_big_quiet_skip
      | (go_big_quiet_want
         unfold Oper.quiet
         apply Exists.intro
         refine ⟨fun w' hw' => ?_, ?_⟩
         (obtain ⟨q0, q1, q2, q3, q4, q5⟩ := cb_cells (Sits.below S1.out hw' (Sits.lt S1.out))
          (try dsimp only at q0 q1 q2 q3 q4 q5)
          go_simp
          first
            | (go_at_call 35; refine (l10w_any _ _ _ HWI.out _).mono ?_; rintro e w8 ⟨rfl, rfl⟩; rw [hx]; exact ⟨rfl, hw'⟩)
            | exact rfl)
         simp only [Act.put, List.setIfInBounds_toArray, List.set_cons_zero, List.set_cons_succ]
         go_big_quiet_on))
    refine wpQuiet_nil ?_
    intro w2 hw2
    have S2 : Hid (Sits w2 B (cbCells r) 24) := Sits.below S1.out hw2 (Sits.lt S1.out)
    have O2 : Hid (Only B w w2) := Only.trans O1.out (onlyB hw2)
    clear hw2 S1 O1
    clear q0 q1 q2 q3 q4 q5 fs
    obtain ⟨q0, q1, q2, q3, q4, q5⟩ := cb_cells S2.out
    have fs := Sits.frozen S2.out
    (try dsimp only at q0 q1 q2 q3 q4 q5)
    go_upto_region 9 with fail
    refine wp_region_quiet (C := fun w' => Below w2.heap.size w2 w') (by kernel_rfl) (by kernel_rfl) ((Below.refl _ _).drew) ?_
    simp only []
    repeat (first
      | go_big_quiet_skip
      | (go_big_quiet_want
         unfold Oper.quiet
         apply Exists.intro
         refine ⟨fun w' hw' => ?_, ?_⟩
         (obtain ⟨q0, q1, q2, q3, q4, q5⟩ := cb_cells (Sits.below S2.out hw' (Sits.lt S2.out))
          (try dsimp only at q0 q1 q2 q3 q4 q5)
          go_simp
          first
            | exact rfl)
         simp only [Act.put, List.setIfInBounds_toArray, List.set_cons_zero, List.set_cons_succ]
         go_big_quiet_on))
    refine wpQuiet_nil ?_
    intro w3 hw3
    have S3 : Hid (Sits w3 B (cbCells r) 24) := Sits.below S2.out hw3 (Sits.lt S2.out)
    have O3 : Hid (Only B w w3) := Only.trans O2.out (onlyB hw3)
    clear hw3 S2 O2
    clear q0 q1 q2 q3 q4 q5 fs
    obtain ⟨q0, q1, q2, q3, q4, q5⟩ := cb_cells S3.out
    have fs := Sits.frozen S3.out
    (try dsimp only at q0 q1 q2 q3 q4 q5)
    have hcs : (r.wn + (r.wn + 1) / 2 < x ∧ r.wn < r.wn + (r.wn + 1) / 2) ∨ (¬ r.wn + (r.wn + 1) / 2 < x ∧ r.wn < x) ∨ (¬ r.wn + (r.wn + 1) / 2 < x ∧ ¬ r.wn < x) := by omega
    rcases hcs with ⟨k5, k6⟩ | ⟨k5, k6⟩ | ⟨k5, k6⟩
    · by_cases k7 : 1048576 < (r.wn + (r.wn + 1) / 2)
      · have hXe : X = 1048576 := by rw [← hX]; unfold towF cmin cmax; (repeat' split) <;> omega
        clear hX
        subst hXe
        go_wp2
        first | refine bodyPost_end (v := .tuple #[]) (by first | rfl | simp [results, go_sem] | simp [results, Tryd.results29, go_sem]) rfl ⟨rfl, ?_, Only.set (Only.set (O3.out) 0 _) 0 _⟩ | refine bodyPost_ret (v := .tuple #[]) (by first | rfl | simp [results, go_sem] | simp [results, Tryd.results29, go_sem]) rfl ⟨rfl, ?_, Only.set (Only.set (O3.out) 0 _) 0 _⟩
        first | exact cb_s0 (cb_s0 (S3.out) _) _ | (rw [← HB.out]; exact cb_s0 (cb_s0 (S3.out) _) _)
      · have hXe : X = (r.wn + (r.wn + 1) / 2) := by rw [← hX]; unfold towF cmin cmax; (repeat' split) <;> omega
        clear hX
        subst hXe
        go_wp2
        first | refine bodyPost_end (v := .tuple #[]) (by first | rfl | simp [results, go_sem] | simp [results, Tryd.results29, go_sem]) rfl ⟨rfl, ?_, Only.set (O3.out) 0 _⟩ | refine bodyPost_ret (v := .tuple #[]) (by first | rfl | simp [results, go_sem] | simp [results, Tryd.results29, go_sem]) rfl ⟨rfl, ?_, Only.set (O3.out) 0 _⟩
        first | exact cb_s0 (S3.out) _ | (rw [← HB.out]; exact cb_s0 (S3.out) _)
    · by_cases k7 : 1048576 < x
      · have hXe : X = 1048576 := by rw [← hX]; unfold towF cmin cmax; (repeat' split) <;> omega
        clear hX
        subst hXe
        go_wp2
        first | refine bodyPost_end (v := .tuple #[]) (by first | rfl | simp [results, go_sem] | simp [results, Tryd.results29, go_sem]) rfl ⟨rfl, ?_, Only.set (Only.set (O3.out) 0 _) 0 _⟩ | refine bodyPost_ret (v := .tuple #[]) (by first | rfl | simp [results, go_sem] | simp [results, Tryd.results29, go_sem]) rfl ⟨rfl, ?_, Only.set (Only.set (O3.out) 0 _) 0 _⟩
        first | exact cb_s0 (cb_s0 (S3.out) _) _ | (rw [← HB.out]; exact cb_s0 (cb_s0 (S3.out) _) _)
      · have hXe : X = x := by rw [← hX]; unfold towF cmin cmax; (repeat' split) <;> omega
        clear hX
        subst hXe
        go_wp2
        first | refine bodyPost_end (v := .tuple #[]) (by first | rfl | simp [results, go_sem] | simp [results, Tryd.results29, go_sem]) rfl ⟨rfl, ?_, Only.set (O3.out) 0 _⟩ | refine bodyPost_ret (v := .tuple #[]) (by first | rfl | simp [results, go_sem] | simp [results, Tryd.results29, go_sem]) rfl ⟨rfl, ?_, Only.set (O3.out) 0 _⟩
        first | exact cb_s0 (S3.out) _ | (rw [← HB.out]; exact cb_s0 (S3.out) _)
    · have hXe : X = r.wn := by rw [← hX]; unfold towF cmin cmax; (repeat' split) <;> omega
      clear hX
      subst hXe
      have k7 : ¬ 1048576 < r.wn := by omega
      go_wp2
      first | refine bodyPost_end (v := .tuple #[]) (by first | rfl | simp [results, go_sem] | simp [results, Tryd.results29, go_sem]) rfl ⟨rfl, ?_, O3.out⟩ | refine bodyPost_ret (v := .tuple #[]) (by first | rfl | simp [results, go_sem] | simp [results, Tryd.results29, go_sem]) rfl ⟨rfl, ?_, O3.out⟩
      first | exact S3.out | (rw [← HB.out]; exact S3.out)
  case false =>
    clear t2
    by_cases km : r.mx < r.wn
    · have hm : cmax r.mx r.wn = r.wn := by unfold cmax; split <;> omega
      obtain ⟨K, hK⟩ : ∃ K, kF r.wn r.wn = K := ⟨_, rfl⟩
      have hkb := kF_bd r.wn r.wn
      rw [hK] at hkb
      obtain ⟨hkb1, hkb2⟩ := hkb
      obtain ⟨x, hx⟩ : ∃ x, wF r.wn K 0 = x := ⟨_, rfl⟩
      obtain ⟨X, hX⟩ : ∃ X, towF r.wn x = X := ⟨_, rfl⟩
      have hv : r.grw now = (Cb.mk X r.wn K now r.th true) := by unfold Cb.grw; rw [if_neg k]; unfold Cb.opn; rw [if_neg (by rw [hb]; decide)]; unfold Cb.beg; dsimp only; rw [hm, hK, show now - now = (0 : Int) by omega, hx, hX]
      rw [hv]
      clear hv hm
      have HB : Hid (r.bg = false) := hb
      clear hb
      have HWI : Hid (0 ≤ r.wn ∧ r.wn ≤ 1048576 ∧ 0 ≤ K ∧ K ≤ 200000 ∧ (0 : Int) ≤ 0 ∧ (0 : Int) ≤ 1048576) := by show _ ∧ _; omega
      have e9 : IntKind.i64.wrap 0 = 0 := by decide
      have hk1 : 0 ≤ r.wn := by omega
      have hk2 : r.wn ≤ 1048576 := by omega
      have hk3 : 0 ≤ r.wn := by omega
      have hk4 : r.wn ≤ 1048576 := by omega
      have e6 : IntKind.i64.wrap ((r.wn + 1).tdiv 2) = (r.wn + 1) / 2 := by rw [Int.tdiv_eq_ediv_of_nonneg (by omega)]; exact wrapc (by omega) (by omega)
      have e7 : IntKind.i64.wrap (r.wn + (r.wn + 1) / 2) = r.wn + (r.wn + 1) / 2 := wrapc (by omega) (by omega)
      have e8 : IntKind.i64.wrap (r.wn + 1) = r.wn + 1 := wrapc (by omega) (by omega)
      go_enter Tryd.func29, Tryd.ntmps29
      obtain ⟨q0, q1, q2, q3, q4, q5⟩ := cb_cells S0.out
      have fs := Sits.frozen S0.out
      (try dsimp only at q0 q1 q2 q3 q4 q5)
      (try rw [HB.out] at q5)
      go_upto_region 0 with fail
      refine wp_region_quiet (C := fun w' => Below w.heap.size w w') (by kernel_rfl) (by kernel_rfl) ((Below.refl _ _).drew) ?_
      simp only []
      repeat (first
        | go_big_quiet_skip
        | (go_big_quiet_want
           unfold Oper.quiet
           apply Exists.intro
           refine ⟨fun w' hw' => ?_, ?_⟩
           (obtain ⟨q0, q1, q2, q3, q4, q5⟩ := cb_cells (Sits.below S0.out hw' (Sits.lt S0.out))
            (try dsimp only at q0 q1 q2 q3 q4 q5)
            go_simp
            first
              | exact rfl)
           simp only [Act.put, List.setIfInBounds_toArray, List.set_cons_zero, List.set_cons_succ]
           go_big_quiet_on))
      refine wpQuiet_nil ?_
      intro w1 hw1
      have S1 : Hid (Sits w1 B (cbCells r) 24) := Sits.below S0.out hw1 (Sits.lt S0.out)
      have O1 : Hid (Only B w w1) := Only.trans O0.out (onlyB hw1)
      clear hw1 S0 O0
      clear q0 q1 q2 q3 q4 q5 fs
      obtain ⟨q0, q1, q2, q3, q4, q5⟩ := cb_cells S1.out
      have fs := Sits.frozen S1.out
      (try dsimp only at q0 q1 q2 q3 q4 q5)
      (try rw [HB.out] at q5)
      go_upto_region 5 with fail
      obtain ⟨w2, hW⟩ : ∃ x, ((w1.setCell ⟨B, 5, none⟩ (.bool true)).setCell ⟨B, 3, none⟩ (.int .i64 now)) = x := ⟨_, rfl⟩
      have S2 : Hid (Sits w2 B (cbCells (Cb.mk r.wn r.mx r.kk now r.th true)) 24) := by rw [← hW]; exact cb_s3 (cb_s5 (S1.out) _) _
      have O2 : Hid (Only B w w2) := by rw [← hW]; exact Only.set (Only.set (O1.out) 5 _) 3 _
      rw [hW]
      clear hW S1 O1
      clear q0 q1 q2 q3 q4 q5 fs
      obtain ⟨q0, q1, q2, q3, q4, q5⟩ := cb_cells S2.out
      have fs := Sits.frozen S2.out
      (try dsimp only at q0 q1 q2 q3 q4 q5)
      go_upto_region 5 with fail
      refine wp_region_quiet (C := fun w' => Below w2.heap.size w2 w') (by kernel_rfl) (by kernel_rfl) ((Below.refl _ _).drew) ?_
      simp only []
      repeat (first
        | go_big_quiet_skip
        | (go_big_quiet_want
           unfold Oper.quiet
           apply Exists.intro
           refine ⟨fun w' hw' => ?_, ?_⟩
           (obtain ⟨q0, q1, q2, q3, q4, q5⟩ := cb_cells (Sits.below S2.out hw' (Sits.lt S2.out))
            (try dsimp only at q0 q1 q2 q3 q4 q5)
            go_simp
            first
              | exact rfl)
           simp only [Act.put, List.setIfInBounds_toArray, List.set_cons_zero, List.set_cons_succ]
           go_big_quiet_on))
      refine wpQuiet_nil ?_
      intro w3 hw3
      have S3 : Hid (Sits w3 B (cbCells (Cb.mk r.wn r.mx r.kk now r.th true)) 24) := Sits.below S2.out hw3 (Sits.lt S2.out)
      have O3 : Hid (Only B w w3) := Only.trans O2.out (onlyB hw3)
      clear hw3 S2 O2
      clear q0 q1 q2 q3 q4 q5 fs
      obtain ⟨q0, q1, q2, q3, q4, q5⟩ := cb_cells S3.out
      have fs := Sits.frozen S3.out
      (try dsimp only at q0 q1 q2 q3 q4 q5)
      go_upto_region 7 with fail
      obtain ⟨w4, hW⟩ : ∃ x, (w3.setCell ⟨B, 1, none⟩ (.int .i64 r.wn)) = x := ⟨_, rfl⟩
      have S4 : Hid (Sits w4 B (cbCells (Cb.mk r.wn r.wn r.kk now r.th true)) 24) := by rw [← hW]; exact cb_s1 (S3.out) _
      have O4 : Hid (Only B w w4) := by rw [← hW]; exact Only.set (O3.out) 1 _
      rw [hW]
      clear hW S3 O3
      clear q0 q1 q2 q3 q4 q5 fs
      obtain ⟨q0, q1, q2, q3, q4, q5⟩ := cb_cells S4.out
      have fs := Sits.frozen S4.out
      (try dsimp only at q0 q1 q2 q3 q4 q5)
      go_upto_region 7 with fail
      refine wp_region_qtail 12 (C := fun w' => Below w4.heap.size w4 w') (by kernel_rfl) (by kernel_rfl) ((Below.refl _ _).drew) ?_
      simp only [List.take_succ_cons, List.take_zero, List.drop_succ_cons, List.drop_zero]
      repeat (first
        | go_big_quiet_skip
        | (go_big_quiet_want
           unfold Oper.quiet
           apply Exists.intro
           refine ⟨fun w' hw' => ?_, ?_⟩
           (obtain ⟨q0, q1, q2, q3, q4, q5⟩ := cb_cells (Sits.below S4.out hw' (Sits.lt S4.out))
            (try dsimp only at q0 q1 q2 q3 q4 q5)
            go_simp
            first
              | (go_at_call 34; refine (l10k_any _ _ hk1 hk2 hk3 hk4 _).mono ?_; rintro e w8 ⟨rfl, rfl⟩; rw [hK]; exact ⟨rfl, hw'⟩)
              | exact rfl)
           simp only [Act.put, List.setIfInBounds_toArray, List.set_cons_zero, List.set_cons_succ]
           go_big_quiet_on))
      refine wpQuiet_nil ?_
      intro w5 hw5
      have S5 : Hid (Sits w5 B (cbCells (Cb.mk r.wn r.wn r.kk now r.th true)) 24) := Sits.below S4.out hw5 (Sits.lt S4.out)
      have O5 : Hid (Only B w w5) := Only.trans O4.out (onlyB hw5)
      clear hw5 S4 O4
      clear q0 q1 q2 q3 q4 q5 fs
      obtain ⟨q0, q1, q2, q3, q4, q5⟩ := cb_cells S5.out
      have fs := Sits.frozen S5.out
      (try dsimp only at q0 q1 q2 q3 q4 q5)
      go_upto_region 8 with fail
      obtain ⟨w6, hW⟩ : ∃ x, (w5.setCell ⟨B, 2, none⟩ (.int .i64 K)) = x := ⟨_, rfl⟩
      have S6 : Hid (Sits w6 B (cbCells (Cb.mk r.wn r.wn K now r.th true)) 24) := by rw [← hW]; exact cb_s2 (S5.out) _
      have O6 : Hid (Only B w w6) := by rw [← hW]; exact Only.set (O5.out) 2 _
      rw [hW]
      clear hW S5 O5
      clear q0 q1 q2 q3 q4 q5 fs
      obtain ⟨q0, q1, q2, q3, q4, q5⟩ := cb_cells S6.out
      have fs := Sits.frozen S6.out
      (try dsimp only at q0 q1 q2 q3 q4 q5)
      go_upto_region 8 with fail
      refine wp_region_quiet (C := fun w' => Below w6.heap.size w6 w') (by kernel_rfl) (by kernel_rfl) ((Below.refl _ _).drew) ?_
      simp only []
      repeat (first
        | go_big_quiet_skip
        | (go_big_quiet_want
           unfold Oper.quiet
           apply Exists.intro
           refine ⟨fun w' hw' => ?_, ?_⟩
           (obtain ⟨q0, q1, q2, q3, q4, q5⟩ := cb_cells (Sits.below S6.out hw' (Sits.lt S6.out))
            (try dsimp only at q0 q1 q2 q3 q4 q5)
            go_simp
            first
              | (go_at_call 35; refine (l10w_any _ _ _ HWI.out _).mono ?_; rintro e w8 ⟨rfl, rfl⟩; rw [hx]; exact ⟨rfl, hw'⟩)
              | exact rfl)
           simp only [Act.put, List.setIfInBounds_toArray, List.set_cons_zero, List.set_cons_succ]
           go_big_quiet_on))
      refine wpQuiet_nil ?_
      intro w7 hw7
      have S7 : Hid (Sits w7 B (cbCells (Cb.mk r.wn r.wn K now r.th true)) 24) := Sits.below S6.out hw7 (Sits.lt S6.out)
      have O7 : Hid (Only B w w7) := Only.trans O6.out (onlyB hw7)
      clear hw7 S6 O6
      clear q0 q1 q2 q3 q4 q5 fs
      obtain ⟨q0, q1, q2, q3, q4, q5⟩ := cb_cells S7.out
      have fs := Sits.frozen S7.out
      (try dsimp only at q0 q1 q2 q3 q4 q5)
      go_upto_region 9 with fail
      refine wp_region_quiet (C := fun w' => Below w7.heap.size w7 w') (by kernel_rfl) (by kernel_rfl) ((Below.refl _ _).drew) ?_
      simp only []
      repeat (first
        | go_big_quiet_skip
        | (go_big_quiet_want
           unfold Oper.quiet
           apply Exists.intro
           refine ⟨fun w' hw' => ?_, ?_⟩
           (obtain ⟨q0, q1, q2, q3, q4, q5⟩ := cb_cells (Sits.below S7.out hw' (Sits.lt S7.out))
            (try dsimp only at q0 q1 q2 q3 q4 q5)
            go_simp
            first
              | exact rfl)
           simp only [Act.put, List.setIfInBounds_toArray, List.set_cons_zero, List.set_cons_succ]
           go_big_quiet_on))
      refine wpQuiet_nil ?_
      intro w8 hw8
      have S8 : Hid (Sits w8 B (cbCells (Cb.mk r.wn r.wn K now r.th true)) 24) := Sits.below S7.out hw8 (Sits.lt S7.out)
      have O8 : Hid (Only B w w8) := Only.trans O7.out (onlyB hw8)
      clear hw8 S7 O7
      clear q0 q1 q2 q3 q4 q5 fs
      obtain ⟨q0, q1, q2, q3, q4, q5⟩ := cb_cells S8.out
      have fs := Sits.frozen S8.out
      (try dsimp only at q0 q1 q2 q3 q4 q5)
      have hcs : (r.wn + (r.wn + 1) / 2 < x ∧ r.wn < r.wn + (r.wn + 1) / 2) ∨ (¬ r.wn + (r.wn + 1) / 2 < x ∧ r.wn < x) ∨ (¬ r.wn + (r.wn + 1) / 2 < x ∧ ¬ r.wn < x) := by omega
      rcases hcs with ⟨k5, k6⟩ | ⟨k5, k6⟩ | ⟨k5, k6⟩
      · by_cases k7 : 1048576 < (r.wn + (r.wn + 1) / 2)
        · have hXe : X = 1048576 := by rw [← hX]; unfold towF cmin cmax; (repeat' split) <;> omega
          clear hX
          subst hXe
          go_wp2
          first | refine bodyPost_end (v := .tuple #[]) (by first | rfl | simp [results, go_sem] | simp [results, Tryd.results29, go_sem]) rfl ⟨rfl, ?_, Only.set (Only.set (O8.out) 0 _) 0 _⟩ | refine bodyPost_ret (v := .tuple #[]) (by first | rfl | simp [results, go_sem] | simp [results, Tryd.results29, go_sem]) rfl ⟨rfl, ?_, Only.set (Only.set (O8.out) 0 _) 0 _⟩
          first | exact cb_s0 (cb_s0 (S8.out) _) _ | (rw [← HB.out]; exact cb_s0 (cb_s0 (S8.out) _) _)
        · have hXe : X = (r.wn + (r.wn + 1) / 2) := by rw [← hX]; unfold towF cmin cmax; (repeat' split) <;> omega
          clear hX
          subst hXe
          go_wp2
          first | refine bodyPost_end (v := .tuple #[]) (by first | rfl | simp [results, go_sem] | simp [results, Tryd.results29, go_sem]) rfl ⟨rfl, ?_, Only.set (O8.out) 0 _⟩ | refine bodyPost_ret (v := .tuple #[]) (by first | rfl | simp [results, go_sem] | simp [results, Tryd.results29, go_sem]) rfl ⟨rfl, ?_, Only.set (O8.out) 0 _⟩
          first | exact cb_s0 (S8.out) _ | (rw [← HB.out]; exact cb_s0 (S8.out) _)
      · by_cases k7 : 1048576 < x
        · have hXe : X = 1048576 := by rw [← hX]; unfold towF cmin cmax; (repeat' split) <;> omega
          clear hX
          subst hXe
          go_wp2
          first | refine bodyPost_end (v := .tuple #[]) (by first | rfl | simp [results, go_sem] | simp [results, Tryd.results29, go_sem]) rfl ⟨rfl, ?_, Only.set (Only.set (O8.out) 0 _) 0 _⟩ | refine bodyPost_ret (v := .tuple #[]) (by first | rfl | simp [results, go_sem] | simp [results, Tryd.results29, go_sem]) rfl ⟨rfl, ?_, Only.set (Only.set (O8.out) 0 _) 0 _⟩
          first | exact cb_s0 (cb_s0 (S8.out) _) _ | (rw [← HB.out]; exact cb_s0 (cb_s0 (S8.out) _) _)
        · have hXe : X = x := by rw [← hX]; unfold towF cmin cmax; (repeat' split) <;> omega
          clear hX
          subst hXe
          go_wp2
          first | refine bodyPost_end (v := .tuple #[]) (by first | rfl | simp [results, go_sem] | simp [results, Tryd.results29, go_sem]) rfl ⟨rfl, ?_, Only.set (O8.out) 0 _⟩ | refine bodyPost_ret (v := .tuple #[]) (by first | rfl | simp [results, go_sem] | simp [results, Tryd.results29, go_sem]) rfl ⟨rfl, ?_, Only.set (O8.out) 0 _⟩
          first | exact cb_s0 (S8.out) _ | (rw [← HB.out]; exact cb_s0 (S8.out) _)
      · have hXe : X = r.wn := by rw [← hX]; unfold towF cmin cmax; (repeat' split) <;> omega
        clear hX
        subst hXe
        have k7 : ¬ 1048576 < r.wn := by omega
        go_wp2
        first | refine bodyPost_end (v := .tuple #[]) (by first | rfl | simp [results, go_sem] | simp [results, Tryd.results29, go_sem]) rfl ⟨rfl, ?_, O8.out⟩ | refine bodyPost_ret (v := .tuple #[]) (by first | rfl | simp [results, go_sem] | simp [results, Tryd.results29, go_sem]) rfl ⟨rfl, ?_, O8.out⟩
        first | exact S8.out | (rw [← HB.out]; exact S8.out)
    · have hm : cmax r.mx r.wn = r.mx := by unfold cmax; split <;> omega
      obtain ⟨K, hK⟩ : ∃ K, kF r.mx r.wn = K := ⟨_, rfl⟩
      have hkb := kF_bd r.mx r.wn
      rw [hK] at hkb
      obtain ⟨hkb1, hkb2⟩ := hkb
      obtain ⟨x, hx⟩ : ∃ x, wF r.mx K 0 = x := ⟨_, rfl⟩
      obtain ⟨X, hX⟩ : ∃ X, towF r.wn x = X := ⟨_, rfl⟩
      have hv : r.grw now = (Cb.mk X r.mx K now r.th true) := by unfold Cb.grw; rw [if_neg k]; unfold Cb.opn; rw [if_neg (by rw [hb]; decide)]; unfold Cb.beg; dsimp only; rw [hm, hK, show now - now = (0 : Int) by omega, hx, hX]
      rw [hv]
      clear hv hm
      have HB : Hid (r.bg = false) := hb
      clear hb
      have HWI : Hid (0 ≤ r.mx ∧ r.mx ≤ 1048576 ∧ 0 ≤ K ∧ K ≤ 200000 ∧ (0 : Int) ≤ 0 ∧ (0 : Int) ≤ 1048576) := by show _ ∧ _; omega
      have e9 : IntKind.i64.wrap 0 = 0 := by decide
      have hk1 : 0 ≤ r.mx := by omega
      have hk2 : r.mx ≤ 1048576 := by omega
      have hk3 : 0 ≤ r.wn := by omega
      have hk4 : r.wn ≤ 1048576 := by omega
      have e6 : IntKind.i64.wrap ((r.wn + 1).tdiv 2) = (r.wn + 1) / 2 := by rw [Int.tdiv_eq_ediv_of_nonneg (by omega)]; exact wrapc (by omega) (by omega)
      have e7 : IntKind.i64.wrap (r.wn + (r.wn + 1) / 2) = r.wn + (r.wn + 1) / 2 := wrapc (by omega) (by omega)
      have e8 : IntKind.i64.wrap (r.wn + 1) = r.wn + 1 := wrapc (by omega) (by omega)
      go_enter Tryd.func29, Tryd.ntmps29
      obtain ⟨q0, q1, q2, q3, q4, q5⟩ := cb_cells S0.out
      have fs := Sits.frozen S0.out
      (try dsimp only at q0 q1 q2 q3 q4 q5)
      (try rw [HB.out] at q5)
      go_upto_region 0 with fail
      refine wp_region_quiet (C := fun w' => Below w.heap.size w w') (by kernel_rfl) (by kernel_rfl) ((Below.refl _ _).drew) ?_
      simp only []
      repeat (first
        | go_big_quiet_skip
        | (go_big_quiet_want
           unfold Oper.quiet
           apply Exists.intro
           refine ⟨fun w' hw' => ?_, ?_⟩
           (obtain ⟨q0, q1, q2, q3, q4, q5⟩ := cb_cells (Sits.below S0.out hw' (Sits.lt S0.out))
            (try dsimp only at q0 q1 q2 q3 q4 q5)
            go_simp
            first
              | exact rfl)
           simp only [Act.put, List.setIfInBounds_toArray, List.set_cons_zero, List.set_cons_succ]
           go_big_quiet_on))
      refine wpQuiet_nil ?_
      intro w1 hw1
      have S1 : Hid (Sits w1 B (cbCells r) 24) := Sits.below S0.out hw1 (Sits.lt S0.out)
      have O1 : Hid (Only B w w1) := Only.trans O0.out (onlyB hw1)
      clear hw1 S0 O0
      clear q0 q1 q2 q3 q4 q5 fs
      obtain ⟨q0, q1, q2, q3, q4, q5⟩ := cb_cells S1.out
      have fs := Sits.frozen S1.out
      (try dsimp only at q0 q1 q2 q3 q4 q5)
      (try rw [HB.out] at q5)
      go_upto_region 5 with fail
      obtain ⟨w2, hW⟩ : ∃ x, ((w1.setCell ⟨B, 5, none⟩ (.bool true)).setCell ⟨B, 3, none⟩ (.int .i64 now)) = x := ⟨_, rfl⟩
      have S2 : Hid (Sits w2 B (cbCells (Cb.mk r.wn r.mx r.kk now r.th true)) 24) := by rw [← hW]; exact cb_s3 (cb_s5 (S1.out) _) _
      have O2 : Hid (Only B w w2) := by rw [← hW]; exact Only.set (Only.set (O1.out) 5 _) 3 _
      rw [hW]
      clear hW S1 O1
      clear q0 q1 q2 q3 q4 q5 fs
      obtain ⟨q0, q1, q2, q3, q4, q5⟩ := cb_cells S2.out
      have fs := Sits.frozen S2.out
      (try dsimp only at q0 q1 q2 q3 q4 q5)
      go_upto_region 5 with fail
      refine wp_region_quiet (C := fun w' => Below w2.heap.size w2 w') (by kernel_rfl) (by kernel_rfl) ((Below.refl _ _).drew) ?_
      simp only []
      repeat (first
        | go_big_quiet_skip
        | (go_big_quiet_want
           unfold Oper.quiet
           apply Exists.intro
           refine ⟨fun w' hw' => ?_, ?_⟩
           (obtain ⟨q0, q1, q2, q3, q4, q5⟩ := cb_cells (Sits.below S2.out hw' (Sits.lt S2.out))
            (try dsimp only at q0 q1 q2 q3 q4 q5)
            go_simp
            first
              | exact rfl)
           simp only [Act.put, List.setIfInBounds_toArray, List.set_cons_zero, List.set_cons_succ]
           go_big_quiet_on))
      refine wpQuiet_nil ?_
      intro w3 hw3
      have S3 : Hid (Sits w3 B (cbCells (Cb.mk r.wn r.mx r.kk now r.th true)) 24) := Sits.below S2.out hw3 (Sits.lt S2.out)
      have O3 : Hid (Only B w w3) := Only.trans O2.out (onlyB hw3)
      clear hw3 S2 O2
      clear q0 q1 q2 q3 q4 q5 fs
      obtain ⟨q0, q1, q2, q3, q4, q5⟩ := cb_cells S3.out
      have fs := Sits.frozen S3.out
      (try dsimp only at q0 q1 q2 q3 q4 q5)
      go_upto_region 7 with fail
      refine wp_region_qtail 12 (C := fun w' => Below w3.heap.size w3 w') (by kernel_rfl) (by kernel_rfl) ((Below.refl _ _).drew) ?_
      simp only [List.take_succ_cons, List.take_zero, List.drop_succ_cons, List.drop_zero]
      repeat (first
        | go_big_quiet_skip
        | (go_big_quiet_want
           unfold Oper.quiet
           apply Exists.intro
           refine ⟨fun w' hw' => ?_, ?_⟩
           (obtain ⟨q0, q1, q2, q3, q4, q5⟩ := cb_cells (Sits.below S3.out hw' (Sits.lt S3.out))
            (try dsimp only at q0 q1 q2 q3 q4 q5)
            go_simp
            first
              | (go_at_call 34; refine (l10k_any _ _ hk1 hk2 hk3 hk4 _).mono ?_; rintro e w8 ⟨rfl, rfl⟩; rw [hK]; exact ⟨rfl, hw'⟩)
              | exact rfl)
           simp only [Act.put, List.setIfInBounds_toArray, List.set_cons_zero, List.set_cons_succ]
           go_big_quiet_on))
      refine wpQuiet_nil ?_
      intro w4 hw4
      have S4 : Hid (Sits w4 B (cbCells (Cb.mk r.wn r.mx r.kk now r.th true)) 24) := Sits.below S3.out hw4 (Sits.lt S3.out)
      have O4 : Hid (Only B w w4) := Only.trans O3.out (onlyB hw4)
      clear hw4 S3 O3
      clear q0 q1 q2 q3 q4 q5 fs
      obtain ⟨q0, q1, q2, q3, q4, q5⟩ := cb_cells S4.out
      have fs := Sits.frozen S4.out
      (try dsimp only at q0 q1 q2 q3 q4 q5)
      go_upto_region 8 with fail
      obtain ⟨w5, hW⟩ : ∃ x, (w4.setCell ⟨B, 2, none⟩ (.int .i64 K)) = x := ⟨_, rfl⟩
      have S5 : Hid (Sits w5 B (cbCells (Cb.mk r.wn r.mx K now r.th true)) 24) := by rw [← hW]; exact cb_s2 (S4.out) _
      have O5 : Hid (Only B w w5) := by rw [← hW]; exact Only.set (O4.out) 2 _
      rw [hW]
      clear hW S4 O4
      clear q0 q1 q2 q3 q4 q5 fs
      obtain ⟨q0, q1, q2, q3, q4, q5⟩ := cb_cells S5.out
      have fs := Sits.frozen S5.out
      (try dsimp only at q0 q1 q2 q3 q4 q5)
      go_upto_region 8 with fail
      refine wp_region_quiet (C := fun w' => Below w5.heap.size w5 w') (by kernel_rfl) (by kernel_rfl) ((Below.refl _ _).drew) ?_
      simp only []
      repeat (first
        | go_big_quiet_skip
        | (go_big_quiet_want
           unfold Oper.quiet
           apply Exists.intro
           refine ⟨fun w' hw' => ?_, ?_⟩
           (obtain ⟨q0, q1, q2, q3, q4, q5⟩ := cb_cells (Sits.below S5.out hw' (Sits.lt S5.out))
            (try dsimp only at q0 q1 q2 q3 q4 q5)
            go_simp
            first
              | (go_at_call 35; refine (l10w_any _ _ _ HWI.out _).mono ?_; rintro e w8 ⟨rfl, rfl⟩; rw [hx]; exact ⟨rfl, hw'⟩)
              | exact rfl)
           simp only [Act.put, List.setIfInBounds_toArray, List.set_cons_zero, List.set_cons_succ]
           go_big_quiet_on))
      refine wpQuiet_nil ?_
      intro w6 hw6
      have S6 : Hid (Sits w6 B (cbCells (Cb.mk r.wn r.mx K now r.th true)) 24) := Sits.below S5.out hw6 (Sits.lt S5.out)
      have O6 : Hid (Only B w w6) := Only.trans O5.out (onlyB hw6)
      clear hw6 S5 O5
      clear q0 q1 q2 q3 q4 q5 fs
      obtain ⟨q0, q1, q2, q3, q4, q5⟩ := cb_cells S6.out
      have fs := Sits.frozen S6.out
      (try dsimp only at q0 q1 q2 q3 q4 q5)
      go_upto_region 9 with fail
      refine wp_region_quiet (C := fun w' => Below w6.heap.size w6 w') (by kernel_rfl) (by kernel_rfl) ((Below.refl _ _).drew) ?_
      simp only []
      repeat (first
        | go_big_quiet_skip
        | (go_big_quiet_want
           unfold Oper.quiet
           apply Exists.intro
           refine ⟨fun w' hw' => ?_, ?_⟩
           (obtain ⟨q0, q1, q2, q3, q4, q5⟩ := cb_cells (Sits.below S6.out hw' (Sits.lt S6.out))
            (try dsimp only at q0 q1 q2 q3 q4 q5)
            go_simp
            first
              | exact rfl)
           simp only [Act.put, List.setIfInBounds_toArray, List.set_cons_zero, List.set_cons_succ]
           go_big_quiet_on))
      refine wpQuiet_nil ?_
      intro w7 hw7
      have S7 : Hid (Sits w7 B (cbCells (Cb.mk r.wn r.mx K now r.th true)) 24) := Sits.below S6.out hw7 (Sits.lt S6.out)
      have O7 : Hid (Only B w w7) := Only.trans O6.out (onlyB hw7)
      clear hw7 S6 O6
      clear q0 q1 q2 q3 q4 q5 fs
      obtain ⟨q0, q1, q2, q3, q4, q5⟩ := cb_cells S7.out
      have fs := Sits.frozen S7.out
      (try dsimp only at q0 q1 q2 q3 q4 q5)
      have hcs : (r.wn + (r.wn + 1) / 2 < x ∧ r.wn < r.wn + (r.wn + 1) / 2) ∨ (¬ r.wn + (r.wn + 1) / 2 < x ∧ r.wn < x) ∨ (¬ r.wn + (r.wn + 1) / 2 < x ∧ ¬ r.wn < x) := by omega
      rcases hcs with ⟨k5, k6⟩ | ⟨k5, k6⟩ | ⟨k5, k6⟩
      · by_cases k7 : 1048576 < (r.wn + (r.wn + 1) / 2)
        · have hXe : X = 1048576 := by rw [← hX]; unfold towF cmin cmax; (repeat' split) <;> omega
          clear hX
          subst hXe
          go_wp2
          first | refine bodyPost_end (v := .tuple #[]) (by first | rfl | simp [results, go_sem] | simp [results, Tryd.results29, go_sem]) rfl ⟨rfl, ?_, Only.set (Only.set (O7.out) 0 _) 0 _⟩ | refine bodyPost_ret (v := .tuple #[]) (by first | rfl | simp [results, go_sem] | simp [results, Tryd.results29, go_sem]) rfl ⟨rfl, ?_, Only.set (Only.set (O7.out) 0 _) 0 _⟩
          first | exact cb_s0 (cb_s0 (S7.out) _) _ | (rw [← HB.out]; exact cb_s0 (cb_s0 (S7.out) _) _)
        · have hXe : X = (r.wn + (r.wn + 1) / 2) := by rw [← hX]; unfold towF cmin cmax; (repeat' split) <;> omega
          clear hX
          subst hXe
          go_wp2
          first | refine bodyPost_end (v := .tuple #[]) (by first | rfl | simp [results, go_sem] | simp [results, Tryd.results29, go_sem]) rfl ⟨rfl, ?_, Only.set (O7.out) 0 _⟩ | refine bodyPost_ret (v := .tuple #[]) (by first | rfl | simp [results, go_sem] | simp [results, Tryd.results29, go_sem]) rfl ⟨rfl, ?_, Only.set (O7.out) 0 _⟩
          first | exact cb_s0 (S7.out) _ | (rw [← HB.out]; exact cb_s0 (S7.out) _)
      · by_cases k7 : 1048576 < x
        · have hXe : X = 1048576 := by rw [← hX]; unfold towF cmin cmax; (repeat' split) <;> omega
          clear hX
          subst hXe
          go_wp2
          first | refine bodyPost_end (v := .tuple #[]) (by first | rfl | simp [results, go_sem] | simp [results, Tryd.results29, go_sem]) rfl ⟨rfl, ?_, Only.set (Only.set (O7.out) 0 _) 0 _⟩ | refine bodyPost_ret (v := .tuple #[]) (by first | rfl | simp [results, go_sem] | simp [results, Tryd.results29, go_sem]) rfl ⟨rfl, ?_, Only.set (Only.set (O7.out) 0 _) 0 _⟩
          first | exact cb_s0 (cb_s0 (S7.out) _) _ | (rw [← HB.out]; exact cb_s0 (cb_s0 (S7.out) _) _)
        · have hXe : X = x := by rw [← hX]; unfold towF cmin cmax; (repeat' split) <;> omega
          clear hX
          subst hXe
          go_wp2
          first | refine bodyPost_end (v := .tuple #[]) (by first | rfl | simp [results, go_sem] | simp [results, Tryd.results29, go_sem]) rfl ⟨rfl, ?_, Only.set (O7.out) 0 _⟩ | refine bodyPost_ret (v := .tuple #[]) (by first | rfl | simp [results, go_sem] | simp [results, Tryd.results29, go_sem]) rfl ⟨rfl, ?_, Only.set (O7.out) 0 _⟩
          first | exact cb_s0 (S7.out) _ | (rw [← HB.out]; exact cb_s0 (S7.out) _)
      · have hXe : X = r.wn := by rw [← hX]; unfold towF cmin cmax; (repeat' split) <;> omega
        clear hX
        subst hXe
        have k7 : ¬ 1048576 < r.wn := by omega
        go_wp2
        first | refine bodyPost_end (v := .tuple #[]) (by first | rfl | simp [results, go_sem] | simp [results, Tryd.results29, go_sem]) rfl ⟨rfl, ?_, O7.out⟩ | refine bodyPost_ret (v := .tuple #[]) (by first | rfl | simp [results, go_sem] | simp [results, Tryd.results29, go_sem]) rfl ⟨rfl, ?_, O7.out⟩
        first | exact S7.out | (rw [← HB.out]; exact S7.out)

set_option maxRecDepth 100000 in
set_option maxHeartbeats 4000000 in
theorem l10loss_any (B : Nat) (r : Cb) (now : Int) (hg : r.good = true) (w : World) (hS : Sits w B (cbCells r) 24) :
    Calls Tryd.prog 28 #[.pointer (some ⟨B, 0, none⟩), .int .i64 now] w fun e w' => e = .returned (.tuple #[]) ∧ Sits w' B (cbCells (r.los now)) 24 ∧ Only B w w' := by
  obtain ⟨g1, g2, g3, g4, g5, g6, g7, g8, g9, g10⟩ := r.good_iff.1 hg
  clear hg
  have S0 : Hid (Sits w B (cbCells r) 24) := hS
  have O0 : Hid (Only B w w) := Only.refl _ _
  clear hS
  obtain ⟨t, ht⟩ : ∃ t, cmax (cmax (r.wn * 7 / 10) 1) 2 = t := ⟨_, rfl⟩
  have e7 : IntKind.i64.wrap ((r.wn * 7).tdiv 10) = r.wn * 7 / 10 := by rw [Int.tdiv_eq_ediv_of_nonneg (by omega)]; exact wrapc (by omega) (by omega)
  have e8 : IntKind.i64.wrap ((r.wn * 17).tdiv 20) = r.wn * 17 / 20 := by rw [Int.tdiv_eq_ediv_of_nonneg (by omega)]; exact wrapc (by omega) (by omega)
  have e9 : IntKind.i64.wrap (r.wn * 7) = r.wn * 7 := wrapc (by omega) (by omega)
  have e10 : IntKind.i64.wrap (r.wn * 17) = r.wn * 17 := wrapc (by omega) (by omega)
  by_cases k : r.wn < r.mx
  · have hm : heiF r.wn r.mx = (r.wn * 17 / 20) := by unfold heiF; split <;> omega
    by_cases k2 : r.wn * 7 / 10 < 1
    · have hv : cmax (r.wn * 7 / 10) 1 = 1 := by unfold cmax; split <;> omega
      rw [hv] at ht
      obtain ⟨K, hK⟩ : ∃ K, kF (r.wn * 17 / 20) 1 = K := ⟨_, rfl⟩
      have hlos : r.los now = (Cb.mk 1 (r.wn * 17 / 20) K now t true) := by unfold Cb.los Cb.beg; dsimp only; rw [hm, hv, ht, hK]
      rw [hlos]
      clear hlos hm hv
      have ht2 : (if (1 : Int) ≤ 2 then 2 else 1) = t := by rw [← ht]; unfold cmax; (repeat' split) <;> omega
      have HM : Hid (∀ W, Calls Tryd.prog 33 #[.int .i64 1, .int .i64 2] W fun e w' => e = .returned (.int .i64 t) ∧ w' = W) := fun W => by
        have h := more2_any 1 2 W
        rw [ht2] at h
        exact h
      clear ht ht2
      have hk1 : 0 ≤ (r.wn * 17 / 20) := by omega
      have hk2 : (r.wn * 17 / 20) ≤ 1048576 := by omega
      have hk3 : (0 : Int) ≤ 1 := by omega
      have hk4 : 1 ≤ (1048576 : Int) := by omega
      go_enter Tryd.func28, Tryd.ntmps28
      obtain ⟨q0, q1, q2, q3, q4, q5⟩ := cb_cells S0.out
      have fs := Sits.frozen S0.out
      (try dsimp only at q0 q1 q2 q3 q4 q5)
      go_upto_region 0 with fail
      refine wp_region_quiet (C := fun w' => Below w.heap.size w w') (by kernel_rfl) (by kernel_rfl) ((Below.refl _ _).drew) ?_
      simp only []
      repeat (first
        | go_big_quiet_skip
        | (go_big_quiet_want
           unfold Oper.quiet
           apply Exists.intro
           refine ⟨fun w' hw' => ?_, ?_⟩
           (obtain ⟨q0, q1, q2, q3, q4, q5⟩ := cb_cells (Sits.below S0.out hw' (Sits.lt S0.out))
            (try dsimp only at q0 q1 q2 q3 q4 q5)
            go_simp
            first
              | exact rfl)
           simp only [Act.put, List.setIfInBounds_toArray, List.set_cons_zero, List.set_cons_succ]
           go_big_quiet_on))
      refine wpQuiet_nil ?_
      intro w1 hw1
      have S1 : Hid (Sits w1 B (cbCells r) 24) := Sits.below S0.out hw1 (Sits.lt S0.out)
      have O1 : Hid (Only B w w1) := Only.trans O0.out (onlyB hw1)
      clear hw1 S0 O0
      clear q0 q1 q2 q3 q4 q5 fs
      obtain ⟨q0, q1, q2, q3, q4, q5⟩ := cb_cells S1.out
      have fs := Sits.frozen S1.out
      (try dsimp only at q0 q1 q2 q3 q4 q5)
      go_upto_region 3 with fail
      obtain ⟨w2, hW⟩ : ∃ x, (w1.setCell ⟨B, 1, none⟩ (.int .i64 (r.wn * 17 / 20))) = x := ⟨_, rfl⟩
      have S2 : Hid (Sits w2 B (cbCells (Cb.mk r.wn (r.wn * 17 / 20) r.kk r.st r.th r.bg)) 24) := by rw [← hW]; exact cb_s1 (S1.out) _
      have O2 : Hid (Only B w w2) := by rw [← hW]; exact Only.set (O1.out) 1 _
      rw [hW]
      clear hW S1 O1
      clear q0 q1 q2 q3 q4 q5 fs
      obtain ⟨q0, q1, q2, q3, q4, q5⟩ := cb_cells S2.out
      have fs := Sits.frozen S2.out
      (try dsimp only at q0 q1 q2 q3 q4 q5)
      go_upto_region 6 with fail
      obtain ⟨w3, hW⟩ : ∃ x, ((w2.setCell ⟨B, 0, none⟩ (.int .i64 (r.wn * 7 / 10))).setCell ⟨B, 0, none⟩ (.int .i64 1)) = x := ⟨_, rfl⟩
      have S3 : Hid (Sits w3 B (cbCells (Cb.mk 1 (r.wn * 17 / 20) r.kk r.st r.th r.bg)) 24) := by rw [← hW]; exact cb_s0 (cb_s0 (S2.out) _) _
      have O3 : Hid (Only B w w3) := by rw [← hW]; exact Only.set (Only.set (O2.out) 0 _) 0 _
      rw [hW]
      clear hW S2 O2
      clear q0 q1 q2 q3 q4 q5 fs
      obtain ⟨q0, q1, q2, q3, q4, q5⟩ := cb_cells S3.out
      have fs := Sits.frozen S3.out
      (try dsimp only at q0 q1 q2 q3 q4 q5)
      go_upto_region 7 with (go_at_call 33; refine (HM.out _).mono ?_; rintro e w8 ⟨rfl, hw8⟩; replace hw8 := hw8.symm; subst hw8)
      obtain ⟨w4, hW⟩ : ∃ x, (w3.setCell ⟨B, 4, none⟩ (.int .i64 t)) = x := ⟨_, rfl⟩
      have S4 : Hid (Sits w4 B (cbCells (Cb.mk 1 (r.wn * 17 / 20) r.kk r.st t r.bg)) 24) := by rw [← hW]; exact cb_s4 (S3.out) _
      have O4 : Hid (Only B w w4) := by rw [← hW]; exact Only.set (O3.out) 4 _
      rw [hW]
      clear hW S3 O3
      clear q0 q1 q2 q3 q4 q5 fs
      obtain ⟨q0, q1, q2, q3, q4, q5⟩ := cb_cells S4.out
      have fs := Sits.frozen S4.out
      (try dsimp only at q0 q1 q2 q3 q4 q5)
      go_upto_region 9 with fail
      obtain ⟨w5, hW⟩ : ∃ x, ((w4.setCell ⟨B, 5, none⟩ (.bool true)).setCell ⟨B, 3, none⟩ (.int .i64 now)) = x := ⟨_, rfl⟩
      have S5 : Hid (Sits w5 B (cbCells (Cb.mk 1 (r.wn * 17 / 20) r.kk now t true)) 24) := by rw [← hW]; exact cb_s3 (cb_s5 (S4.out) _) _
      have O5 : Hid (Only B w w5) := by rw [← hW]; exact Only.set (Only.set (O4.out) 5 _) 3 _
      rw [hW]
      clear hW S4 O4
      clear q0 q1 q2 q3 q4 q5 fs
      obtain ⟨q0, q1, q2, q3, q4, q5⟩ := cb_cells S5.out
      have fs := Sits.frozen S5.out
      (try dsimp only at q0 q1 q2 q3 q4 q5)
      go_upto_region 9 with fail
      refine wp_region_qtail 12 (C := fun w' => Below w5.heap.size w5 w') (by kernel_rfl) (by kernel_rfl) ((Below.refl _ _).drew) ?_
      simp only [List.take_succ_cons, List.take_zero, List.drop_succ_cons, List.drop_zero]
      repeat (first
        | go_big_quiet_skip
        | (go_big_quiet_want
           unfold Oper.quiet
           apply Exists.intro
           refine ⟨fun w' hw' => ?_, ?_⟩
           (obtain ⟨q0, q1, q2, q3, q4, q5⟩ := cb_cells (Sits.below S5.out hw' (Sits.lt S5.out))
            (try dsimp only at q0 q1 q2 q3 q4 q5)
            go_simp
            first
              | (go_at_call 34; refine (l10k_any _ _ hk1 hk2 hk3 hk4 _).mono ?_; rintro e w8 ⟨rfl, rfl⟩; rw [hK]; exact ⟨rfl, hw'⟩)
              | exact rfl)
           simp only [Act.put, List.setIfInBounds_toArray, List.set_cons_zero, List.set_cons_succ]
           go_big_quiet_on))
      refine wpQuiet_nil ?_
      intro w6 hw6
      have S6 : Hid (Sits w6 B (cbCells (Cb.mk 1 (r.wn * 17 / 20) r.kk now t true)) 24) := Sits.below S5.out hw6 (Sits.lt S5.out)
      have O6 : Hid (Only B w w6) := Only.trans O5.out (onlyB hw6)
      clear hw6 S5 O5
      clear q0 q1 q2 q3 q4 q5 fs
      obtain ⟨q0, q1, q2, q3, q4, q5⟩ := cb_cells S6.out
      have fs := Sits.frozen S6.out
      (try dsimp only at q0 q1 q2 q3 q4 q5)
      go_wp2
      first | refine bodyPost_end (v := .tuple #[]) (by first | rfl | simp [results, go_sem] | simp [results, Tryd.results28, go_sem]) rfl ⟨rfl, ?_, Only.set (O6.out) 2 _⟩ | refine bodyPost_ret (v := .tuple #[]) (by first | rfl | simp [results, go_sem] | simp [results, Tryd.results28, go_sem]) rfl ⟨rfl, ?_, Only.set (O6.out) 2 _⟩
      first | exact cb_s2 (S6.out) _ | (rw [← HB.out]; exact cb_s2 (S6.out) _)
    · have hv : cmax (r.wn * 7 / 10) 1 = (r.wn * 7 / 10) := by unfold cmax; split <;> omega
      rw [hv] at ht
      obtain ⟨K, hK⟩ : ∃ K, kF (r.wn * 17 / 20) (r.wn * 7 / 10) = K := ⟨_, rfl⟩
      have hlos : r.los now = (Cb.mk (r.wn * 7 / 10) (r.wn * 17 / 20) K now t true) := by unfold Cb.los Cb.beg; dsimp only; rw [hm, hv, ht, hK]
      rw [hlos]
      clear hlos hm hv
      have ht2 : (if ((r.wn * 7 / 10) : Int) ≤ 2 then 2 else (r.wn * 7 / 10)) = t := by rw [← ht]; unfold cmax; (repeat' split) <;> omega
      have HM : Hid (∀ W, Calls Tryd.prog 33 #[.int .i64 (r.wn * 7 / 10), .int .i64 2] W fun e w' => e = .returned (.int .i64 t) ∧ w' = W) := fun W => by
        have h := more2_any (r.wn * 7 / 10) 2 W
        rw [ht2] at h
        exact h
      clear ht ht2
      have hk1 : 0 ≤ (r.wn * 17 / 20) := by omega
      have hk2 : (r.wn * 17 / 20) ≤ 1048576 := by omega
      have hk3 : (0 : Int) ≤ (r.wn * 7 / 10) := by omega
      have hk4 : (r.wn * 7 / 10) ≤ (1048576 : Int) := by omega
      go_enter Tryd.func28, Tryd.ntmps28
      obtain ⟨q0, q1, q2, q3, q4, q5⟩ := cb_cells S0.out
      have fs := Sits.frozen S0.out
      (try dsimp only at q0 q1 q2 q3 q4 q5)
      go_upto_region 0 with fail
      refine wp_region_quiet (C := fun w' => Below w.heap.size w w') (by kernel_rfl) (by kernel_rfl) ((Below.refl _ _).drew) ?_
      simp only []
      repeat (first
        | go_big_quiet_skip
        | (go_big_quiet_want
           unfold Oper.quiet
           apply Exists.intro
           refine ⟨fun w' hw' => ?_, ?_⟩
           (obtain ⟨q0, q1, q2, q3, q4, q5⟩ := cb_cells (Sits.below S0.out hw' (Sits.lt S0.out))
            (try dsimp only at q0 q1 q2 q3 q4 q5)
            go_simp
            first
              | exact rfl)
           simp only [Act.put, List.setIfInBounds_toArray, List.set_cons_zero, List.set_cons_succ]
           go_big_quiet_on))
      refine wpQuiet_nil ?_
      intro w1 hw1
      have S1 : Hid (Sits w1 B (cbCells r) 24) := Sits.below S0.out hw1 (Sits.lt S0.out)
      have O1 : Hid (Only B w w1) := Only.trans O0.out (onlyB hw1)
      clear hw1 S0 O0
      clear q0 q1 q2 q3 q4 q5 fs
      obtain ⟨q0, q1, q2, q3, q4, q5⟩ := cb_cells S1.out
      have fs := Sits.frozen S1.out
      (try dsimp only at q0 q1 q2 q3 q4 q5)
      go_upto_region 3 with fail
      obtain ⟨w2, hW⟩ : ∃ x, (w1.setCell ⟨B, 1, none⟩ (.int .i64 (r.wn * 17 / 20))) = x := ⟨_, rfl⟩
      have S2 : Hid (Sits w2 B (cbCells (Cb.mk r.wn (r.wn * 17 / 20) r.kk r.st r.th r.bg)) 24) := by rw [← hW]; exact cb_s1 (S1.out) _
      have O2 : Hid (Only B w w2) := by rw [← hW]; exact Only.set (O1.out) 1 _
      rw [hW]
      clear hW S1 O1
      clear q0 q1 q2 q3 q4 q5 fs
      obtain ⟨q0, q1, q2, q3, q4, q5⟩ := cb_cells S2.out
      have fs := Sits.frozen S2.out
      (try dsimp only at q0 q1 q2 q3 q4 q5)
      go_upto_region 6 with fail
      obtain ⟨w3, hW⟩ : ∃ x, (w2.setCell ⟨B, 0, none⟩ (.int .i64 (r.wn * 7 / 10))) = x := ⟨_, rfl⟩
      have S3 : Hid (Sits w3 B (cbCells (Cb.mk (r.wn * 7 / 10) (r.wn * 17 / 20) r.kk r.st r.th r.bg)) 24) := by rw [← hW]; exact cb_s0 (S2.out) _
      have O3 : Hid (Only B w w3) := by rw [← hW]; exact Only.set (O2.out) 0 _
      rw [hW]
      clear hW S2 O2
      clear q0 q1 q2 q3 q4 q5 fs
      obtain ⟨q0, q1, q2, q3, q4, q5⟩ := cb_cells S3.out
      have fs := Sits.frozen S3.out
      (try dsimp only at q0 q1 q2 q3 q4 q5)
      go_upto_region 7 with (go_at_call 33; refine (HM.out _).mono ?_; rintro e w8 ⟨rfl, hw8⟩; replace hw8 := hw8.symm; subst hw8)
      obtain ⟨w4, hW⟩ : ∃ x, (w3.setCell ⟨B, 4, none⟩ (.int .i64 t)) = x := ⟨_, rfl⟩
      have S4 : Hid (Sits w4 B (cbCells (Cb.mk (r.wn * 7 / 10) (r.wn * 17 / 20) r.kk r.st t r.bg)) 24) := by rw [← hW]; exact cb_s4 (S3.out) _
      have O4 : Hid (Only B w w4) := by rw [← hW]; exact Only.set (O3.out) 4 _
      rw [hW]
      clear hW S3 O3
      clear q0 q1 q2 q3 q4 q5 fs
      obtain ⟨q0, q1, q2, q3, q4, q5⟩ := cb_cells S4.out
      have fs := Sits.frozen S4.out
      (try dsimp only at q0 q1 q2 q3 q4 q5)
      go_upto_region 9 with fail
      obtain ⟨w5, hW⟩ : ∃ x, ((w4.setCell ⟨B, 5, none⟩ (.bool true)).setCell ⟨B, 3, none⟩ (.int .i64 now)) = x := ⟨_, rfl⟩
      have S5 : Hid (Sits w5 B (cbCells (Cb.mk (r.wn * 7 / 10) (r.wn * 17 / 20) r.kk now t true)) 24) := by rw [← hW]; exact cb_s3 (cb_s5 (S4.out) _) _
      have O5 : Hid (Only B w w5) := by rw [← hW]; exact Only.set (Only.set (O4.out) 5 _) 3 _
      rw [hW]
      clear hW S4 O4
      clear q0 q1 q2 q3 q4 q5 fs
      obtain ⟨q0, q1, q2, q3, q4, q5⟩ := cb_cells S5.out
      have fs := Sits.frozen S5.out
      (try dsimp only at q0 q1 q2 q3 q4 q5)
      go_upto_region 9 with fail
      refine wp_region_qtail 12 (C := fun w' => Below w5.heap.size w5 w') (by kernel_rfl) (by kernel_rfl) ((Below.refl _ _).drew) ?_
      simp only [List.take_succ_cons, List.take_zero, List.drop_succ_cons, List.drop_zero]
      repeat (first
        | go_big_quiet_skip
        | (go_big_quiet_want
           unfold Oper.quiet
           apply Exists.intro
           refine ⟨fun w' hw' => ?_, ?_⟩
           (obtain ⟨q0, q1, q2, q3, q4, q5⟩ := cb_cells (Sits.below S5.out hw' (Sits.lt S5.out))
            (try dsimp only at q0 q1 q2 q3 q4 q5)
            go_simp
            first
              | (go_at_call 34; refine (l10k_any _ _ hk1 hk2 hk3 hk4 _).mono ?_; rintro e w8 ⟨rfl, rfl⟩; rw [hK]; exact ⟨rfl, hw'⟩)
              | exact rfl)
           simp only [Act.put, List.setIfInBounds_toArray, List.set_cons_zero, List.set_cons_succ]
           go_big_quiet_on))
      refine wpQuiet_nil ?_
      intro w6 hw6
      have S6 : Hid (Sits w6 B (cbCells (Cb.mk (r.wn * 7 / 10) (r.wn * 17 / 20) r.kk now t true)) 24) := Sits.below S5.out hw6 (Sits.lt S5.out)
      have O6 : Hid (Only B w w6) := Only.trans O5.out (onlyB hw6)
      clear hw6 S5 O5
      clear q0 q1 q2 q3 q4 q5 fs
      obtain ⟨q0, q1, q2, q3, q4, q5⟩ := cb_cells S6.out
      have fs := Sits.frozen S6.out
      (try dsimp only at q0 q1 q2 q3 q4 q5)
      go_wp2
      first | refine bodyPost_end (v := .tuple #[]) (by first | rfl | simp [results, go_sem] | simp [results, Tryd.results28, go_sem]) rfl ⟨rfl, ?_, Only.set (O6.out) 2 _⟩ | refine bodyPost_ret (v := .tuple #[]) (by first | rfl | simp [results, go_sem] | simp [results, Tryd.results28, go_sem]) rfl ⟨rfl, ?_, Only.set (O6.out) 2 _⟩
      first | exact cb_s2 (S6.out) _ | (rw [← HB.out]; exact cb_s2 (S6.out) _)
  · have hm : heiF r.wn r.mx = r.wn := by unfold heiF; split <;> omega
    by_cases k2 : r.wn * 7 / 10 < 1
    · have hv : cmax (r.wn * 7 / 10) 1 = 1 := by unfold cmax; split <;> omega
      rw [hv] at ht
      obtain ⟨K, hK⟩ : ∃ K, kF r.wn 1 = K := ⟨_, rfl⟩
      have hlos : r.los now = (Cb.mk 1 r.wn K now t true) := by unfold Cb.los Cb.beg; dsimp only; rw [hm, hv, ht, hK]
      rw [hlos]
      clear hlos hm hv
      have ht2 : (if (1 : Int) ≤ 2 then 2 else 1) = t := by rw [← ht]; unfold cmax; (repeat' split) <;> omega
      have HM : Hid (∀ W, Calls Tryd.prog 33 #[.int .i64 1, .int .i64 2] W fun e w' => e = .returned (.int .i64 t) ∧ w' = W) := fun W => by
        have h := more2_any 1 2 W
        rw [ht2] at h
        exact h
      clear ht ht2
      have hk1 : 0 ≤ r.wn := by omega
      have hk2 : r.wn ≤ 1048576 := by omega
      have hk3 : (0 : Int) ≤ 1 := by omega
      have hk4 : 1 ≤ (1048576 : Int) := by omega
      go_enter Tryd.func28, Tryd.ntmps28
      obtain ⟨q0, q1, q2, q3, q4, q5⟩ := cb_cells S0.out
      have fs := Sits.frozen S0.out
      (try dsimp only at q0 q1 q2 q3 q4 q5)
      go_upto_region 0 with fail
      refine wp_region_quiet (C := fun w' => Below w.heap.size w w') (by kernel_rfl) (by kernel_rfl) ((Below.refl _ _).drew) ?_
      simp only []
      repeat (first
        | go_big_quiet_skip
        | (go_big_quiet_want
           unfold Oper.quiet
           apply Exists.intro
           refine ⟨fun w' hw' => ?_, ?_⟩
           (obtain ⟨q0, q1, q2, q3, q4, q5⟩ := cb_cells (Sits.below S0.out hw' (Sits.lt S0.out))
            (try dsimp only at q0 q1 q2 q3 q4 q5)
            go_simp
            first
              | exact rfl)
           simp only [Act.put, List.setIfInBounds_toArray, List.set_cons_zero, List.set_cons_succ]
           go_big_quiet_on))
      refine wpQuiet_nil ?_
      intro w1 hw1
      have S1 : Hid (Sits w1 B (cbCells r) 24) := Sits.below S0.out hw1 (Sits.lt S0.out)
      have O1 : Hid (Only B w w1) := Only.trans O0.out (onlyB hw1)
      clear hw1 S0 O0
      clear q0 q1 q2 q3 q4 q5 fs
      obtain ⟨q0, q1, q2, q3, q4, q5⟩ := cb_cells S1.out
      have fs := Sits.frozen S1.out
      (try dsimp only at q0 q1 q2 q3 q4 q5)
      go_upto_region 3 with fail
      obtain ⟨w2, hW⟩ : ∃ x, (w1.setCell ⟨B, 1, none⟩ (.int .i64 r.wn)) = x := ⟨_, rfl⟩
      have S2 : Hid (Sits w2 B (cbCells (Cb.mk r.wn r.wn r.kk r.st r.th r.bg)) 24) := by rw [← hW]; exact cb_s1 (S1.out) _
      have O2 : Hid (Only B w w2) := by rw [← hW]; exact Only.set (O1.out) 1 _
      rw [hW]
      clear hW S1 O1
      clear q0 q1 q2 q3 q4 q5 fs
      obtain ⟨q0, q1, q2, q3, q4, q5⟩ := cb_cells S2.out
      have fs := Sits.frozen S2.out
      (try dsimp only at q0 q1 q2 q3 q4 q5)
      go_upto_region 6 with fail
      obtain ⟨w3, hW⟩ : ∃ x, ((w2.setCell ⟨B, 0, none⟩ (.int .i64 (r.wn * 7 / 10))).setCell ⟨B, 0, none⟩ (.int .i64 1)) = x := ⟨_, rfl⟩
      have S3 : Hid (Sits w3 B (cbCells (Cb.mk 1 r.wn r.kk r.st r.th r.bg)) 24) := by rw [← hW]; exact cb_s0 (cb_s0 (S2.out) _) _
      have O3 : Hid (Only B w w3) := by rw [← hW]; exact Only.set (Only.set (O2.out) 0 _) 0 _
      rw [hW]
      clear hW S2 O2
      clear q0 q1 q2 q3 q4 q5 fs
      obtain ⟨q0, q1, q2, q3, q4, q5⟩ := cb_cells S3.out
      have fs := Sits.frozen S3.out
      (try dsimp only at q0 q1 q2 q3 q4 q5)
      go_upto_region 7 with (go_at_call 33; refine (HM.out _).mono ?_; rintro e w8 ⟨rfl, hw8⟩; replace hw8 := hw8.symm; subst hw8)
      obtain ⟨w4, hW⟩ : ∃ x, (w3.setCell ⟨B, 4, none⟩ (.int .i64 t)) = x := ⟨_, rfl⟩
      have S4 : Hid (Sits w4 B (cbCells (Cb.mk 1 r.wn r.kk r.st t r.bg)) 24) := by rw [← hW]; exact cb_s4 (S3.out) _
      have O4 : Hid (Only B w w4) := by rw [← hW]; exact Only.set (O3.out) 4 _
      rw [hW]
      clear hW S3 O3
      clear q0 q1 q2 q3 q4 q5 fs
      obtain ⟨q0, q1, q2, q3, q4, q5⟩ := cb_cells S4.out
      have fs := Sits.frozen S4.out
      (try dsimp only at q0 q1 q2 q3 q4 q5)
      go_upto_region 9 with fail
      obtain ⟨w5, hW⟩ : ∃ x, ((w4.setCell ⟨B, 5, none⟩ (.bool true)).setCell ⟨B, 3, none⟩ (.int .i64 now)) = x := ⟨_, rfl⟩
      have S5 : Hid (Sits w5 B (cbCells (Cb.mk 1 r.wn r.kk now t true)) 24) := by rw [← hW]; exact cb_s3 (cb_s5 (S4.out) _) _
      have O5 : Hid (Only B w w5) := by rw [← hW]; exact Only.set (Only.set (O4.out) 5 _) 3 _
      rw [hW]
      clear hW S4 O4
      clear q0 q1 q2 q3 q4 q5 fs
      obtain ⟨q0, q1, q2, q3, q4, q5⟩ := cb_cells S5.out
      have fs := Sits.frozen S5.out
      (try dsimp only at q0 q1 q2 q3 q4 q5)
      go_upto_region 9 with fail
      refine wp_region_qtail 12 (C := fun w' => Below w5.heap.size w5 w') (by kernel_rfl) (by kernel_rfl) ((Below.refl _ _).drew) ?_
      simp only [List.take_succ_cons, List.take_zero, List.drop_succ_cons, List.drop_zero]
      repeat (first
        | go_big_quiet_skip
        | (go_big_quiet_want
           unfold Oper.quiet
           apply Exists.intro
           refine ⟨fun w' hw' => ?_, ?_⟩
           (obtain ⟨q0, q1, q2, q3, q4, q5⟩ := cb_cells (Sits.below S5.out hw' (Sits.lt S5.out))
            (try dsimp only at q0 q1 q2 q3 q4 q5)
            go_simp
            first
              | (go_at_call 34; refine (l10k_any _ _ hk1 hk2 hk3 hk4 _).mono ?_; rintro e w8 ⟨rfl, rfl⟩; rw [hK]; exact ⟨rfl, hw'⟩)
              | exact rfl)
           simp only [Act.put, List.setIfInBounds_toArray, List.set_cons_zero, List.set_cons_succ]
           go_big_quiet_on))
      refine wpQuiet_nil ?_
      intro w6 hw6
      have S6 : Hid (Sits w6 B (cbCells (Cb.mk 1 r.wn r.kk now t true)) 24) := Sits.below S5.out hw6 (Sits.lt S5.out)
      have O6 : Hid (Only B w w6) := Only.trans O5.out (onlyB hw6)
      clear hw6 S5 O5
      clear q0 q1 q2 q3 q4 q5 fs
      obtain ⟨q0, q1, q2, q3, q4, q5⟩ := cb_cells S6.out
      have fs := Sits.frozen S6.out
      (try dsimp only at q0 q1 q2 q3 q4 q5)
      go_wp2
      first | refine bodyPost_end (v := .tuple #[]) (by first | rfl | simp [results, go_sem] | simp [results, Tryd.results28, go_sem]) rfl ⟨rfl, ?_, Only.set (O6.out) 2 _⟩ | refine bodyPost_ret (v := .tuple #[]) (by first | rfl | simp [results, go_sem] | simp [results, Tryd.results28, go_sem]) rfl ⟨rfl, ?_, Only.set (O6.out) 2 _⟩
      first | exact cb_s2 (S6.out) _ | (rw [← HB.out]; exact cb_s2 (S6.out) _)
    · have hv : cmax (r.wn * 7 / 10) 1 = (r.wn * 7 / 10) := by unfold cmax; split <;> omega
      rw [hv] at ht
      obtain ⟨K, hK⟩ : ∃ K, kF r.wn (r.wn * 7 / 10) = K := ⟨_, rfl⟩
      have hlos : r.los now = (Cb.mk (r.wn * 7 / 10) r.wn K now t true) := by unfold Cb.los Cb.beg; dsimp only; rw [hm, hv, ht, hK]
      rw [hlos]
      clear hlos hm hv
      have ht2 : (if ((r.wn * 7 / 10) : Int) ≤ 2 then 2 else (r.wn * 7 / 10)) = t := by rw [← ht]; unfold cmax; (repeat' split) <;> omega
      have HM : Hid (∀ W, Calls Tryd.prog 33 #[.int .i64 (r.wn * 7 / 10), .int .i64 2] W fun e w' => e = .returned (.int .i64 t) ∧ w' = W) := fun W => by
        have h := more2_any (r.wn * 7 / 10) 2 W
        rw [ht2] at h
        exact h
      clear ht ht2
      have hk1 : 0 ≤ r.wn := by omega
      have hk2 : r.wn ≤ 1048576 := by omega
      have hk3 : (0 : Int) ≤ (r.wn * 7 / 10) := by omega
      have hk4 : (r.wn * 7 / 10) ≤ (1048576 : Int) := by omega
      go_enter Tryd.func28, Tryd.ntmps28
      obtain ⟨q0, q1, q2, q3, q4, q5⟩ := cb_cells S0.out
      have fs := Sits.frozen S0.out
      (try dsimp only at q0 q1 q2 q3 q4 q5)
      go_upto_region 0 with fail
      refine wp_region_quiet (C := fun w' => Below w.heap.size w w') (by kernel_rfl) (by kernel_rfl) ((Below.refl _ _).drew) ?_
      simp only []
      repeat (first
        | go_big_quiet_skip
        | (go_big_quiet_want
           unfold Oper.quiet
           apply Exists.intro
           refine ⟨fun w' hw' => ?_, ?_⟩
           (obtain ⟨q0, q1, q2, q3, q4, q5⟩ := cb_cells (Sits.below S0.out hw' (Sits.lt S0.out))
            (try dsimp only at q0 q1 q2 q3 q4 q5)
            go_simp
            first
              | exact rfl)
           simp only [Act.put, List.setIfInBounds_toArray, List.set_cons_zero, List.set_cons_succ]
           go_big_quiet_on))
      refine wpQuiet_nil ?_
      intro w1 hw1
      have S1 : Hid (Sits w1 B (cbCells r) 24) := Sits.below S0.out hw1 (Sits.lt S0.out)
      have O1 : Hid (Only B w w1) := Only.trans O0.out (onlyB hw1)
      clear hw1 S0 O0
      clear q0 q1 q2 q3 q4 q5 fs
      obtain ⟨q0, q1, q2, q3, q4, q5⟩ := cb_cells S1.out
      have fs := Sits.frozen S1.out
      (try dsimp only at q0 q1 q2 q3 q4 q5)
      go_upto_region 3 with fail
      obtain ⟨w2, hW⟩ : ∃ x, (w1.setCell ⟨B, 1, none⟩ (.int .i64 r.wn)) = x := ⟨_, rfl⟩
      have S2 : Hid (Sits w2 B (cbCells (Cb.mk r.wn r.wn r.kk r.st r.th r.bg)) 24) := by rw [← hW]; exact cb_s1 (S1.out) _
      have O2 : Hid (Only B w w2) := by rw [← hW]; exact Only.set (O1.out) 1 _
      rw [hW]
      clear hW S1 O1
      clear q0 q1 q2 q3 q4 q5 fs
      obtain ⟨q0, q1, q2, q3, q4, q5⟩ := cb_cells S2.out
      have fs := Sits.frozen S2.out
      (try dsimp only at q0 q1 q2 q3 q4 q5)
      go_upto_region 6 with fail
      obtain ⟨w3, hW⟩ : ∃ x, (w2.setCell ⟨B, 0, none⟩ (.int .i64 (r.wn * 7 / 10))) = x := ⟨_, rfl⟩
      have S3 : Hid (Sits w3 B (cbCells (Cb.mk (r.wn * 7 / 10) r.wn r.kk r.st r.th r.bg)) 24) := by rw [← hW]; exact cb_s0 (S2.out) _
      have O3 : Hid (Only B w w3) := by rw [← hW]; exact Only.set (O2.out) 0 _
      rw [hW]
      clear hW S2 O2
      clear q0 q1 q2 q3 q4 q5 fs
      obtain ⟨q0, q1, q2, q3, q4, q5⟩ := cb_cells S3.out
      have fs := Sits.frozen S3.out
      (try dsimp only at q0 q1 q2 q3 q4 q5)
      go_upto_region 7 with (go_at_call 33; refine (HM.out _).mono ?_; rintro e w8 ⟨rfl, hw8⟩; replace hw8 := hw8.symm; subst hw8)
      obtain ⟨w4, hW⟩ : ∃ x, (w3.setCell ⟨B, 4, none⟩ (.int .i64 t)) = x := ⟨_, rfl⟩
      have S4 : Hid (Sits w4 B (cbCells (Cb.mk (r.wn * 7 / 10) r.wn r.kk r.st t r.bg)) 24) := by rw [← hW]; exact cb_s4 (S3.out) _
      have O4 : Hid (Only B w w4) := by rw [← hW]; exact Only.set (O3.out) 4 _
      rw [hW]
      clear hW S3 O3
      clear q0 q1 q2 q3 q4 q5 fs
      obtain ⟨q0, q1, q2, q3, q4, q5⟩ := cb_cells S4.out
      have fs := Sits.frozen S4.out
      (try dsimp only at q0 q1 q2 q3 q4 q5)
      go_upto_region 9 with fail
      obtain ⟨w5, hW⟩ : ∃ x, ((w4.setCell ⟨B, 5, none⟩ (.bool true)).setCell ⟨B, 3, none⟩ (.int .i64 now)) = x := ⟨_, rfl⟩
      have S5 : Hid (Sits w5 B (cbCells (Cb.mk (r.wn * 7 / 10) r.wn r.kk now t true)) 24) := by rw [← hW]; exact cb_s3 (cb_s5 (S4.out) _) _
      have O5 : Hid (Only B w w5) := by rw [← hW]; exact Only.set (Only.set (O4.out) 5 _) 3 _
      rw [hW]
      clear hW S4 O4
      clear q0 q1 q2 q3 q4 q5 fs
      obtain ⟨q0, q1, q2, q3, q4, q5⟩ := cb_cells S5.out
      have fs := Sits.frozen S5.out
      (try dsimp only at q0 q1 q2 q3 q4 q5)
      go_upto_region 9 with fail
      refine wp_region_qtail 12 (C := fun w' => Below w5.heap.size w5 w') (by kernel_rfl) (by kernel_rfl) ((Below.refl _ _).drew) ?_
      simp only [List.take_succ_cons, List.take_zero, List.drop_succ_cons, List.drop_zero]
      repeat (first
        | go_big_quiet_skip
        | (go_big_quiet_want
           unfold Oper.quiet
           apply Exists.intro
           refine ⟨fun w' hw' => ?_, ?_⟩
           (obtain ⟨q0, q1, q2, q3, q4, q5⟩ := cb_cells (Sits.below S5.out hw' (Sits.lt S5.out))
            (try dsimp only at q0 q1 q2 q3 q4 q5)
            go_simp
            first
              | (go_at_call 34; refine (l10k_any _ _ hk1 hk2 hk3 hk4 _).mono ?_; rintro e w8 ⟨rfl, rfl⟩; rw [hK]; exact ⟨rfl, hw'⟩)
              | exact rfl)
           simp only [Act.put, List.setIfInBounds_toArray, List.set_cons_zero, List.set_cons_succ]
           go_big_quiet_on))
      refine wpQuiet_nil ?_
      intro w6 hw6
      have S6 : Hid (Sits w6 B (cbCells (Cb.mk (r.wn * 7 / 10) r.wn r.kk now t true)) 24) := Sits.below S5.out hw6 (Sits.lt S5.out)
      have O6 : Hid (Only B w w6) := Only.trans O5.out (onlyB hw6)
      clear hw6 S5 O5
      clear q0 q1 q2 q3 q4 q5 fs
      obtain ⟨q0, q1, q2, q3, q4, q5⟩ := cb_cells S6.out
      have fs := Sits.frozen S6.out
      (try dsimp only at q0 q1 q2 q3 q4 q5)
      go_wp2
      first | refine bodyPost_end (v := .tuple #[]) (by first | rfl | simp [results, go_sem] | simp [results, Tryd.results28, go_sem]) rfl ⟨rfl, ?_, Only.set (O6.out) 2 _⟩ | refine bodyPost_ret (v := .tuple #[]) (by first | rfl | simp [results, go_sem] | simp [results, Tryd.results28, go_sem]) rfl ⟨rfl, ?_, Only.set (O6.out) 2 _⟩
      first | exact cb_s2 (S6.out) _ | (rw [← HB.out]; exact cb_s2 (S6.out) _)

end Go.Proofs.YtfflheebjbdnoafDoor
