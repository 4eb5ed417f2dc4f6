/-
  RENO's RECOVERY in the program: recovered, recovering.
-/
import Derived.Test.YtfflheebjbdnoaeRenoC
import Derived.Test.YtfflheebjbdnoaeQTail
import Derived.Deep.RegionWith
import Derived.Deep.Cut
namespace Go.Proofs.Ytfflheebjbdnoae
open Go.RowKit
set_option linter.unusedVariables false

set_option maxRecDepth 20000 in
set_option maxHeartbeats 2000000 in
theorem recovered_any (r : Rn) (hf : r.fit) (w : World) :
    Calls Try.prog 52 #[r.val] w fun e w' => e = .returned (r.recov).val ∧ Below w.heap.size w w' := by
  have HF : Hid (Rn.fit (Rn.mk r.mss r.cw r.th r.ac r.una r.nx r.du r.rc false r.cut)) := hf
  unfold Rn.fit at hf
  obtain ⟨s0, z0, c0, -⟩ := zero_boxes w r
  obtain ⟨W, hW⟩ : ∃ W, (w.alloc (.cells (rnCells r) 24)).alloc (.cells #[.int .i64 0, .int .i64 0, .int .i64 0, .int .i64 0, .int .i64 0, .int .i64 0, .int .i64 0, .int .i64 0, .bool false, .int .i64 0] 24) = W := ⟨_, rfl⟩
  rw [hW] at s0 z0 c0
  have lz := z0.lt
  have S0 : Hid (Sits W w.heap.size (rnCells r) 24) := s0
  have Z0 : Hid (Sits W (w.heap.size + 1) (rnCells Rn.zero) 24) := z0
  clear s0 z0
  have hfl : 0 ≤ r.fl ∧ r.fl ≤ 1000000000000 := by unfold Rn.fl; omega
  obtain ⟨f, hfe⟩ : ∃ f, r.fl = f := ⟨_, rfl⟩
  have hfe' : Rn.fl (Rn.mk r.mss r.cw r.th r.ac r.una r.nx r.du r.rc false r.cut) = f := hfe
  rw [hfe] at hfl
  obtain ⟨f0, f1⟩ := hfl
  have hr : r.recov = (Rn.mk r.mss (minI r.th (r.mss + maxI f r.mss)) r.th r.ac r.una r.nx r.du r.rc false r.cut) := by unfold Rn.recov; rw [hfe]
  rw [hr]
  clear hr hfe
  have hM : maxI f r.mss = (if f < r.mss then r.mss else f) := rfl
  obtain ⟨M, hMe⟩ : ∃ M, maxI f r.mss = M := ⟨_, rfl⟩
  rw [hMe] at hM ⊢
  have hMb := maxI_bd f r.mss
  rw [hMe] at hMb
  clear hMe
  have e1 : IntKind.i64.wrap (r.mss + M) = r.mss + M := wrap_id (by omega) (by omega)
  obtain ⟨X, hX⟩ : ∃ X, minI r.th (r.mss + M) = X := ⟨_, rfl⟩
  have hX' : (if r.mss + M < r.th then r.mss + M else r.th) = X := hX
  have hM' : (if f < r.mss then r.mss else f) = M := hM.symm
  rw [hX]
  clear hX hM hMb
  go_enter Try.func52, Try.ntmps52
  go_upto_region 1 with fail
  try rw [hW]
  clear hW
  obtain ⟨q0, q1, q2, q3, q4, q5, q6, q7, q8, q9⟩ := rn_cells S0.out
  have fs := Sits.frozen S0.out
  obtain ⟨p0, p1, p2, p3, p4, p5, p6, p7, p8, p9⟩ := rn_cells Z0.out
  have fz := Sits.frozen Z0.out
  dsimp only [Rn.zero] at p0 p1 p2 p3 p4 p5 p6 p7 p8 p9
  go_upto_region 2 with fail
  obtain ⟨W1, hW1⟩ : ∃ x, W.setCell ⟨w.heap.size, 8, none⟩ (.bool false) = x := ⟨_, rfl⟩
  have s1 : Sits W1 w.heap.size (rnCells (Rn.mk r.mss r.cw r.th r.ac r.una r.nx r.du r.rc false r.cut)) 24 := by rw [← hW1]; exact rn_s8 S0.out _
  have z1 : Sits W1 (w.heap.size + 1) (rnCells Rn.zero) 24 := by rw [← hW1]; exact Sits.other (Z0.out) (by omega) _
  have c1 : Below w.heap.size w W1 := by rw [← hW1]; exact Below.setCell (c0) (Nat.le_refl _) _
  rw [hW1]
  clear hW1 q0 q1 q2 q3 q4 q5 q6 q7 q8 q9 p0 p1 p2 p3 p4 p5 p6 p7 p8 p9 fs fz
  obtain ⟨q0, q1, q2, q3, q4, q5, q6, q7, q8, q9⟩ := rn_cells s1
  have fs := s1.frozen
  obtain ⟨p0, p1, p2, p3, p4, p5, p6, p7, p8, p9⟩ := rn_cells z1
  have fz := z1.frozen
  dsimp only [Rn.zero] at p0 p1 p2 p3 p4 p5 p6 p7 p8 p9
  have lz1 := z1.lt
  have S1 : Hid (Sits W1 w.heap.size (rnCells (Rn.mk r.mss r.cw r.th r.ac r.una r.nx r.du r.rc false r.cut)) 24) := s1
  have Z1 : Hid (Sits W1 (w.heap.size + 1) (rnCells Rn.zero) 24) := z1
  clear s1 z1
  clear S0 Z0 c0 lz
  refine wp_region_qtail 12 (C := fun w' => Below W1.heap.size W1 w') (by kernel_rfl) (by kernel_rfl) ((Below.refl _ _).drew) ?_
  simp only [List.take_succ_cons, List.take_zero, List.drop_succ_cons, List.drop_zero]
  repeat (first
    | go_big_quiet_skip
    | (go_big_quiet_want
       unfold Oper.quiet
       apply Exists.intro
       refine ⟨fun w' hw' => ?_, ?_⟩
       (obtain ⟨q0, q1, q2, q3, q4, q5, q6, q7, q8, q9⟩ := rn_cells (Sits.below S1.out hw' (Sits.lt S1.out))
        go_simp
        first
          | (go_at_call 33; refine (underWay_any (Rn.mk r.mss r.cw r.th r.ac r.una r.nx r.du r.rc false r.cut) HF.out _).mono ?_; rintro e w8 ⟨rfl, hb8⟩; rw [hfe']; exact ⟨rfl, hw'.trans (hb8.mono hw'.size)⟩)
          | exact rfl)
       simp only [Act.put, List.setIfInBounds_toArray, List.set_cons_zero, List.set_cons_succ]
       go_big_quiet_on))
  refine wpQuiet_nil ?_
  intro w2 hw2
  have s2 := Sits.below S1.out hw2 (Sits.lt S1.out)
  have z2 := Sits.below Z1.out hw2 (Sits.lt Z1.out)
  have c2 := Below.trans c1 (hw2.mono c1.size)
  clear q0 q1 q2 q3 q4 q5 q6 q7 q8 q9 p0 p1 p2 p3 p4 p5 p6 p7 p8 p9 fs fz
  obtain ⟨q0, q1, q2, q3, q4, q5, q6, q7, q8, q9⟩ := rn_cells s2
  have fs := s2.frozen
  obtain ⟨p0, p1, p2, p3, p4, p5, p6, p7, p8, p9⟩ := rn_cells z2
  have fz := z2.frozen
  dsimp only [Rn.zero] at p0 p1 p2 p3 p4 p5 p6 p7 p8 p9
  have lz2 := z2.lt
  have Z2 : Hid (Sits w2 (w.heap.size + 1) (rnCells Rn.zero) 24) := z2
  clear s2 z2 hw2
  go_wp2
  refine bodyPost_ret (ret_rn (q := (Rn.mk r.mss X r.th r.ac r.una r.nx r.du r.rc false r.cut)) (t := 24) (B := w.heap.size + 1) Try.results52 rfl ?_) rfl ⟨rfl, ?_⟩
  · exact put_sits (Sits.other Z2.out (by omega) _) (Rn.mk r.mss X r.th r.ac r.una r.nx r.du r.rc false r.cut)
  · exact put_below (Below.setCell c2 (Nat.le_refl _) _) (by omega) (Rn.mk r.mss X r.th r.ac r.una r.nx r.du r.rc false r.cut)

set_option maxRecDepth 20000 in
set_option maxHeartbeats 2000000 in
theorem recovering_any (r : Rn) (h : Int) (hf : r.fit) (h0 : 0 ≤ h) (h1 : h ≤ 100000000) (w : World) :
    Calls Try.prog 55 #[r.val, .int .i64 h] w fun e w' => e = .returned (r.recg h).val ∧ Below w.heap.size w w' := by
  unfold Rn.fit at hf
  obtain ⟨s0, z0, c0, -⟩ := zero_boxes w r
  obtain ⟨W, hW⟩ : ∃ W, (w.alloc (.cells (rnCells r) 24)).alloc (.cells #[.int .i64 0, .int .i64 0, .int .i64 0, .int .i64 0, .int .i64 0, .int .i64 0, .int .i64 0, .int .i64 0, .bool false, .int .i64 0] 24) = W := ⟨_, rfl⟩
  rw [hW] at s0 z0 c0
  have lz := z0.lt
  have S0 : Hid (Sits W w.heap.size (rnCells r) 24) := s0
  have Z0 : Hid (Sits W (w.heap.size + 1) (rnCells Rn.zero) 24) := z0
  clear s0 z0
  have HF : Hid (Rn.fit (Rn.mk r.mss h h 0 r.una r.nx r.du r.rc r.inn r.cut)) := by show Rn.fit _; unfold Rn.fit; dsimp only; omega
  obtain ⟨X, hX⟩ : ∃ X, minI (h + 3 * r.mss) 100000000 = X := ⟨_, rfl⟩
  have hv : r.recg h = (Rn.mk r.mss X h 0 r.una r.nx r.du r.nx true r.cut) := by unfold Rn.recg; rw [hX]
  rw [hv]
  clear hv
  have hh : r.halve h = (Rn.mk r.mss h h 0 r.una r.nx r.du r.rc r.inn r.cut) := rfl
  have hw9 : Rn.widen (Rn.mk r.mss h h 0 r.una r.nx r.du r.rc r.inn r.cut) (3 * r.mss) = (Rn.mk r.mss X h 0 r.una r.nx r.du r.rc r.inn r.cut) := by unfold Rn.widen; dsimp only; rw [hX]
  clear hX
  have e1 : IntKind.i64.wrap (3 * r.mss) = 3 * r.mss := wrap_id (by omega) (by omega)
  go_enter Try.func55, Try.ntmps55
  go_upto_region 1 with fail
  try rw [hW]
  clear hW
  obtain ⟨q0, q1, q2, q3, q4, q5, q6, q7, q8, q9⟩ := rn_cells S0.out
  have fs := Sits.frozen S0.out
  obtain ⟨p0, p1, p2, p3, p4, p5, p6, p7, p8, p9⟩ := rn_cells Z0.out
  have fz := Sits.frozen Z0.out
  dsimp only [Rn.zero] at p0 p1 p2 p3 p4 p5 p6 p7 p8 p9
  refine wp_region_qtail 7 (C := fun w' => Below W.heap.size W w') (by kernel_rfl) (by kernel_rfl) ((Below.refl _ _).drew) ?_
  simp only [List.take_succ_cons, List.take_zero, List.drop_succ_cons, List.drop_zero]
  repeat (first
    | go_big_quiet_skip
    | (go_big_quiet_want
       unfold Oper.quiet
       apply Exists.intro
       refine ⟨fun w' hw' => ?_, ?_⟩
       (obtain ⟨q0, q1, q2, q3, q4, q5, q6, q7, q8, q9⟩ := rn_cells (Sits.below S0.out hw' (Sits.lt S0.out))
        go_simp
        first
          | (go_at_call 56; refine (halved_any r h _).mono ?_; rintro e w8 ⟨rfl, hb8⟩; rw [hh]; exact ⟨rfl, hw'.trans (hb8.mono hw'.size)⟩)
          | (go_at_call 54; refine (widened_any (Rn.mk r.mss h h 0 r.una r.nx r.du r.rc r.inn r.cut) (3 * r.mss) HF.out (by omega) (by omega) _).mono ?_; rintro e w8 ⟨rfl, hb8⟩; rw [hw9]; exact ⟨rfl, hw'.trans (hb8.mono hw'.size)⟩)
          | exact rfl)
       simp only [Act.put, List.setIfInBounds_toArray, List.set_cons_zero, List.set_cons_succ]
       go_big_quiet_on))
  refine wpQuiet_nil ?_
  intro w2 hw2
  have s2 := Sits.below S0.out hw2 (Sits.lt S0.out)
  have z2 := Sits.below Z0.out hw2 (Sits.lt Z0.out)
  have c2 := Below.trans c0 (hw2.mono c0.size)
  clear q0 q1 q2 q3 q4 q5 q6 q7 q8 q9 p0 p1 p2 p3 p4 p5 p6 p7 p8 p9 fs fz
  obtain ⟨q0, q1, q2, q3, q4, q5, q6, q7, q8, q9⟩ := rn_cells s2
  have fs := s2.frozen
  obtain ⟨p0, p1, p2, p3, p4, p5, p6, p7, p8, p9⟩ := rn_cells z2
  have fz := z2.frozen
  dsimp only [Rn.zero] at p0 p1 p2 p3 p4 p5 p6 p7 p8 p9
  have lz2 := z2.lt
  have S2 : Hid (Sits w2 w.heap.size (rnCells r) 24) := s2
  have Z2 : Hid (Sits w2 (w.heap.size + 1) (rnCells Rn.zero) 24) := z2
  clear s2 z2 hw2 hh hw9 lz
  go_upto_region 2 with fail
  obtain ⟨W3, hW3⟩ : ∃ x, ((((((((((w2.setCell ⟨w.heap.size, 0, none⟩ (.int .i64 r.mss)).setCell ⟨w.heap.size, 1, none⟩ (.int .i64 X)).setCell ⟨w.heap.size, 2, none⟩ (.int .i64 h)).setCell ⟨w.heap.size, 3, none⟩ (.int .i64 0)).setCell ⟨w.heap.size, 4, none⟩ (.int .i64 r.una)).setCell ⟨w.heap.size, 5, none⟩ (.int .i64 r.nx)).setCell ⟨w.heap.size, 6, none⟩ (.int .i64 r.du)).setCell ⟨w.heap.size, 7, none⟩ (.int .i64 r.rc)).setCell ⟨w.heap.size, 8, none⟩ (.bool r.inn)).setCell ⟨w.heap.size, 9, none⟩ (.int .i64 r.cut)) = x := ⟨_, rfl⟩
  have s1 : Sits W3 w.heap.size (rnCells (Rn.mk r.mss X h 0 r.una r.nx r.du r.rc r.inn r.cut)) 24 := by rw [← hW3]; exact put_sits S2.out (Rn.mk r.mss X h 0 r.una r.nx r.du r.rc r.inn r.cut)
  have z1 : Sits W3 (w.heap.size + 1) (rnCells Rn.zero) 24 := by rw [← hW3]; exact put_other Z2.out (by omega) (Rn.mk r.mss X h 0 r.una r.nx r.du r.rc r.inn r.cut)
  have c3 : Below w.heap.size w W3 := by rw [← hW3]; exact put_below c2 (Nat.le_refl _) (Rn.mk r.mss X h 0 r.una r.nx r.du r.rc r.inn r.cut)
  rw [hW3]
  clear hW3 q0 q1 q2 q3 q4 q5 q6 q7 q8 q9 p0 p1 p2 p3 p4 p5 p6 p7 p8 p9 fs fz
  obtain ⟨q0, q1, q2, q3, q4, q5, q6, q7, q8, q9⟩ := rn_cells s1
  have fs := s1.frozen
  obtain ⟨p0, p1, p2, p3, p4, p5, p6, p7, p8, p9⟩ := rn_cells z1
  have fz := z1.frozen
  dsimp only [Rn.zero] at p0 p1 p2 p3 p4 p5 p6 p7 p8 p9
  have lz3 := z1.lt
  have S3 : Hid (Sits W3 w.heap.size (rnCells (Rn.mk r.mss X h 0 r.una r.nx r.du r.rc r.inn r.cut)) 24) := s1
  have Z3 : Hid (Sits W3 (w.heap.size + 1) (rnCells Rn.zero) 24) := z1
  clear s1 z1
  go_wp2
  refine bodyPost_ret (ret_rn (q := (Rn.mk r.mss X h 0 r.una r.nx r.du r.nx true r.cut)) (t := 24) (B := w.heap.size + 1) Try.results55 rfl ?_) rfl ⟨rfl, ?_⟩
  · exact put_sits (Sits.other (Sits.other Z3.out (by omega) _) (by omega) _) (Rn.mk r.mss X h 0 r.una r.nx r.du r.nx true r.cut)
  · exact put_below (Below.setCell (Below.setCell c3 (Nat.le_refl _) _) (Nat.le_refl _) _) (by omega) (Rn.mk r.mss X h 0 r.una r.nx r.du r.nx true r.cut)

end Go.Proofs.Ytfflheebjbdnoae
