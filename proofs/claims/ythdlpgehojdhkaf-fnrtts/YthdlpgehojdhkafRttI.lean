/-
  apart, sampled, RttSample, RttBackoff OF THE PROGRAM.
-/
import Derived.Test.YthdlpgehojdhkafRttN
import Derived.Test.YthdlpgehojdhkafQTail
namespace Go.Proofs.Ythdlpgehojdhkaf
open Go.RowKit
set_option linter.unusedVariables false


set_option maxRecDepth 20000 in
set_option maxHeartbeats 1000000 in
theorem iapart_any (a b : Int) (h0 : 0 ≤ a) (h1 : a ≤ 60000000) (h2 : 0 ≤ b) (h3 : b ≤ 60000000) (w : World) :
    Calls Try.prog 18 #[.int .i64 a, .int .i64 b] w fun e w' => e = .returned (.int .i64 (apF a b)) ∧ w' = w := by
  have hv : apF a b = mxF (b - a) (a - b) := by unfold apF mxF; (repeat' split) <;> omega
  have hv2 : apF a b = mxF (a - b) (b - a) := by rw [hv, mxF_comm]
  obtain ⟨X, hX⟩ : ∃ X, apF a b = X := ⟨_, rfl⟩
  rw [hX] at hv hv2 ⊢
  replace hv := hv.symm
  replace hv2 := hv2.symm
  clear hX
  go_enter Try.func18, Try.ntmps18
  go_wp2
  all_goals
    go_ret
    exact ⟨ret_int (by first | rfl | (rw [← hv]; unfold mxF; (repeat' split) <;> omega)), rfl⟩

set_option maxRecDepth 100000 in
set_option maxHeartbeats 4000000 in
theorem isampled_any (r : Rt) (us : Int) (hg : r.good = true) (h0 : 0 ≤ us) (h1 : us ≤ 60000000) (w : World) :
    Calls Try.prog 14 #[r.val, .int .i64 us] w fun e w' => e = .returned (r.smp us).val ∧ Below w.heap.size w w' := by
  obtain ⟨g1, g2, g3, g4, g5, g6, g7⟩ := r.good_iff.1 hg
  clear hg g7
  obtain ⟨s0, z0, c0⟩ := rboxes w r
  obtain ⟨W, hW⟩ : ∃ W, (w.alloc (.cells (rtCells r) 24)).alloc (.cells #[.bool false, .int .i64 0, .int .i64 0, .int .i64 0] 24) = W := ⟨_, rfl⟩
  rw [hW] at s0 z0 c0
  have lz := z0.lt
  have S0 : Hid (Sits W w.heap.size (rtCells r) 24) := s0
  have Z0 : Hid (Sits W (w.heap.size + 1) (rtCells Rt.zero) 24) := z0
  clear s0 z0
  cases hb : r.hs
  case false =>
    have hv : r.smp us = Rt.mk true us (us / 2) 0 := by unfold Rt.smp; rw [hb]; rfl
    rw [hv]
    clear hv
    have HB : Hid (r.hs = false) := hb
    clear hb
    have e2 := half_up h0 h1
    go_enter Try.func14, Try.ntmps14
    go_upto_region 1 with fail
    try rw [hW]
    clear hW
    obtain ⟨q0, q1, q2, q3⟩ := rt_cells S0.out
    have fs := Sits.frozen S0.out
    obtain ⟨p0, p1, p2, p3⟩ := rt_cells Z0.out
    have fz := Sits.frozen Z0.out
    dsimp only [Rt.zero] at p0 p1 p2 p3
    (try dsimp only at q0 q1 q2 q3)
    rw [HB.out] at q0
    go_wp2
    refine bodyPost_ret (ret_rtv (q := (Rt.mk true us (us / 2) 0)) (t := 24) (B := w.heap.size + 1) Try.results14 rfl ?_) rfl ⟨rfl, ?_⟩
    · exact putRt_sits (Z0.out) (Rt.mk true us (us / 2) 0)
    · exact putRt_below (c0) (by omega) (Rt.mk true us (us / 2) 0)
  case true =>
    obtain ⟨d0, d1⟩ := apF_bd h0 h1 g1 g2
    obtain ⟨d, hd⟩ : ∃ d, apF us r.mn = d := ⟨_, rfl⟩
    rw [hd] at d0 d1
    obtain ⟨V, hV⟩ : ∃ V, r.vr + (d - r.vr) / 4 = V := ⟨_, rfl⟩
    obtain ⟨M, hM⟩ : ∃ M, r.mn + (us - r.mn) / 8 = M := ⟨_, rfl⟩
    have hv : r.smp us = (Rt.mk true M V r.ro) := by unfold Rt.smp; rw [hb, hd, hV, hM]; rfl
    rw [hv]
    clear hv
    have HB : Hid (r.hs = true) := hb
    have HR : Hid (r = Rt.mk true r.mn r.vr r.ro) := by show r = _; rw [← hb]
    clear hb
    go_enter Try.func14, Try.ntmps14
    go_upto_region 1 with fail
    try rw [hW]
    clear hW
    obtain ⟨q0, q1, q2, q3⟩ := rt_cells S0.out
    have fs := Sits.frozen S0.out
    obtain ⟨p0, p1, p2, p3⟩ := rt_cells Z0.out
    have fz := Sits.frozen Z0.out
    dsimp only [Rt.zero] at p0 p1 p2 p3
    (try dsimp only at q0 q1 q2 q3)
    rw [HB.out] at q0
    go_upto_region 3 with fail
    clear q0 q1 q2 q3 p0 p1 p2 p3 fs fz
    refine wp_region_qtail 12 (C := fun w' => Below W.heap.size W w') (by kernel_rfl) (by kernel_rfl) ((Below.refl _ _).drew) ?_
    simp only [List.take_succ_cons, List.take_zero, List.drop_succ_cons, List.drop_zero]
    repeat (first
      | go_big_quiet_skip
      | (go_big_quiet_want
         unfold Oper.quiet
         apply Exists.intro
         refine ⟨fun w' hw' => ?_, ?_⟩
         (obtain ⟨q0, q1, q2, q3⟩ := rt_cells (Sits.below S0.out hw' (Sits.lt S0.out))
          go_simp
          first
            | (go_at_call 18; refine (iapart_any _ _ h0 h1 g1 g2 _).mono ?_; rintro e w8 ⟨rfl, rfl⟩; rw [hd]; exact ⟨rfl, hw'⟩)
            | exact rfl)
         simp only [Act.put, List.setIfInBounds_toArray, List.set_cons_zero, List.set_cons_succ]
         go_big_quiet_on))
    refine wpQuiet_nil ?_
    intro w7 hw7
    have s7 := Sits.below S0.out hw7 (Sits.lt S0.out)
    have z7 := Sits.below Z0.out hw7 (Sits.lt Z0.out)
    have c7 := Below.trans c0 (hw7.mono (Below.size c0))
    obtain ⟨q0, q1, q2, q3⟩ := rt_cells s7
    have fs := s7.frozen
    obtain ⟨p0, p1, p2, p3⟩ := rt_cells z7
    have fz := z7.frozen
    dsimp only [Rt.zero] at p0 p1 p2 p3
    have lz7 := z7.lt
    have Z7 : Hid (Sits w7 (w.heap.size + 1) (rtCells Rt.zero) 24) := z7
    rw [HB.out] at q0
    clear s7 z7 hw7 S0 Z0 c0
    go_wp2
    refine bodyPost_ret (ret_rtv (q := (Rt.mk true M V r.ro)) (t := 24) (B := w.heap.size + 1) Try.results14 rfl ?_) rfl ⟨rfl, ?_⟩
    · exact putRt_sits (Sits.other (Sits.other (Z7.out) (by omega) _) (by omega) _) (Rt.mk true M V r.ro)
    · exact putRt_below (Below.setCell (Below.setCell (c7) (Nat.le_refl _) _) (Nat.le_refl _) _) (by omega) (Rt.mk true M V r.ro)

set_option maxRecDepth 100000 in
set_option maxHeartbeats 4000000 in
theorem irttBackoff_any (r : Rt) (w : World) :
    Calls Try.prog 8 #[r.val] w fun e w' => e = .returned (.tuple #[(r.baF).val, .bool (r.good)]) ∧ Below w.heap.size w w' := by
  obtain ⟨s0, z0, c0⟩ := rboxes w r
  obtain ⟨W, hW⟩ : ∃ W, (w.alloc (.cells (rtCells r) 24)).alloc (.cells #[.bool false, .int .i64 0, .int .i64 0, .int .i64 0] 24) = W := ⟨_, rfl⟩
  rw [hW] at s0 z0 c0
  have lz := z0.lt
  have S0 : Hid (Sits W w.heap.size (rtCells r) 24) := s0
  have Z0 : Hid (Sits W (w.heap.size + 1) (rtCells Rt.zero) 24) := z0
  clear s0 z0
  cases hg : r.good
  case false =>
    have h2 : r.baF = Rt.zero := by unfold Rt.baF; rw [hg]; rfl
    rw [h2]
    clear h2
    have HG : Hid (r.good = false) := hg
    clear hg
    go_enter Try.func8, Try.ntmps8
    go_upto_region 1 with fail
    try rw [hW]
    clear hW
    obtain ⟨q0, q1, q2, q3⟩ := rt_cells S0.out
    have fs := Sits.frozen S0.out
    obtain ⟨p0, p1, p2, p3⟩ := rt_cells Z0.out
    have fz := Sits.frozen Z0.out
    dsimp only [Rt.zero] at p0 p1 p2 p3
    (try dsimp only at q0 q1 q2 q3)
    go_wp2_with (first | (go_at_call 7; refine (irttOk_any r _).mono ?_; rintro e w1 ⟨rfl, b1⟩; rw [HG.out]; have s1 := Sits.below (S0.out) b1 (Sits.lt (S0.out)); have z1 := Sits.below (Z0.out) b1 (Sits.lt (Z0.out)); clear q0 q1 q2 q3 p0 p1 p2 p3 fs fz; obtain ⟨q0, q1, q2, q3⟩ := rt_cells s1; have fs := s1.frozen; obtain ⟨p0, p1, p2, p3⟩ := rt_cells z1; have fz := z1.frozen; dsimp only [Rt.zero] at p0 p1 p2 p3; (try dsimp only at q0 q1 q2 q3); have lz1 := z1.lt; have S1 : Hid (Sits w1 w.heap.size (rtCells r) 24) := s1; have Z1 : Hid (Sits w1 (w.heap.size + 1) (rtCells Rt.zero) 24) := z1; have c1 := Below.trans (c0) (b1.mono (Below.size (c0))); clear s1 z1 b1))
    refine bodyPost_ret (ret_rtb (q := Rt.zero) (b := false) (t := 24) (B := w.heap.size + 1) Try.results8 rfl rfl ?_) rfl ⟨rfl, ?_⟩
    · exact putRt_sits (Z1.out) Rt.zero
    · exact putRt_below (c1) (by omega) Rt.zero
  case true =>
    obtain ⟨g1, g2, g3, g4, g5, g6, g7⟩ := r.good_iff.1 hg
    clear g7
    obtain ⟨X, hX⟩ : ∃ X, mnF (2 * r.ro) 60000000 = X := ⟨_, rfl⟩
    have h2 : r.baF = (Rt.mk r.hs r.mn r.vr X) := by unfold Rt.baF Rt.bak; rw [hg, hX]; rfl
    rw [h2]
    clear h2
    have hX3 : (if 60000000 < 2 * r.ro then 60000000 else 2 * r.ro) = X := by rw [← hX]; unfold mnF; (repeat' split) <;> omega
    have HG : Hid (r.good = true) := hg
    clear hg
    go_enter Try.func8, Try.ntmps8
    go_upto_region 1 with fail
    try rw [hW]
    clear hW
    obtain ⟨q0, q1, q2, q3⟩ := rt_cells S0.out
    have fs := Sits.frozen S0.out
    obtain ⟨p0, p1, p2, p3⟩ := rt_cells Z0.out
    have fz := Sits.frozen Z0.out
    dsimp only [Rt.zero] at p0 p1 p2 p3
    (try dsimp only at q0 q1 q2 q3)
    go_wp2_with (first | (go_at_call 7; refine (irttOk_any r _).mono ?_; rintro e w1 ⟨rfl, b1⟩; rw [HG.out]; have s1 := Sits.below (S0.out) b1 (Sits.lt (S0.out)); have z1 := Sits.below (Z0.out) b1 (Sits.lt (Z0.out)); clear q0 q1 q2 q3 p0 p1 p2 p3 fs fz; obtain ⟨q0, q1, q2, q3⟩ := rt_cells s1; have fs := s1.frozen; obtain ⟨p0, p1, p2, p3⟩ := rt_cells z1; have fz := z1.frozen; dsimp only [Rt.zero] at p0 p1 p2 p3; (try dsimp only at q0 q1 q2 q3); have lz1 := z1.lt; have S1 : Hid (Sits w1 w.heap.size (rtCells r) 24) := s1; have Z1 : Hid (Sits w1 (w.heap.size + 1) (rtCells Rt.zero) 24) := z1; have c1 := Below.trans (c0) (b1.mono (Below.size (c0))); clear s1 z1 b1))
    refine bodyPost_ret (ret_rtb (q := (Rt.mk r.hs r.mn r.vr X)) (b := true) (t := 24) (B := w.heap.size + 1) Try.results8 rfl rfl ?_) rfl ⟨rfl, ?_⟩
    · exact putRt_sits (Sits.other (Z1.out) (by omega) _) (Rt.mk r.hs r.mn r.vr X)
    · exact putRt_below (Below.setCell (c1) (Nat.le_refl _) _) (by omega) (Rt.mk r.hs r.mn r.vr X)

set_option maxRecDepth 100000 in
set_option maxHeartbeats 4000000 in
theorem irttSample_any (r : Rt) (us : Int) (w : World) :
    Calls Try.prog 5 #[r.val, .int .i64 us] w fun e w' => e = .returned (.tuple #[(r.smF us).val, .bool (r.smB us)]) ∧ Below w.heap.size w w' := by
  obtain ⟨s0, z0, c0⟩ := rboxes w r
  obtain ⟨W, hW⟩ : ∃ W, (w.alloc (.cells (rtCells r) 24)).alloc (.cells #[.bool false, .int .i64 0, .int .i64 0, .int .i64 0] 24) = W := ⟨_, rfl⟩
  rw [hW] at s0 z0 c0
  have lz := z0.lt
  have S0 : Hid (Sits W w.heap.size (rtCells r) 24) := s0
  have Z0 : Hid (Sits W (w.heap.size + 1) (rtCells Rt.zero) 24) := z0
  clear s0 z0
  cases hg : r.good
  case false =>
    have h1 : r.smB us = false := by unfold Rt.smB; rw [hg]; rfl
    have h2 : r.smF us = Rt.zero := by unfold Rt.smF; rw [h1]; rfl
    rw [h1, h2]
    clear h1 h2
    have HG : Hid (r.good = false) := hg
    clear hg
    go_enter Try.func5, Try.ntmps5
    go_upto_region 1 with fail
    try rw [hW]
    clear hW
    obtain ⟨q0, q1, q2, q3⟩ := rt_cells S0.out
    have fs := Sits.frozen S0.out
    obtain ⟨p0, p1, p2, p3⟩ := rt_cells Z0.out
    have fz := Sits.frozen Z0.out
    dsimp only [Rt.zero] at p0 p1 p2 p3
    (try dsimp only at q0 q1 q2 q3)
    go_wp2_with (first | (go_at_call 7; refine (irttOk_any r _).mono ?_; rintro e w1 ⟨rfl, b1⟩; rw [HG.out]; have s1 := Sits.below (S0.out) b1 (Sits.lt (S0.out)); have z1 := Sits.below (Z0.out) b1 (Sits.lt (Z0.out)); clear q0 q1 q2 q3 p0 p1 p2 p3 fs fz; obtain ⟨q0, q1, q2, q3⟩ := rt_cells s1; have fs := s1.frozen; obtain ⟨p0, p1, p2, p3⟩ := rt_cells z1; have fz := z1.frozen; dsimp only [Rt.zero] at p0 p1 p2 p3; (try dsimp only at q0 q1 q2 q3); have lz1 := z1.lt; have S1 : Hid (Sits w1 w.heap.size (rtCells r) 24) := s1; have Z1 : Hid (Sits w1 (w.heap.size + 1) (rtCells Rt.zero) 24) := z1; have c1 := Below.trans (c0) (b1.mono (Below.size (c0))); clear s1 z1 b1) | (go_at_call 13; refine (within_any _ _ _ _).mono ?_; rintro e w9 ⟨rfl, hw9⟩; replace hw9 := hw9.symm; subst hw9))
    refine bodyPost_ret (ret_rtb (q := Rt.zero) (b := false) (t := 24) (B := w.heap.size + 1) Try.results5 rfl rfl ?_) rfl ⟨rfl, ?_⟩
    · exact putRt_sits (Z1.out) Rt.zero
    · exact putRt_below (c1) (by omega) Rt.zero
  case true =>
  have HG : Hid (r.good = true) := hg
  cases hu : inB us 0 60000000
  case false =>
    have h1 : r.smB us = false := by unfold Rt.smB; rw [hg, hu]; rfl
    have h2 : r.smF us = Rt.zero := by unfold Rt.smF; rw [h1]; rfl
    rw [h1, h2]
    clear h1 h2
    clear hg
    go_enter Try.func5, Try.ntmps5
    go_upto_region 1 with fail
    try rw [hW]
    clear hW
    obtain ⟨q0, q1, q2, q3⟩ := rt_cells S0.out
    have fs := Sits.frozen S0.out
    obtain ⟨p0, p1, p2, p3⟩ := rt_cells Z0.out
    have fz := Sits.frozen Z0.out
    dsimp only [Rt.zero] at p0 p1 p2 p3
    (try dsimp only at q0 q1 q2 q3)
    go_wp2_with (first | (go_at_call 7; refine (irttOk_any r _).mono ?_; rintro e w1 ⟨rfl, b1⟩; rw [HG.out]; have s1 := Sits.below (S0.out) b1 (Sits.lt (S0.out)); have z1 := Sits.below (Z0.out) b1 (Sits.lt (Z0.out)); clear q0 q1 q2 q3 p0 p1 p2 p3 fs fz; obtain ⟨q0, q1, q2, q3⟩ := rt_cells s1; have fs := s1.frozen; obtain ⟨p0, p1, p2, p3⟩ := rt_cells z1; have fz := z1.frozen; dsimp only [Rt.zero] at p0 p1 p2 p3; (try dsimp only at q0 q1 q2 q3); have lz1 := z1.lt; have S1 : Hid (Sits w1 w.heap.size (rtCells r) 24) := s1; have Z1 : Hid (Sits w1 (w.heap.size + 1) (rtCells Rt.zero) 24) := z1; have c1 := Below.trans (c0) (b1.mono (Below.size (c0))); clear s1 z1 b1) | (go_at_call 13; refine (within_any _ _ _ _).mono ?_; rintro e w9 ⟨rfl, hw9⟩; replace hw9 := hw9.symm; subst hw9))
    refine bodyPost_ret (ret_rtb (q := Rt.zero) (b := false) (t := 24) (B := w.heap.size + 1) Try.results5 rfl rfl ?_) rfl ⟨rfl, ?_⟩
    · exact putRt_sits (Z1.out) Rt.zero
    · exact putRt_below (c1) (by omega) Rt.zero
  case true =>
    have hu2 : 0 ≤ us ∧ us ≤ 60000000 := by simpa [inB] using hu
    obtain ⟨u0, u1⟩ := hu2
    obtain ⟨k1, k2, k3, k4, k5⟩ := Rt.smp_bd hg u0 u1
    obtain ⟨M, hM⟩ : ∃ M, (r.smp us).mn = M := ⟨_, rfl⟩
    obtain ⟨V, hV⟩ : ∃ V, (r.smp us).vr = V := ⟨_, rfl⟩
    obtain ⟨O, hO⟩ : ∃ O, (r.smp us).ro = O := ⟨_, rfl⟩
    rw [hM] at k2 k3
    rw [hV] at k4 k5
    have hsm : r.smp us = Rt.mk true M V O := by
      rw [← k1, ← hM, ← hV, ← hO]
    obtain ⟨X, hX⟩ : ∃ X, rtoF M V = X := ⟨_, rfl⟩
    have h1 : r.smB us = true := by unfold Rt.smB; rw [hg, hu]; rfl
    have h2 : r.smF us = (Rt.mk true M V X) := by unfold Rt.smF Rt.nxt; rw [h1, hsm]; dsimp only; rw [hX]; rfl
    rw [h1, h2]
    have HSM : Hid (r.smp us = Rt.mk true M V O) := hsm
    clear h1 h2 hM hV hO k1 hsm hg
    unfold rtoF at hX
    have e1 := mxF_comm (4 * V) 1000
    obtain ⟨X1, hX1⟩ : ∃ X, mxF 1000 (4 * V) = X := ⟨_, rfl⟩
    have b1 := mxF_bd 1000 (4 * V)
    rw [hX1] at b1 e1
    rw [e1] at hX
    have e2 := mxF_comm (M + X1) 1000000
    obtain ⟨X2, hX2⟩ : ∃ X, mxF 1000000 (M + X1) = X := ⟨_, rfl⟩
    rw [hX2] at e2
    rw [e2] at hX
    have hX3 : (if 60000000 < X2 then 60000000 else X2) = X := by rw [← hX]; unfold mnF; (repeat' split) <;> omega
    have hX5 : (if M + X1 < 1000000 then 1000000 else M + X1) = X2 := by rw [← hX2]; unfold mxF; (repeat' split) <;> omega
    have hX6 : (if 4 * V < 1000 then 1000 else 4 * V) = X1 := by rw [← hX1]; unfold mxF; (repeat' split) <;> omega
    obtain ⟨b11, b12, b13⟩ := b1
    have b14 : X1 ≤ 240000000 := by omega
    clear e1 e2 hX b13 hX1 hX2
    go_enter Try.func5, Try.ntmps5
    go_upto_region 1 with fail
    try rw [hW]
    clear hW
    obtain ⟨q0, q1, q2, q3⟩ := rt_cells S0.out
    have fs := Sits.frozen S0.out
    obtain ⟨p0, p1, p2, p3⟩ := rt_cells Z0.out
    have fz := Sits.frozen Z0.out
    dsimp only [Rt.zero] at p0 p1 p2 p3
    (try dsimp only at q0 q1 q2 q3)
    go_upto_region 5 with (first | (go_at_call 7; refine (irttOk_any r _).mono ?_; rintro e w1 ⟨rfl, b1⟩; rw [HG.out]; have s1 := Sits.below (S0.out) b1 (Sits.lt (S0.out)); have z1 := Sits.below (Z0.out) b1 (Sits.lt (Z0.out)); clear q0 q1 q2 q3 p0 p1 p2 p3 fs fz; obtain ⟨q0, q1, q2, q3⟩ := rt_cells s1; have fs := s1.frozen; obtain ⟨p0, p1, p2, p3⟩ := rt_cells z1; have fz := z1.frozen; dsimp only [Rt.zero] at p0 p1 p2 p3; (try dsimp only at q0 q1 q2 q3); have lz1 := z1.lt; have S1 : Hid (Sits w1 w.heap.size (rtCells r) 24) := s1; have Z1 : Hid (Sits w1 (w.heap.size + 1) (rtCells Rt.zero) 24) := z1; have c1 := Below.trans (c0) (b1.mono (Below.size (c0))); clear s1 z1 b1) | (go_at_call 13; refine (within_any _ _ _ _).mono ?_; rintro e w9 ⟨rfl, hw9⟩; replace hw9 := hw9.symm; subst hw9) | (go_at_call 14; refine (isampled_any r us HG.out u0 u1 _).mono ?_; rintro e w2 ⟨rfl, b2⟩; rw [HSM.out]; have s1 := Sits.below S1.out b2 (Sits.lt S1.out); have z1 := Sits.below Z1.out b2 (Sits.lt Z1.out); clear q0 q1 q2 q3 p0 p1 p2 p3 fs fz; obtain ⟨q0, q1, q2, q3⟩ := rt_cells s1; have fs := s1.frozen; obtain ⟨p0, p1, p2, p3⟩ := rt_cells z1; have fz := z1.frozen; dsimp only [Rt.zero] at p0 p1 p2 p3; have lz2 := z1.lt; have S2 : Hid (Sits w2 w.heap.size (rtCells r) 24) := s1; have Z2 : Hid (Sits w2 (w.heap.size + 1) (rtCells Rt.zero) 24) := z1; have c2 := Below.trans c1 (b2.mono (Below.size c1)); clear s1 z1 b2))
    obtain ⟨W3, hW3⟩ : ∃ x, ((((w2.setCell ⟨w.heap.size, 0, none⟩ (.bool true)).setCell ⟨w.heap.size, 1, none⟩ (.int .i64 M)).setCell ⟨w.heap.size, 2, none⟩ (.int .i64 V)).setCell ⟨w.heap.size, 3, none⟩ (.int .i64 O)).setCell ⟨w.heap.size, 3, none⟩ (.int .i64 X) = x := ⟨_, rfl⟩
    have s1 : Sits W3 w.heap.size (rtCells (Rt.mk true M V X)) 24 := by rw [← hW3]; exact rt_s3 (putRt_sits S2.out (Rt.mk true M V O)) X
    have z1 : Sits W3 (w.heap.size + 1) (rtCells Rt.zero) 24 := by rw [← hW3]; exact Sits.other (Sits.other (Sits.other (Sits.other (Sits.other (Z2.out) (by omega) _) (by omega) _) (by omega) _) (by omega) _) (by omega) _
    have c3 : Below w.heap.size w W3 := by rw [← hW3]; exact Below.setCell (Below.setCell (Below.setCell (Below.setCell (Below.setCell (c2) (Nat.le_refl _) _) (Nat.le_refl _) _) (Nat.le_refl _) _) (Nat.le_refl _) _) (Nat.le_refl _) _
    rw [hW3]
    clear hW3 q0 q1 q2 q3 p0 p1 p2 p3 fs fz
    obtain ⟨q0, q1, q2, q3⟩ := rt_cells s1
    have fs := s1.frozen
    obtain ⟨p0, p1, p2, p3⟩ := rt_cells z1
    have fz := z1.frozen
    dsimp only [Rt.zero] at p0 p1 p2 p3
    (try dsimp only at q0 q1 q2 q3)
    have lz3 := z1.lt
    have S3 : Hid (Sits W3 w.heap.size (rtCells (Rt.mk true M V X)) 24) := s1
    have Z3 : Hid (Sits W3 (w.heap.size + 1) (rtCells Rt.zero) 24) := z1
    clear s1 z1
    go_wp2
    refine bodyPost_ret (ret_rtb (q := (Rt.mk true M V X)) (b := true) (t := 24) (B := w.heap.size + 1) Try.results5 rfl rfl ?_) rfl ⟨rfl, ?_⟩
    · exact putRt_sits (Z3.out) (Rt.mk true M V X)
    · exact putRt_below (c3) (by omega) (Rt.mk true M V X)

end Go.Proofs.Ythdlpgehojdhkaf
