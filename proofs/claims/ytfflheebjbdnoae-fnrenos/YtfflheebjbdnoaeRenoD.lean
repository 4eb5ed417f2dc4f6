/-
  RENO's RECOVERY in the program: recovered, recovering, repeated, progressed.
-/
import Derived.Test.YtfflheebjbdnoaeRenoR
import Derived.Deep.RegionWith
import Derived.Deep.Cut
namespace Go.Proofs.Ytfflheebjbdnoae
open Go.RowKit
set_option linter.unusedVariables false

theorem recov_fit {r : Rn} (hf : r.fit) : r.recov.fit := by
  unfold Rn.fit at *
  have h1 := minI_bd r.th (r.mss + maxI r.fl r.mss)
  have h2 := maxI_bd r.fl r.mss
  simp only [Rn.recov, Rn.fl] at *
  omega

set_option maxRecDepth 20000 in
set_option maxHeartbeats 2000000 in
theorem repeated_any (r : Rn) (h : Int) (hf : r.fit) (h0 : 0 ≤ h) (h1 : h ≤ 100000000) (w : World) :
    Calls Try.prog 38 #[r.val, .int .i64 h] w fun e w' => e = .returned (r.rep h).val ∧ Below w.heap.size w w' := by
  unfold Rn.fit at hf
  obtain ⟨s0, z0, c0, -⟩ := zero_boxes w r
  obtain ⟨W, hW⟩ : ∃ W, (w.alloc (.cells (rnCells r) 24)).alloc (.cells #[.int .i64 0, .int .i64 0, .int .i64 0, .int .i64 0, .int .i64 0, .int .i64 0, .int .i64 0, .int .i64 0, .bool false, .int .i64 0] 24) = W := ⟨_, rfl⟩
  rw [hW] at s0 z0 c0
  have lz := z0.lt
  have S0 : Hid (Sits W w.heap.size (rnCells r) 24) := s0
  have Z0 : Hid (Sits W (w.heap.size + 1) (rnCells Rn.zero) 24) := z0
  clear s0 z0
  by_cases k : 1000000 < r.du + 1
  · cases hi : r.inn
    case true =>
      obtain ⟨q, hq⟩ : ∃ q, Rn.widen (Rn.mk r.mss r.cw r.th r.ac r.una r.nx 1000000 r.rc true r.cut) r.mss = q := ⟨_, rfl⟩
      have hv : r.rep h = q := by unfold Rn.rep minI; simp [k, hi, ← hq]
      rw [hv]
      clear hv
      have HI : Hid (r.inn = _) := hi
      clear hi
      go_enter Try.func38, Try.ntmps38
      go_upto_region 1 with fail
      try rw [hW]
      clear hW
      obtain ⟨q0, q1, q2, q3, q4, q5, q6, q7, q8, q9⟩ := rn_cells S0.out
      have fs := Sits.frozen S0.out
      obtain ⟨p0, p1, p2, p3, p4, p5, p6, p7, p8, p9⟩ := rn_cells Z0.out
      have fz := Sits.frozen Z0.out
      dsimp only [Rn.zero] at p0 p1 p2 p3 p4 p5 p6 p7 p8 p9
      have hi := HI.out
      rw [hi] at q8
      clear hi
      go_wp2_with (go_at_call 54; refine (widened_any (Rn.mk r.mss r.cw r.th r.ac r.una r.nx 1000000 r.rc true r.cut) r.mss (by unfold Rn.fit; dsimp only; omega) (by omega) (by omega) _).mono ?_; rintro e w1 ⟨rfl, b1⟩; rw [hq]; have s1 := Sits.below (rn_s6 S0.out _) b1 (Sits.lt (rn_s6 S0.out _)); have z1 := Sits.below (Sits.other (Z0.out) (by omega) _) b1 (Sits.lt (Sits.other (Z0.out) (by omega) _)); clear q0 q1 q2 q3 q4 q5 q6 q7 q8 q9 p0 p1 p2 p3 p4 p5 p6 p7 p8 p9 fs fz; obtain ⟨q0, q1, q2, q3, q4, q5, q6, q7, q8, q9⟩ := rn_cells s1; have fs := s1.frozen; obtain ⟨p0, p1, p2, p3, p4, p5, p6, p7, p8, p9⟩ := rn_cells z1; have fz := z1.frozen; dsimp only [Rn.zero] at p0 p1 p2 p3 p4 p5 p6 p7 p8 p9; have lz1 := z1.lt; have S1 : Hid (Sits w1 w.heap.size (rnCells (Rn.mk r.mss r.cw r.th r.ac r.una r.nx 1000000 r.rc r.inn r.cut)) 24) := s1; have Z1 : Hid (Sits w1 (w.heap.size + 1) (rnCells Rn.zero) 24) := z1; have c1 := Below.trans (Below.setCell (c0) (Nat.le_refl _) _) (b1.mono (Below.size (Below.setCell (c0) (Nat.le_refl _) _))); clear s1 z1 b1)
      refine bodyPost_ret (ret_rn (q := q) (t := 24) (B := w.heap.size + 1) Try.results38 rfl ?_) rfl ⟨rfl, ?_⟩
      · exact put_sits Z1.out q
      · exact put_below c1 (by omega) q
    case false =>
      have k2 : ((1000000 : Int) == 3) = false := by decide
      have hv : r.rep h = (Rn.mk r.mss r.cw r.th r.ac r.una r.nx 1000000 r.rc false r.cut) := by unfold Rn.rep minI; simp [k, hi]
      rw [hv]
      clear hv
      have HI : Hid (r.inn = _) := hi
      clear hi
      go_enter Try.func38, Try.ntmps38
      go_upto_region 1 with fail
      try rw [hW]
      clear hW
      obtain ⟨q0, q1, q2, q3, q4, q5, q6, q7, q8, q9⟩ := rn_cells S0.out
      have fs := Sits.frozen S0.out
      obtain ⟨p0, p1, p2, p3, p4, p5, p6, p7, p8, p9⟩ := rn_cells Z0.out
      have fz := Sits.frozen Z0.out
      dsimp only [Rn.zero] at p0 p1 p2 p3 p4 p5 p6 p7 p8 p9
      have hi := HI.out
      rw [hi] at q8
      clear hi
      go_wp2
      refine bodyPost_ret (ret_rn (q := (Rn.mk r.mss r.cw r.th r.ac r.una r.nx 1000000 r.rc false r.cut)) (t := 24) (B := w.heap.size + 1) Try.results38 rfl ?_) rfl ⟨rfl, ?_⟩
      · exact put_sits (Sits.other Z0.out (by omega) _) (Rn.mk r.mss r.cw r.th r.ac r.una r.nx 1000000 r.rc false r.cut)
      · exact put_below (Below.setCell c0 (Nat.le_refl _) _) (by omega) (Rn.mk r.mss r.cw r.th r.ac r.una r.nx 1000000 r.rc false r.cut)
  · cases hi : r.inn
    case true =>
      obtain ⟨q, hq⟩ : ∃ q, Rn.widen (Rn.mk r.mss r.cw r.th r.ac r.una r.nx (r.du + 1) r.rc true r.cut) r.mss = q := ⟨_, rfl⟩
      have hv : r.rep h = q := by unfold Rn.rep minI; simp [k, hi, ← hq]
      rw [hv]
      clear hv
      have HI : Hid (r.inn = _) := hi
      clear hi
      go_enter Try.func38, Try.ntmps38
      go_upto_region 1 with fail
      try rw [hW]
      clear hW
      obtain ⟨q0, q1, q2, q3, q4, q5, q6, q7, q8, q9⟩ := rn_cells S0.out
      have fs := Sits.frozen S0.out
      obtain ⟨p0, p1, p2, p3, p4, p5, p6, p7, p8, p9⟩ := rn_cells Z0.out
      have fz := Sits.frozen Z0.out
      dsimp only [Rn.zero] at p0 p1 p2 p3 p4 p5 p6 p7 p8 p9
      have hi := HI.out
      rw [hi] at q8
      clear hi
      go_wp2_with (go_at_call 54; refine (widened_any (Rn.mk r.mss r.cw r.th r.ac r.una r.nx (r.du + 1) r.rc true r.cut) r.mss (by unfold Rn.fit; dsimp only; omega) (by omega) (by omega) _).mono ?_; rintro e w1 ⟨rfl, b1⟩; rw [hq]; have s1 := Sits.below (rn_s6 S0.out _) b1 (Sits.lt (rn_s6 S0.out _)); have z1 := Sits.below (Sits.other (Z0.out) (by omega) _) b1 (Sits.lt (Sits.other (Z0.out) (by omega) _)); clear q0 q1 q2 q3 q4 q5 q6 q7 q8 q9 p0 p1 p2 p3 p4 p5 p6 p7 p8 p9 fs fz; obtain ⟨q0, q1, q2, q3, q4, q5, q6, q7, q8, q9⟩ := rn_cells s1; have fs := s1.frozen; obtain ⟨p0, p1, p2, p3, p4, p5, p6, p7, p8, p9⟩ := rn_cells z1; have fz := z1.frozen; dsimp only [Rn.zero] at p0 p1 p2 p3 p4 p5 p6 p7 p8 p9; have lz1 := z1.lt; have S1 : Hid (Sits w1 w.heap.size (rnCells (Rn.mk r.mss r.cw r.th r.ac r.una r.nx (r.du + 1) r.rc r.inn r.cut)) 24) := s1; have Z1 : Hid (Sits w1 (w.heap.size + 1) (rnCells Rn.zero) 24) := z1; have c1 := Below.trans (Below.setCell (c0) (Nat.le_refl _) _) (b1.mono (Below.size (Below.setCell (c0) (Nat.le_refl _) _))); clear s1 z1 b1)
      refine bodyPost_ret (ret_rn (q := q) (t := 24) (B := w.heap.size + 1) Try.results38 rfl ?_) rfl ⟨rfl, ?_⟩
      · exact put_sits Z1.out q
      · exact put_below c1 (by omega) q
    case false =>
      by_cases k2 : r.du + 1 = 3
      · have k2' : (r.du + 1 == 3) = true := by simpa using k2
        by_cases k3 : r.rc ≤ r.una
        · obtain ⟨q, hq⟩ : ∃ q, Rn.recg (Rn.mk r.mss r.cw r.th r.ac r.una r.nx (r.du + 1) r.rc false r.cut) h = q := ⟨_, rfl⟩
          have hv : r.rep h = q := by unfold Rn.rep minI; simp [hi, k2, k3, ← hq]
          rw [hv]
          clear hv k2
          have HI : Hid (r.inn = _) := hi
          clear hi
          go_enter Try.func38, Try.ntmps38
          go_upto_region 1 with fail
          try rw [hW]
          clear hW
          obtain ⟨q0, q1, q2, q3, q4, q5, q6, q7, q8, q9⟩ := rn_cells S0.out
          have fs := Sits.frozen S0.out
          obtain ⟨p0, p1, p2, p3, p4, p5, p6, p7, p8, p9⟩ := rn_cells Z0.out
          have fz := Sits.frozen Z0.out
          dsimp only [Rn.zero] at p0 p1 p2 p3 p4 p5 p6 p7 p8 p9
          have hi := HI.out
          rw [hi] at q8
          clear hi
          go_wp2_with (go_at_call 55; refine (recovering_any (Rn.mk r.mss r.cw r.th r.ac r.una r.nx (r.du + 1) r.rc false r.cut) h (by unfold Rn.fit; dsimp only; omega) h0 h1 _).mono ?_; rintro e w1 ⟨rfl, b1⟩; rw [hq]; have s1 := Sits.below (rn_s6 S0.out _) b1 (Sits.lt (rn_s6 S0.out _)); have z1 := Sits.below (Sits.other (Z0.out) (by omega) _) b1 (Sits.lt (Sits.other (Z0.out) (by omega) _)); clear q0 q1 q2 q3 q4 q5 q6 q7 q8 q9 p0 p1 p2 p3 p4 p5 p6 p7 p8 p9 fs fz; obtain ⟨q0, q1, q2, q3, q4, q5, q6, q7, q8, q9⟩ := rn_cells s1; have fs := s1.frozen; obtain ⟨p0, p1, p2, p3, p4, p5, p6, p7, p8, p9⟩ := rn_cells z1; have fz := z1.frozen; dsimp only [Rn.zero] at p0 p1 p2 p3 p4 p5 p6 p7 p8 p9; have lz1 := z1.lt; have S1 : Hid (Sits w1 w.heap.size (rnCells (Rn.mk r.mss r.cw r.th r.ac r.una r.nx (r.du + 1) r.rc r.inn r.cut)) 24) := s1; have Z1 : Hid (Sits w1 (w.heap.size + 1) (rnCells Rn.zero) 24) := z1; have c1 := Below.trans (Below.setCell (c0) (Nat.le_refl _) _) (b1.mono (Below.size (Below.setCell (c0) (Nat.le_refl _) _))); clear s1 z1 b1)
          refine bodyPost_ret (ret_rn (q := q) (t := 24) (B := w.heap.size + 1) Try.results38 rfl ?_) rfl ⟨rfl, ?_⟩
          · exact put_sits Z1.out q
          · exact put_below c1 (by omega) q
        · have hv : r.rep h = (Rn.mk r.mss r.cw r.th r.ac r.una r.nx (r.du + 1) r.rc false r.cut) := by unfold Rn.rep minI; simp [k, hi, k3]
          rw [hv]
          clear hv k2
          have HI : Hid (r.inn = _) := hi
          clear hi
          go_enter Try.func38, Try.ntmps38
          go_upto_region 1 with fail
          try rw [hW]
          clear hW
          obtain ⟨q0, q1, q2, q3, q4, q5, q6, q7, q8, q9⟩ := rn_cells S0.out
          have fs := Sits.frozen S0.out
          obtain ⟨p0, p1, p2, p3, p4, p5, p6, p7, p8, p9⟩ := rn_cells Z0.out
          have fz := Sits.frozen Z0.out
          dsimp only [Rn.zero] at p0 p1 p2 p3 p4 p5 p6 p7 p8 p9
          have hi := HI.out
          rw [hi] at q8
          clear hi
          go_wp2
          refine bodyPost_ret (ret_rn (q := (Rn.mk r.mss r.cw r.th r.ac r.una r.nx (r.du + 1) r.rc false r.cut)) (t := 24) (B := w.heap.size + 1) Try.results38 rfl ?_) rfl ⟨rfl, ?_⟩
          · exact put_sits (Sits.other Z0.out (by omega) _) (Rn.mk r.mss r.cw r.th r.ac r.una r.nx (r.du + 1) r.rc false r.cut)
          · exact put_below (Below.setCell c0 (Nat.le_refl _) _) (by omega) (Rn.mk r.mss r.cw r.th r.ac r.una r.nx (r.du + 1) r.rc false r.cut)
      · have k2' : (r.du + 1 == 3) = false := by simpa using k2
        have hv : r.rep h = (Rn.mk r.mss r.cw r.th r.ac r.una r.nx (r.du + 1) r.rc false r.cut) := by unfold Rn.rep minI; simp [k, hi, k2]
        rw [hv]
        clear hv k2
        have HI : Hid (r.inn = _) := hi
        clear hi
        go_enter Try.func38, Try.ntmps38
        go_upto_region 1 with fail
        try rw [hW]
        clear hW
        obtain ⟨q0, q1, q2, q3, q4, q5, q6, q7, q8, q9⟩ := rn_cells S0.out
        have fs := Sits.frozen S0.out
        obtain ⟨p0, p1, p2, p3, p4, p5, p6, p7, p8, p9⟩ := rn_cells Z0.out
        have fz := Sits.frozen Z0.out
        dsimp only [Rn.zero] at p0 p1 p2 p3 p4 p5 p6 p7 p8 p9
        have hi := HI.out
        rw [hi] at q8
        clear hi
        go_wp2
        refine bodyPost_ret (ret_rn (q := (Rn.mk r.mss r.cw r.th r.ac r.una r.nx (r.du + 1) r.rc false r.cut)) (t := 24) (B := w.heap.size + 1) Try.results38 rfl ?_) rfl ⟨rfl, ?_⟩
        · exact put_sits (Sits.other Z0.out (by omega) _) (Rn.mk r.mss r.cw r.th r.ac r.una r.nx (r.du + 1) r.rc false r.cut)
        · exact put_below (Below.setCell c0 (Nat.le_refl _) _) (by omega) (Rn.mk r.mss r.cw r.th r.ac r.una r.nx (r.du + 1) r.rc false r.cut)

set_option maxRecDepth 20000 in
set_option maxHeartbeats 2000000 in
theorem progressed_any (r : Rn) (b : Int) (hf : r.fit) (b0 : 0 ≤ b) (b1 : r.una + b ≤ r.nx) (w : World) :
    Calls Try.prog 37 #[r.val, .int .i64 b] w fun e w' => e = .returned (r.prog b).val ∧ Below w.heap.size w w' := by
  unfold Rn.fit at hf
  obtain ⟨s0, z0, c0, -⟩ := zero_boxes w r
  obtain ⟨W, hW⟩ : ∃ W, (w.alloc (.cells (rnCells r) 24)).alloc (.cells #[.int .i64 0, .int .i64 0, .int .i64 0, .int .i64 0, .int .i64 0, .int .i64 0, .int .i64 0, .int .i64 0, .bool false, .int .i64 0] 24) = W := ⟨_, rfl⟩
  rw [hW] at s0 z0 c0
  have lz := z0.lt
  have S0 : Hid (Sits W w.heap.size (rnCells r) 24) := s0
  have Z0 : Hid (Sits W (w.heap.size + 1) (rnCells Rn.zero) 24) := z0
  clear s0 z0
  cases hi : r.inn
  case false =>
    obtain ⟨q, hq⟩ : ∃ q, Rn.grow (Rn.mk r.mss r.cw r.th r.ac (r.una + b) r.nx 0 r.rc false r.cut) b = q := ⟨_, rfl⟩
    have hv : r.prog b = q := by unfold Rn.prog; simp [hi, ← hq]
    rw [hv]
    clear hv
    have HI : Hid (r.inn = _) := hi
    clear hi
    go_enter Try.func37, Try.ntmps37
    go_upto_region 1 with fail
    try rw [hW]
    clear hW
    obtain ⟨q0, q1, q2, q3, q4, q5, q6, q7, q8, q9⟩ := rn_cells S0.out
    have fs := Sits.frozen S0.out
    obtain ⟨p0, p1, p2, p3, p4, p5, p6, p7, p8, p9⟩ := rn_cells Z0.out
    have fz := Sits.frozen Z0.out
    dsimp only [Rn.zero] at p0 p1 p2 p3 p4 p5 p6 p7 p8 p9
    have hi := HI.out
    rw [hi] at q8
    clear hi
    go_wp2_with (go_at_call 51; refine (grown_any (Rn.mk r.mss r.cw r.th r.ac (r.una + b) r.nx 0 r.rc false r.cut) b (by unfold Rn.fit; dsimp only; omega) b0 (by omega) _).mono ?_; rintro e w1 ⟨rfl, b1⟩; rw [hq]; have s1 := Sits.below (rn_s6 (rn_s4 S0.out _) _) b1 (Sits.lt (rn_s6 (rn_s4 S0.out _) _)); have z1 := Sits.below (Sits.other (Sits.other (Z0.out) (by omega) _) (by omega) _) b1 (Sits.lt (Sits.other (Sits.other (Z0.out) (by omega) _) (by omega) _)); clear q0 q1 q2 q3 q4 q5 q6 q7 q8 q9 p0 p1 p2 p3 p4 p5 p6 p7 p8 p9 fs fz; obtain ⟨q0, q1, q2, q3, q4, q5, q6, q7, q8, q9⟩ := rn_cells s1; have fs := s1.frozen; obtain ⟨p0, p1, p2, p3, p4, p5, p6, p7, p8, p9⟩ := rn_cells z1; have fz := z1.frozen; dsimp only [Rn.zero] at p0 p1 p2 p3 p4 p5 p6 p7 p8 p9; have lz1 := z1.lt; have S1 : Hid (Sits w1 w.heap.size (rnCells (Rn.mk r.mss r.cw r.th r.ac (r.una + b) r.nx 0 r.rc r.inn r.cut)) 24) := s1; have Z1 : Hid (Sits w1 (w.heap.size + 1) (rnCells Rn.zero) 24) := z1; have c1 := Below.trans (Below.setCell (Below.setCell (c0) (Nat.le_refl _) _) (Nat.le_refl _) _) (b1.mono (Below.size (Below.setCell (Below.setCell (c0) (Nat.le_refl _) _) (Nat.le_refl _) _))); clear s1 z1 b1)
    refine bodyPost_ret (ret_rn (q := q) (t := 24) (B := w.heap.size + 1) Try.results37 rfl ?_) rfl ⟨rfl, ?_⟩
    · exact put_sits Z1.out q
    · exact put_below c1 (by omega) q
  case true =>
    by_cases k : r.rc ≤ r.una + b
    · obtain ⟨q, hq⟩ : ∃ q, Rn.recov (Rn.mk r.mss r.cw r.th r.ac (r.una + b) r.nx 0 r.rc true r.cut) = q := ⟨_, rfl⟩
      have hv : r.prog b = q := by unfold Rn.prog; simp [hi, k, ← hq]
      rw [hv]
      clear hv
      have HI : Hid (r.inn = _) := hi
      clear hi
      go_enter Try.func37, Try.ntmps37
      go_upto_region 1 with fail
      try rw [hW]
      clear hW
      obtain ⟨q0, q1, q2, q3, q4, q5, q6, q7, q8, q9⟩ := rn_cells S0.out
      have fs := Sits.frozen S0.out
      obtain ⟨p0, p1, p2, p3, p4, p5, p6, p7, p8, p9⟩ := rn_cells Z0.out
      have fz := Sits.frozen Z0.out
      dsimp only [Rn.zero] at p0 p1 p2 p3 p4 p5 p6 p7 p8 p9
      have hi := HI.out
      rw [hi] at q8
      clear hi
      go_wp2_with (go_at_call 52; refine (recovered_any (Rn.mk r.mss r.cw r.th r.ac (r.una + b) r.nx 0 r.rc true r.cut) (by unfold Rn.fit; dsimp only; omega) _).mono ?_; rintro e w1 ⟨rfl, b1⟩; rw [hq]; have s1 := Sits.below (rn_s6 (rn_s4 S0.out _) _) b1 (Sits.lt (rn_s6 (rn_s4 S0.out _) _)); have z1 := Sits.below (Sits.other (Sits.other (Z0.out) (by omega) _) (by omega) _) b1 (Sits.lt (Sits.other (Sits.other (Z0.out) (by omega) _) (by omega) _)); clear q0 q1 q2 q3 q4 q5 q6 q7 q8 q9 p0 p1 p2 p3 p4 p5 p6 p7 p8 p9 fs fz; obtain ⟨q0, q1, q2, q3, q4, q5, q6, q7, q8, q9⟩ := rn_cells s1; have fs := s1.frozen; obtain ⟨p0, p1, p2, p3, p4, p5, p6, p7, p8, p9⟩ := rn_cells z1; have fz := z1.frozen; dsimp only [Rn.zero] at p0 p1 p2 p3 p4 p5 p6 p7 p8 p9; have lz1 := z1.lt; have S1 : Hid (Sits w1 w.heap.size (rnCells (Rn.mk r.mss r.cw r.th r.ac (r.una + b) r.nx 0 r.rc r.inn r.cut)) 24) := s1; have Z1 : Hid (Sits w1 (w.heap.size + 1) (rnCells Rn.zero) 24) := z1; have c1 := Below.trans (Below.setCell (Below.setCell (c0) (Nat.le_refl _) _) (Nat.le_refl _) _) (b1.mono (Below.size (Below.setCell (Below.setCell (c0) (Nat.le_refl _) _) (Nat.le_refl _) _))); clear s1 z1 b1)
      refine bodyPost_ret (ret_rn (q := q) (t := 24) (B := w.heap.size + 1) Try.results37 rfl ?_) rfl ⟨rfl, ?_⟩
      · exact put_sits Z1.out q
      · exact put_below c1 (by omega) q
    · obtain ⟨q, hq⟩ : ∃ q, Rn.part (Rn.mk r.mss r.cw r.th r.ac (r.una + b) r.nx 0 r.rc true r.cut) b = q := ⟨_, rfl⟩
      have hv : r.prog b = q := by unfold Rn.prog; simp [hi, k, ← hq]
      rw [hv]
      clear hv
      have HI : Hid (r.inn = _) := hi
      clear hi
      go_enter Try.func37, Try.ntmps37
      go_upto_region 1 with fail
      try rw [hW]
      clear hW
      obtain ⟨q0, q1, q2, q3, q4, q5, q6, q7, q8, q9⟩ := rn_cells S0.out
      have fs := Sits.frozen S0.out
      obtain ⟨p0, p1, p2, p3, p4, p5, p6, p7, p8, p9⟩ := rn_cells Z0.out
      have fz := Sits.frozen Z0.out
      dsimp only [Rn.zero] at p0 p1 p2 p3 p4 p5 p6 p7 p8 p9
      have hi := HI.out
      rw [hi] at q8
      clear hi
      go_wp2_with (go_at_call 53; refine (partlyAcked_any (Rn.mk r.mss r.cw r.th r.ac (r.una + b) r.nx 0 r.rc true r.cut) b (by unfold Rn.fit; dsimp only; omega) b0 (by omega) _).mono ?_; rintro e w1 ⟨rfl, b1⟩; rw [hq]; have s1 := Sits.below (rn_s6 (rn_s4 S0.out _) _) b1 (Sits.lt (rn_s6 (rn_s4 S0.out _) _)); have z1 := Sits.below (Sits.other (Sits.other (Z0.out) (by omega) _) (by omega) _) b1 (Sits.lt (Sits.other (Sits.other (Z0.out) (by omega) _) (by omega) _)); clear q0 q1 q2 q3 q4 q5 q6 q7 q8 q9 p0 p1 p2 p3 p4 p5 p6 p7 p8 p9 fs fz; obtain ⟨q0, q1, q2, q3, q4, q5, q6, q7, q8, q9⟩ := rn_cells s1; have fs := s1.frozen; obtain ⟨p0, p1, p2, p3, p4, p5, p6, p7, p8, p9⟩ := rn_cells z1; have fz := z1.frozen; dsimp only [Rn.zero] at p0 p1 p2 p3 p4 p5 p6 p7 p8 p9; have lz1 := z1.lt; have S1 : Hid (Sits w1 w.heap.size (rnCells (Rn.mk r.mss r.cw r.th r.ac (r.una + b) r.nx 0 r.rc r.inn r.cut)) 24) := s1; have Z1 : Hid (Sits w1 (w.heap.size + 1) (rnCells Rn.zero) 24) := z1; have c1 := Below.trans (Below.setCell (Below.setCell (c0) (Nat.le_refl _) _) (Nat.le_refl _) _) (b1.mono (Below.size (Below.setCell (Below.setCell (c0) (Nat.le_refl _) _) (Nat.le_refl _) _))); clear s1 z1 b1)
      refine bodyPost_ret (ret_rn (q := q) (t := 24) (B := w.heap.size + 1) Try.results37 rfl ?_) rfl ⟨rfl, ?_⟩
      · exact put_sits Z1.out q
      · exact put_below c1 (by omega) q

end Go.Proofs.Ytfflheebjbdnoae
