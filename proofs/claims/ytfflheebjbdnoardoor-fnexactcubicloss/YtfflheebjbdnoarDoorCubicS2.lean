/-
  CubicGrow, CubicLoss OF THE SPECIFICATION.
-/
import Derived.Test.YtfflheebjbdnoarDoorCubicS
namespace Go.Proofs.YtfflheebjbdnoarDoor
open Go.RowKit
set_option linter.unusedVariables false

theorem below_only {w w1 w2 : World} (h : Below w.heap.size w w1) (o : Only w.heap.size w1 w2) : Below w.heap.size w w2 := h.trans ⟨o.os, o.tape, o.output, o.size, fun k hk => o.block k (Nat.lt_of_lt_of_le hk h.size) (Nat.ne_of_lt hk)⟩

set_option maxRecDepth 100000 in
set_option maxHeartbeats 4000000 in
theorem scubicGrow_any (r : Cb) (now : Int) (i0 : -9223372036854775808 ≤ now) (i1 : now ≤ 9223372036854775807) (w : World) :
    Calls Tryd.prog 5 #[r.val, .int .i64 now] w fun e w' => e = .returned (.tuple #[(r.grF now).val, .bool (r.grB now)]) ∧ Below w.heap.size w w' := by
  obtain ⟨s0, z0, c0⟩ := cboxes w r
  obtain ⟨W, hW⟩ : ∃ W, (w.alloc (.cells (cbCells r) 24)).alloc (.cells #[.int .i64 0, .int .i64 0, .int .i64 0, .int .i64 0, .int .i64 0, .bool false] 24) = W := ⟨_, rfl⟩
  rw [hW] at s0 z0 c0
  have lz := z0.lt
  have S0 : Hid (Sits W w.heap.size (cbCells r) 24) := s0
  have Z0 : Hid (Sits W (w.heap.size + 1) (cbCells Cb.zero) 24) := z0
  clear s0 z0
  cases hg : r.good
  case false =>
    have h1 : r.grB now = false := by unfold Cb.grB Cb.loB; simp [hg]
    have h2 : r.grF now = Cb.zero := by unfold Cb.grF; simp [h1]
    rw [h1, h2]
    clear h1 h2
    have HG : Hid (r.good = false) := hg
    clear hg
    go_enter Tryd.func5, Tryd.ntmps5
    go_upto_region 1 with fail
    try rw [hW]
    clear hW
    obtain ⟨q0, q1, q2, q3, q4, q5⟩ := cb_cells S0.out
    have fs := Sits.frozen S0.out
    obtain ⟨p0, p1, p2, p3, p4, p5⟩ := cb_cells Z0.out
    have fz := Sits.frozen Z0.out
    dsimp only [Cb.zero] at p0 p1 p2 p3 p4 p5
    (try dsimp only at q0 q1 q2 q3 q4 q5)
    go_wp2_with (first | (go_at_call 11; refine (scubicOk_any r _).mono ?_; rintro e w1 ⟨rfl, b1⟩; rw [HG.out]; have s1 := Sits.below (S0.out) b1 (Sits.lt (S0.out)); have z1 := Sits.below (Z0.out) b1 (Sits.lt (Z0.out)); clear q0 q1 q2 q3 q4 q5 p0 p1 p2 p3 p4 p5 fs fz; obtain ⟨q0, q1, q2, q3, q4, q5⟩ := cb_cells s1; have fs := s1.frozen; obtain ⟨p0, p1, p2, p3, p4, p5⟩ := cb_cells z1; have fz := z1.frozen; dsimp only [Cb.zero] at p0 p1 p2 p3 p4 p5; (try dsimp only at q0 q1 q2 q3 q4 q5); have lz1 := z1.lt; have S1 : Hid (Sits w1 w.heap.size (cbCells r) 24) := s1; have Z1 : Hid (Sits w1 (w.heap.size + 1) (cbCells Cb.zero) 24) := z1; have c1 := Below.trans (c0) (b1.mono (Below.size (c0))); clear s1 z1 b1))
    refine bodyPost_ret (ret_cbb (q := Cb.zero) (b := false) (t := 24) (B := w.heap.size + 1) Tryd.results5 rfl rfl ?_) rfl ⟨rfl, ?_⟩
    · exact putCb_sits (Z1.out) Cb.zero
    · exact putCb_below (c1) (by omega) Cb.zero
  case true =>
  have HG : Hid (r.good = true) := hg
  obtain ⟨g1, g2, g3⟩ := r.good_iff.1 hg
  cases ht : r.timeB now
  case false =>
    have h1 : r.grB now = false := by unfold Cb.grB Cb.loB; simp [ht]
    have h2 : r.grF now = Cb.zero := by unfold Cb.grF; simp [h1]
    rw [h1, h2]
    clear h1 h2
    have HT : Hid (r.timeB now = false) := ht
    clear hg ht g3
    go_enter Tryd.func5, Tryd.ntmps5
    go_upto_region 1 with fail
    try rw [hW]
    clear hW
    obtain ⟨q0, q1, q2, q3, q4, q5⟩ := cb_cells S0.out
    have fs := Sits.frozen S0.out
    obtain ⟨p0, p1, p2, p3, p4, p5⟩ := cb_cells Z0.out
    have fz := Sits.frozen Z0.out
    dsimp only [Cb.zero] at p0 p1 p2 p3 p4 p5
    (try dsimp only at q0 q1 q2 q3 q4 q5)
    go_wp2_with (first | (go_at_call 11; refine (scubicOk_any r _).mono ?_; rintro e w1 ⟨rfl, b1⟩; rw [HG.out]; have s1 := Sits.below (S0.out) b1 (Sits.lt (S0.out)); have z1 := Sits.below (Z0.out) b1 (Sits.lt (Z0.out)); clear q0 q1 q2 q3 q4 q5 p0 p1 p2 p3 p4 p5 fs fz; obtain ⟨q0, q1, q2, q3, q4, q5⟩ := cb_cells s1; have fs := s1.frozen; obtain ⟨p0, p1, p2, p3, p4, p5⟩ := cb_cells z1; have fz := z1.frozen; dsimp only [Cb.zero] at p0 p1 p2 p3 p4 p5; (try dsimp only at q0 q1 q2 q3 q4 q5); have lz1 := z1.lt; have S1 : Hid (Sits w1 w.heap.size (cbCells r) 24) := s1; have Z1 : Hid (Sits w1 (w.heap.size + 1) (cbCells Cb.zero) 24) := z1; have c1 := Below.trans (c0) (b1.mono (Below.size (c0))); clear s1 z1 b1) | (go_at_call 12; refine (l10time_any r now i0 i1 HG.out _).mono ?_; rintro e w2 ⟨rfl, b2⟩; rw [HT.out]; have s1 := Sits.below (S1.out) b2 (Sits.lt (S1.out)); have z1 := Sits.below (Z1.out) b2 (Sits.lt (Z1.out)); clear q0 q1 q2 q3 q4 q5 p0 p1 p2 p3 p4 p5 fs fz; obtain ⟨q0, q1, q2, q3, q4, q5⟩ := cb_cells s1; have fs := s1.frozen; obtain ⟨p0, p1, p2, p3, p4, p5⟩ := cb_cells z1; have fz := z1.frozen; dsimp only [Cb.zero] at p0 p1 p2 p3 p4 p5; (try dsimp only at q0 q1 q2 q3 q4 q5); have lz2 := z1.lt; have S2 : Hid (Sits w2 w.heap.size (cbCells r) 24) := s1; have Z2 : Hid (Sits w2 (w.heap.size + 1) (cbCells Cb.zero) 24) := z1; have c2 := Below.trans (c1) (b2.mono (Below.size (c1))); clear s1 z1 b2))
    refine bodyPost_ret (ret_cbb (q := Cb.zero) (b := false) (t := 24) (B := w.heap.size + 1) Tryd.results5 rfl rfl ?_) rfl ⟨rfl, ?_⟩
    · exact putCb_sits (Z2.out) Cb.zero
    · exact putCb_below (c2) (by omega) Cb.zero
  case true =>
  have HT : Hid (r.timeB now = true) := ht
  by_cases hw : r.wn < 1048576
  case neg =>
    have h1 : r.grB now = false := by unfold Cb.grB Cb.loB; simp; omega
    have h2 : r.grF now = Cb.zero := by unfold Cb.grF; simp [h1]
    rw [h1, h2]
    clear h1 h2
    have hw2 : 1048576 ≤ r.wn := by omega
    clear hg ht g3 hw
    go_enter Tryd.func5, Tryd.ntmps5
    go_upto_region 1 with fail
    try rw [hW]
    clear hW
    obtain ⟨q0, q1, q2, q3, q4, q5⟩ := cb_cells S0.out
    have fs := Sits.frozen S0.out
    obtain ⟨p0, p1, p2, p3, p4, p5⟩ := cb_cells Z0.out
    have fz := Sits.frozen Z0.out
    dsimp only [Cb.zero] at p0 p1 p2 p3 p4 p5
    (try dsimp only at q0 q1 q2 q3 q4 q5)
    go_wp2_with (first | (go_at_call 11; refine (scubicOk_any r _).mono ?_; rintro e w1 ⟨rfl, b1⟩; rw [HG.out]; have s1 := Sits.below (S0.out) b1 (Sits.lt (S0.out)); have z1 := Sits.below (Z0.out) b1 (Sits.lt (Z0.out)); clear q0 q1 q2 q3 q4 q5 p0 p1 p2 p3 p4 p5 fs fz; obtain ⟨q0, q1, q2, q3, q4, q5⟩ := cb_cells s1; have fs := s1.frozen; obtain ⟨p0, p1, p2, p3, p4, p5⟩ := cb_cells z1; have fz := z1.frozen; dsimp only [Cb.zero] at p0 p1 p2 p3 p4 p5; (try dsimp only at q0 q1 q2 q3 q4 q5); have lz1 := z1.lt; have S1 : Hid (Sits w1 w.heap.size (cbCells r) 24) := s1; have Z1 : Hid (Sits w1 (w.heap.size + 1) (cbCells Cb.zero) 24) := z1; have c1 := Below.trans (c0) (b1.mono (Below.size (c0))); clear s1 z1 b1) | (go_at_call 12; refine (l10time_any r now i0 i1 HG.out _).mono ?_; rintro e w2 ⟨rfl, b2⟩; rw [HT.out]; have s1 := Sits.below (S1.out) b2 (Sits.lt (S1.out)); have z1 := Sits.below (Z1.out) b2 (Sits.lt (Z1.out)); clear q0 q1 q2 q3 q4 q5 p0 p1 p2 p3 p4 p5 fs fz; obtain ⟨q0, q1, q2, q3, q4, q5⟩ := cb_cells s1; have fs := s1.frozen; obtain ⟨p0, p1, p2, p3, p4, p5⟩ := cb_cells z1; have fz := z1.frozen; dsimp only [Cb.zero] at p0 p1 p2 p3 p4 p5; (try dsimp only at q0 q1 q2 q3 q4 q5); have lz2 := z1.lt; have S2 : Hid (Sits w2 w.heap.size (cbCells r) 24) := s1; have Z2 : Hid (Sits w2 (w.heap.size + 1) (cbCells Cb.zero) 24) := z1; have c2 := Below.trans (c1) (b2.mono (Below.size (c1))); clear s1 z1 b2))
    refine bodyPost_ret (ret_cbb (q := Cb.zero) (b := false) (t := 24) (B := w.heap.size + 1) Tryd.results5 rfl rfl ?_) rfl ⟨rfl, ?_⟩
    · exact putCb_sits (Z2.out) Cb.zero
    · exact putCb_below (c2) (by omega) Cb.zero
  case pos =>
  have HW : Hid (r.wn < 1048576) := hw
  have h1 : r.grB now = true := by unfold Cb.grB Cb.loB; simp [hg, ht, hw]
  have h2 : r.grF now = r.grw now := by unfold Cb.grF; simp [h1]
  rw [h1, h2]
  obtain ⟨q, hq⟩ : ∃ q, r.grw now = q := ⟨_, rfl⟩
  rw [hq]
  clear h1 h2 hg ht g3
  go_enter Tryd.func5, Tryd.ntmps5
  go_upto_region 1 with fail
  try rw [hW]
  clear hW
  obtain ⟨q0, q1, q2, q3, q4, q5⟩ := cb_cells S0.out
  have fs := Sits.frozen S0.out
  obtain ⟨p0, p1, p2, p3, p4, p5⟩ := cb_cells Z0.out
  have fz := Sits.frozen Z0.out
  dsimp only [Cb.zero] at p0 p1 p2 p3 p4 p5
  (try dsimp only at q0 q1 q2 q3 q4 q5)
  go_wp2_with (first | (go_at_call 11; refine (scubicOk_any r _).mono ?_; rintro e w1 ⟨rfl, b1⟩; rw [HG.out]; have s1 := Sits.below (S0.out) b1 (Sits.lt (S0.out)); have z1 := Sits.below (Z0.out) b1 (Sits.lt (Z0.out)); clear q0 q1 q2 q3 q4 q5 p0 p1 p2 p3 p4 p5 fs fz; obtain ⟨q0, q1, q2, q3, q4, q5⟩ := cb_cells s1; have fs := s1.frozen; obtain ⟨p0, p1, p2, p3, p4, p5⟩ := cb_cells z1; have fz := z1.frozen; dsimp only [Cb.zero] at p0 p1 p2 p3 p4 p5; (try dsimp only at q0 q1 q2 q3 q4 q5); have lz1 := z1.lt; have S1 : Hid (Sits w1 w.heap.size (cbCells r) 24) := s1; have Z1 : Hid (Sits w1 (w.heap.size + 1) (cbCells Cb.zero) 24) := z1; have c1 := Below.trans (c0) (b1.mono (Below.size (c0))); clear s1 z1 b1) | (go_at_call 12; refine (l10time_any r now i0 i1 HG.out _).mono ?_; rintro e w2 ⟨rfl, b2⟩; rw [HT.out]; have s1 := Sits.below (S1.out) b2 (Sits.lt (S1.out)); have z1 := Sits.below (Z1.out) b2 (Sits.lt (Z1.out)); clear q0 q1 q2 q3 q4 q5 p0 p1 p2 p3 p4 p5 fs fz; obtain ⟨q0, q1, q2, q3, q4, q5⟩ := cb_cells s1; have fs := s1.frozen; obtain ⟨p0, p1, p2, p3, p4, p5⟩ := cb_cells z1; have fz := z1.frozen; dsimp only [Cb.zero] at p0 p1 p2 p3 p4 p5; (try dsimp only at q0 q1 q2 q3 q4 q5); have lz2 := z1.lt; have S2 : Hid (Sits w2 w.heap.size (cbCells r) 24) := s1; have Z2 : Hid (Sits w2 (w.heap.size + 1) (cbCells Cb.zero) 24) := z1; have c2 := Below.trans (c1) (b2.mono (Below.size (c1))); clear s1 z1 b2) | (go_at_call 13; refine (l10grow_any w.heap.size r now HG.out HT.out HW.out _ S2.out).mono ?_; rintro e w3 ⟨rfl, s3, o3⟩; rw [hq] at s3; have z3 : Sits w3 (w.heap.size + 1) (cbCells Cb.zero) 24 := (o3.block (w.heap.size + 1) lz2 (by omega)).trans Z2.out; have c3 : Below w.heap.size w w3 := below_only c2 o3; clear q0 q1 q2 q3 q4 q5 p0 p1 p2 p3 p4 p5 fs fz; obtain ⟨q0, q1, q2, q3, q4, q5⟩ := cb_cells s3; have fs := s3.frozen; obtain ⟨p0, p1, p2, p3, p4, p5⟩ := cb_cells z3; have fz := z3.frozen; dsimp only [Cb.zero] at p0 p1 p2 p3 p4 p5; have lz3 := z3.lt; have Z3 : Hid (Sits w3 (w.heap.size + 1) (cbCells Cb.zero) 24) := z3; clear s3 z3 o3))
  refine bodyPost_ret (ret_cbb (q := q) (b := true) (t := 24) (B := w.heap.size + 1) Tryd.results5 rfl rfl ?_) rfl ⟨rfl, ?_⟩
  · exact putCb_sits (Z3.out) q
  · exact putCb_below (c3) (by omega) q

set_option maxRecDepth 100000 in
set_option maxHeartbeats 4000000 in
theorem scubicLoss_any (r : Cb) (now : Int) (i0 : -9223372036854775808 ≤ now) (i1 : now ≤ 9223372036854775807) (w : World) :
    Calls Tryd.prog 9 #[r.val, .int .i64 now] w fun e w' => e = .returned (.tuple #[(r.loF now).val, .bool (r.loB now)]) ∧ Below w.heap.size w w' := by
  obtain ⟨s0, z0, c0⟩ := cboxes w r
  obtain ⟨W, hW⟩ : ∃ W, (w.alloc (.cells (cbCells r) 24)).alloc (.cells #[.int .i64 0, .int .i64 0, .int .i64 0, .int .i64 0, .int .i64 0, .bool false] 24) = W := ⟨_, rfl⟩
  rw [hW] at s0 z0 c0
  have lz := z0.lt
  have S0 : Hid (Sits W w.heap.size (cbCells r) 24) := s0
  have Z0 : Hid (Sits W (w.heap.size + 1) (cbCells Cb.zero) 24) := z0
  clear s0 z0
  cases hg : r.good
  case false =>
    have h1 : r.loB now = false := by unfold Cb.loB; simp [hg]
    have h2 : r.loF now = Cb.zero := by unfold Cb.loF; simp [h1]
    rw [h1, h2]
    clear h1 h2
    have HG : Hid (r.good = false) := hg
    clear hg
    go_enter Tryd.func9, Tryd.ntmps9
    go_upto_region 1 with fail
    try rw [hW]
    clear hW
    obtain ⟨q0, q1, q2, q3, q4, q5⟩ := cb_cells S0.out
    have fs := Sits.frozen S0.out
    obtain ⟨p0, p1, p2, p3, p4, p5⟩ := cb_cells Z0.out
    have fz := Sits.frozen Z0.out
    dsimp only [Cb.zero] at p0 p1 p2 p3 p4 p5
    (try dsimp only at q0 q1 q2 q3 q4 q5)
    go_wp2_with (first | (go_at_call 11; refine (scubicOk_any r _).mono ?_; rintro e w1 ⟨rfl, b1⟩; rw [HG.out]; have s1 := Sits.below (S0.out) b1 (Sits.lt (S0.out)); have z1 := Sits.below (Z0.out) b1 (Sits.lt (Z0.out)); clear q0 q1 q2 q3 q4 q5 p0 p1 p2 p3 p4 p5 fs fz; obtain ⟨q0, q1, q2, q3, q4, q5⟩ := cb_cells s1; have fs := s1.frozen; obtain ⟨p0, p1, p2, p3, p4, p5⟩ := cb_cells z1; have fz := z1.frozen; dsimp only [Cb.zero] at p0 p1 p2 p3 p4 p5; (try dsimp only at q0 q1 q2 q3 q4 q5); have lz1 := z1.lt; have S1 : Hid (Sits w1 w.heap.size (cbCells r) 24) := s1; have Z1 : Hid (Sits w1 (w.heap.size + 1) (cbCells Cb.zero) 24) := z1; have c1 := Below.trans (c0) (b1.mono (Below.size (c0))); clear s1 z1 b1))
    refine bodyPost_ret (ret_cbb (q := Cb.zero) (b := false) (t := 24) (B := w.heap.size + 1) Tryd.results9 rfl rfl ?_) rfl ⟨rfl, ?_⟩
    · exact putCb_sits (Z1.out) Cb.zero
    · exact putCb_below (c1) (by omega) Cb.zero
  case true =>
  have HG : Hid (r.good = true) := hg
  obtain ⟨g1, g2, g3⟩ := r.good_iff.1 hg
  cases ht : r.timeB now
  case false =>
    have h1 : r.loB now = false := by unfold Cb.loB; simp [ht]
    have h2 : r.loF now = Cb.zero := by unfold Cb.loF; simp [h1]
    rw [h1, h2]
    clear h1 h2
    have HT : Hid (r.timeB now = false) := ht
    clear hg ht g3
    go_enter Tryd.func9, Tryd.ntmps9
    go_upto_region 1 with fail
    try rw [hW]
    clear hW
    obtain ⟨q0, q1, q2, q3, q4, q5⟩ := cb_cells S0.out
    have fs := Sits.frozen S0.out
    obtain ⟨p0, p1, p2, p3, p4, p5⟩ := cb_cells Z0.out
    have fz := Sits.frozen Z0.out
    dsimp only [Cb.zero] at p0 p1 p2 p3 p4 p5
    (try dsimp only at q0 q1 q2 q3 q4 q5)
    go_wp2_with (first | (go_at_call 11; refine (scubicOk_any r _).mono ?_; rintro e w1 ⟨rfl, b1⟩; rw [HG.out]; have s1 := Sits.below (S0.out) b1 (Sits.lt (S0.out)); have z1 := Sits.below (Z0.out) b1 (Sits.lt (Z0.out)); clear q0 q1 q2 q3 q4 q5 p0 p1 p2 p3 p4 p5 fs fz; obtain ⟨q0, q1, q2, q3, q4, q5⟩ := cb_cells s1; have fs := s1.frozen; obtain ⟨p0, p1, p2, p3, p4, p5⟩ := cb_cells z1; have fz := z1.frozen; dsimp only [Cb.zero] at p0 p1 p2 p3 p4 p5; (try dsimp only at q0 q1 q2 q3 q4 q5); have lz1 := z1.lt; have S1 : Hid (Sits w1 w.heap.size (cbCells r) 24) := s1; have Z1 : Hid (Sits w1 (w.heap.size + 1) (cbCells Cb.zero) 24) := z1; have c1 := Below.trans (c0) (b1.mono (Below.size (c0))); clear s1 z1 b1) | (go_at_call 12; refine (l10time_any r now i0 i1 HG.out _).mono ?_; rintro e w2 ⟨rfl, b2⟩; rw [HT.out]; have s1 := Sits.below (S1.out) b2 (Sits.lt (S1.out)); have z1 := Sits.below (Z1.out) b2 (Sits.lt (Z1.out)); clear q0 q1 q2 q3 q4 q5 p0 p1 p2 p3 p4 p5 fs fz; obtain ⟨q0, q1, q2, q3, q4, q5⟩ := cb_cells s1; have fs := s1.frozen; obtain ⟨p0, p1, p2, p3, p4, p5⟩ := cb_cells z1; have fz := z1.frozen; dsimp only [Cb.zero] at p0 p1 p2 p3 p4 p5; (try dsimp only at q0 q1 q2 q3 q4 q5); have lz2 := z1.lt; have S2 : Hid (Sits w2 w.heap.size (cbCells r) 24) := s1; have Z2 : Hid (Sits w2 (w.heap.size + 1) (cbCells Cb.zero) 24) := z1; have c2 := Below.trans (c1) (b2.mono (Below.size (c1))); clear s1 z1 b2))
    refine bodyPost_ret (ret_cbb (q := Cb.zero) (b := false) (t := 24) (B := w.heap.size + 1) Tryd.results9 rfl rfl ?_) rfl ⟨rfl, ?_⟩
    · exact putCb_sits (Z2.out) Cb.zero
    · exact putCb_below (c2) (by omega) Cb.zero
  case true =>
  have HT : Hid (r.timeB now = true) := ht
  have h1 : r.loB now = true := by unfold Cb.loB; simp [hg, ht]
  have h2 : r.loF now = r.los now := by unfold Cb.loF; simp [h1]
  rw [h1, h2]
  obtain ⟨q, hq⟩ : ∃ q, r.los now = q := ⟨_, rfl⟩
  rw [hq]
  clear h1 h2 hg ht g3
  go_enter Tryd.func9, Tryd.ntmps9
  go_upto_region 1 with fail
  try rw [hW]
  clear hW
  obtain ⟨q0, q1, q2, q3, q4, q5⟩ := cb_cells S0.out
  have fs := Sits.frozen S0.out
  obtain ⟨p0, p1, p2, p3, p4, p5⟩ := cb_cells Z0.out
  have fz := Sits.frozen Z0.out
  dsimp only [Cb.zero] at p0 p1 p2 p3 p4 p5
  (try dsimp only at q0 q1 q2 q3 q4 q5)
  go_wp2_with (first | (go_at_call 11; refine (scubicOk_any r _).mono ?_; rintro e w1 ⟨rfl, b1⟩; rw [HG.out]; have s1 := Sits.below (S0.out) b1 (Sits.lt (S0.out)); have z1 := Sits.below (Z0.out) b1 (Sits.lt (Z0.out)); clear q0 q1 q2 q3 q4 q5 p0 p1 p2 p3 p4 p5 fs fz; obtain ⟨q0, q1, q2, q3, q4, q5⟩ := cb_cells s1; have fs := s1.frozen; obtain ⟨p0, p1, p2, p3, p4, p5⟩ := cb_cells z1; have fz := z1.frozen; dsimp only [Cb.zero] at p0 p1 p2 p3 p4 p5; (try dsimp only at q0 q1 q2 q3 q4 q5); have lz1 := z1.lt; have S1 : Hid (Sits w1 w.heap.size (cbCells r) 24) := s1; have Z1 : Hid (Sits w1 (w.heap.size + 1) (cbCells Cb.zero) 24) := z1; have c1 := Below.trans (c0) (b1.mono (Below.size (c0))); clear s1 z1 b1) | (go_at_call 12; refine (l10time_any r now i0 i1 HG.out _).mono ?_; rintro e w2 ⟨rfl, b2⟩; rw [HT.out]; have s1 := Sits.below (S1.out) b2 (Sits.lt (S1.out)); have z1 := Sits.below (Z1.out) b2 (Sits.lt (Z1.out)); clear q0 q1 q2 q3 q4 q5 p0 p1 p2 p3 p4 p5 fs fz; obtain ⟨q0, q1, q2, q3, q4, q5⟩ := cb_cells s1; have fs := s1.frozen; obtain ⟨p0, p1, p2, p3, p4, p5⟩ := cb_cells z1; have fz := z1.frozen; dsimp only [Cb.zero] at p0 p1 p2 p3 p4 p5; (try dsimp only at q0 q1 q2 q3 q4 q5); have lz2 := z1.lt; have S2 : Hid (Sits w2 w.heap.size (cbCells r) 24) := s1; have Z2 : Hid (Sits w2 (w.heap.size + 1) (cbCells Cb.zero) 24) := z1; have c2 := Below.trans (c1) (b2.mono (Below.size (c1))); clear s1 z1 b2) | (go_at_call 18; refine (l10loss_any w.heap.size r now HG.out _ S2.out).mono ?_; rintro e w3 ⟨rfl, s3, o3⟩; rw [hq] at s3; have z3 : Sits w3 (w.heap.size + 1) (cbCells Cb.zero) 24 := (o3.block (w.heap.size + 1) lz2 (by omega)).trans Z2.out; have c3 : Below w.heap.size w w3 := below_only c2 o3; clear q0 q1 q2 q3 q4 q5 p0 p1 p2 p3 p4 p5 fs fz; obtain ⟨q0, q1, q2, q3, q4, q5⟩ := cb_cells s3; have fs := s3.frozen; obtain ⟨p0, p1, p2, p3, p4, p5⟩ := cb_cells z3; have fz := z3.frozen; dsimp only [Cb.zero] at p0 p1 p2 p3 p4 p5; have lz3 := z3.lt; have Z3 : Hid (Sits w3 (w.heap.size + 1) (cbCells Cb.zero) 24) := z3; clear s3 z3 o3))
  refine bodyPost_ret (ret_cbb (q := q) (b := true) (t := 24) (B := w.heap.size + 1) Tryd.results9 rfl rfl ?_) rfl ⟨rfl, ?_⟩
  · exact putCb_sits (Z3.out) q
  · exact putCb_below (c3) (by omega) q

end Go.Proofs.YtfflheebjbdnoarDoor
