/-
  WHAT A SENDER DOES THAT HEARS acks and echoes, in the program.
-/
import Derived.Test.YtfflheebjbdnoaeRenoH
import Derived.Test.YtfflheebjbdnoaeRenoD
namespace Go.Proofs.Ytfflheebjbdnoae
open Go.RowKit
set_option linter.unusedVariables false

set_option maxRecDepth 20000 in
set_option maxHeartbeats 4000000 in
theorem heard_same (r : Rn) (h : Int) (hf : r.fit) (h0 : 0 ≤ h) (h1 : h ≤ 100000000) (hc : 0 < r.fl) (w : World) :
    Calls Try.prog 29 #[r.val, .iface 67 (.agg #[.int .i64 h])] w fun e w' => e = .returned (r.rep h).val ∧ Below w.heap.size w w' := by
  have hcnt : decide (0 < r.fl) = true := by simp; omega
  obtain ⟨q, hq⟩ : ∃ q, r.rep h = q := ⟨_, rfl⟩
  rw [hq]
  have tanewAck := assert_sameAck_newAck h
  have tasameAck := assert_sameAck_sameAck h
  obtain ⟨s0, z0, c0, -⟩ := zero_boxes w r
  obtain ⟨W, hW⟩ : ∃ W, (w.alloc (.cells (rnCells r) 24)).alloc (.cells #[.int .i64 0, .int .i64 0, .int .i64 0, .int .i64 0, .int .i64 0, .int .i64 0, .int .i64 0, .int .i64 0, .bool false, .int .i64 0] 24) = W := ⟨_, rfl⟩
  rw [hW] at s0 z0 c0
  have lz := z0.lt
  have S0 : Hid (Sits W w.heap.size (rnCells r) 24) := s0
  have Z0 : Hid (Sits W (w.heap.size + 1) (rnCells Rn.zero) 24) := z0
  clear s0 z0
  go_enter Try.func29, Try.ntmps29
  go_upto_region 1 with fail
  try rw [hW]
  clear hW
  obtain ⟨q0, q1, q2, q3, q4, q5, q6, q7, q8, q9⟩ := rn_cells S0.out
  have fs := Sits.frozen S0.out
  obtain ⟨p0, p1, p2, p3, p4, p5, p6, p7, p8, p9⟩ := rn_cells Z0.out
  have fz := Sits.frozen Z0.out
  dsimp only [Rn.zero] at p0 p1 p2 p3 p4 p5 p6 p7 p8 p9
  go_wp2_with (first | (go_at_call 80; refine (sameAck_counts r h hf _).mono ?_; rintro e w1 ⟨rfl, b1⟩; rw [hcnt]; have s1 := Sits.below (S0.out) b1 (Sits.lt (S0.out)); have z1 := Sits.below (Z0.out) b1 (Sits.lt (Z0.out)); clear q0 q1 q2 q3 q4 q5 q6 q7 q8 q9 p0 p1 p2 p3 p4 p5 p6 p7 p8 p9 fs fz; obtain ⟨q0, q1, q2, q3, q4, q5, q6, q7, q8, q9⟩ := rn_cells s1; have fs := s1.frozen; obtain ⟨p0, p1, p2, p3, p4, p5, p6, p7, p8, p9⟩ := rn_cells z1; have fz := z1.frozen; dsimp only [Rn.zero] at p0 p1 p2 p3 p4 p5 p6 p7 p8 p9; have lz1 := z1.lt; have ls1 := s1.lt; have S1 : Hid (Sits w1 w.heap.size (rnCells r) 24) := s1; have Z1 : Hid (Sits w1 (w.heap.size + 1) (rnCells Rn.zero) 24) := z1; have c1 := Below.trans (c0) (b1.mono (Below.size (c0))); clear s1 z1 b1) | (go_at_call 38; refine (repeated_any r h hf h0 h1 _).mono ?_; rintro e w2 ⟨rfl, b2⟩; rw [hq]; have s1 := Sits.below (Sits.alloc S1.out _) b2 (Sits.lt (Sits.alloc S1.out _)); have z1 := Sits.below (Sits.alloc Z1.out _) b2 (Sits.lt (Sits.alloc Z1.out _)); clear q0 q1 q2 q3 q4 q5 q6 q7 q8 q9 p0 p1 p2 p3 p4 p5 p6 p7 p8 p9 fs fz; obtain ⟨q0, q1, q2, q3, q4, q5, q6, q7, q8, q9⟩ := rn_cells s1; have fs := s1.frozen; obtain ⟨p0, p1, p2, p3, p4, p5, p6, p7, p8, p9⟩ := rn_cells z1; have fz := z1.frozen; dsimp only [Rn.zero] at p0 p1 p2 p3 p4 p5 p6 p7 p8 p9; have lz1 := z1.lt; have S2 : Hid (Sits w2 w.heap.size (rnCells r) 24) := s1; have Z2 : Hid (Sits w2 (w.heap.size + 1) (rnCells Rn.zero) 24) := z1; have c2 := Below.trans (Below.alloc c1 (Below.size c1) _) (b2.mono (Below.size (Below.alloc c1 (Below.size c1) _))); clear s1 z1 b2))
  refine bodyPost_ret (ret_rn (q := q) (t := 24) (B := w.heap.size + 1) Try.results29 rfl ?_) rfl ⟨rfl, ?_⟩
  · exact put_sits Z2.out q
  · exact put_below c2 (by omega) q

set_option maxRecDepth 20000 in
set_option maxHeartbeats 4000000 in
theorem heard_same_no (r : Rn) (h : Int) (hf : r.fit) (hc : ¬ 0 < r.fl) (w : World) :
    Calls Try.prog 29 #[r.val, .iface 67 (.agg #[.int .i64 h])] w fun e w' => e = .returned (r).val ∧ Below w.heap.size w w' := by
  have hcnt : decide (0 < r.fl) = false := by simp; omega
  have tanewAck := assert_sameAck_newAck h
  have tasameAck := assert_sameAck_sameAck h
  obtain ⟨s0, z0, c0, -⟩ := zero_boxes w r
  obtain ⟨W, hW⟩ : ∃ W, (w.alloc (.cells (rnCells r) 24)).alloc (.cells #[.int .i64 0, .int .i64 0, .int .i64 0, .int .i64 0, .int .i64 0, .int .i64 0, .int .i64 0, .int .i64 0, .bool false, .int .i64 0] 24) = W := ⟨_, rfl⟩
  rw [hW] at s0 z0 c0
  have lz := z0.lt
  have S0 : Hid (Sits W w.heap.size (rnCells r) 24) := s0
  have Z0 : Hid (Sits W (w.heap.size + 1) (rnCells Rn.zero) 24) := z0
  clear s0 z0
  go_enter Try.func29, Try.ntmps29
  go_upto_region 1 with fail
  try rw [hW]
  clear hW
  obtain ⟨q0, q1, q2, q3, q4, q5, q6, q7, q8, q9⟩ := rn_cells S0.out
  have fs := Sits.frozen S0.out
  obtain ⟨p0, p1, p2, p3, p4, p5, p6, p7, p8, p9⟩ := rn_cells Z0.out
  have fz := Sits.frozen Z0.out
  dsimp only [Rn.zero] at p0 p1 p2 p3 p4 p5 p6 p7 p8 p9
  go_wp2_with (go_at_call 80; refine (sameAck_counts r h hf _).mono ?_; rintro e w1 ⟨rfl, b1⟩; rw [hcnt]; have s1 := Sits.below (S0.out) b1 (Sits.lt (S0.out)); have z1 := Sits.below (Z0.out) b1 (Sits.lt (Z0.out)); clear q0 q1 q2 q3 q4 q5 q6 q7 q8 q9 p0 p1 p2 p3 p4 p5 p6 p7 p8 p9 fs fz; obtain ⟨q0, q1, q2, q3, q4, q5, q6, q7, q8, q9⟩ := rn_cells s1; have fs := s1.frozen; obtain ⟨p0, p1, p2, p3, p4, p5, p6, p7, p8, p9⟩ := rn_cells z1; have fz := z1.frozen; dsimp only [Rn.zero] at p0 p1 p2 p3 p4 p5 p6 p7 p8 p9; have lz1 := z1.lt; have ls1 := s1.lt; have S1 : Hid (Sits w1 w.heap.size (rnCells r) 24) := s1; have Z1 : Hid (Sits w1 (w.heap.size + 1) (rnCells Rn.zero) 24) := z1; have c1 := Below.trans (c0) (b1.mono (Below.size (c0))); clear s1 z1 b1)
  refine bodyPost_ret (ret_rn (q := r) (t := 24) (B := w.heap.size + 1) Try.results29 rfl ?_) rfl ⟨rfl, ?_⟩
  · exact put_sits Z1.out r
  · exact put_below c1 (by omega) r

set_option maxRecDepth 20000 in
set_option maxHeartbeats 4000000 in
theorem heard_new (r : Rn) (h : Int) (hf : r.fit) (hc : 0 < h) (h1 : r.una + h ≤ r.nx) (w : World) :
    Calls Try.prog 29 #[r.val, .iface 65 (.agg #[.int .i64 h])] w fun e w' => e = .returned (r.prog h).val ∧ Below w.heap.size w w' := by
  have hcnt : decide (0 < h) = true := by simp; omega
  obtain ⟨q, hq⟩ : ∃ q, r.prog h = q := ⟨_, rfl⟩
  rw [hq]
  have tanewAck := assert_newAck_newAck h
  obtain ⟨s0, z0, c0, -⟩ := zero_boxes w r
  obtain ⟨W, hW⟩ : ∃ W, (w.alloc (.cells (rnCells r) 24)).alloc (.cells #[.int .i64 0, .int .i64 0, .int .i64 0, .int .i64 0, .int .i64 0, .int .i64 0, .int .i64 0, .int .i64 0, .bool false, .int .i64 0] 24) = W := ⟨_, rfl⟩
  rw [hW] at s0 z0 c0
  have lz := z0.lt
  have S0 : Hid (Sits W w.heap.size (rnCells r) 24) := s0
  have Z0 : Hid (Sits W (w.heap.size + 1) (rnCells Rn.zero) 24) := z0
  clear s0 z0
  go_enter Try.func29, Try.ntmps29
  go_upto_region 1 with fail
  try rw [hW]
  clear hW
  obtain ⟨q0, q1, q2, q3, q4, q5, q6, q7, q8, q9⟩ := rn_cells S0.out
  have fs := Sits.frozen S0.out
  obtain ⟨p0, p1, p2, p3, p4, p5, p6, p7, p8, p9⟩ := rn_cells Z0.out
  have fz := Sits.frozen Z0.out
  dsimp only [Rn.zero] at p0 p1 p2 p3 p4 p5 p6 p7 p8 p9
  go_wp2_with (first | (go_at_call 79; refine (newAck_counts r h hf _).mono ?_; rintro e w1 ⟨rfl, b1⟩; rw [hcnt]; have s1 := Sits.below (S0.out) b1 (Sits.lt (S0.out)); have z1 := Sits.below (Z0.out) b1 (Sits.lt (Z0.out)); clear q0 q1 q2 q3 q4 q5 q6 q7 q8 q9 p0 p1 p2 p3 p4 p5 p6 p7 p8 p9 fs fz; obtain ⟨q0, q1, q2, q3, q4, q5, q6, q7, q8, q9⟩ := rn_cells s1; have fs := s1.frozen; obtain ⟨p0, p1, p2, p3, p4, p5, p6, p7, p8, p9⟩ := rn_cells z1; have fz := z1.frozen; dsimp only [Rn.zero] at p0 p1 p2 p3 p4 p5 p6 p7 p8 p9; have lz1 := z1.lt; have ls1 := s1.lt; have S1 : Hid (Sits w1 w.heap.size (rnCells r) 24) := s1; have Z1 : Hid (Sits w1 (w.heap.size + 1) (rnCells Rn.zero) 24) := z1; have c1 := Below.trans (c0) (b1.mono (Below.size (c0))); clear s1 z1 b1) | (go_at_call 37; refine (progressed_any r h hf (by omega) h1 _).mono ?_; rintro e w2 ⟨rfl, b2⟩; rw [hq]; have s1 := Sits.below (Sits.alloc S1.out _) b2 (Sits.lt (Sits.alloc S1.out _)); have z1 := Sits.below (Sits.alloc Z1.out _) b2 (Sits.lt (Sits.alloc Z1.out _)); clear q0 q1 q2 q3 q4 q5 q6 q7 q8 q9 p0 p1 p2 p3 p4 p5 p6 p7 p8 p9 fs fz; obtain ⟨q0, q1, q2, q3, q4, q5, q6, q7, q8, q9⟩ := rn_cells s1; have fs := s1.frozen; obtain ⟨p0, p1, p2, p3, p4, p5, p6, p7, p8, p9⟩ := rn_cells z1; have fz := z1.frozen; dsimp only [Rn.zero] at p0 p1 p2 p3 p4 p5 p6 p7 p8 p9; have lz1 := z1.lt; have S2 : Hid (Sits w2 w.heap.size (rnCells r) 24) := s1; have Z2 : Hid (Sits w2 (w.heap.size + 1) (rnCells Rn.zero) 24) := z1; have c2 := Below.trans (Below.alloc c1 (Below.size c1) _) (b2.mono (Below.size (Below.alloc c1 (Below.size c1) _))); clear s1 z1 b2))
  refine bodyPost_ret (ret_rn (q := q) (t := 24) (B := w.heap.size + 1) Try.results29 rfl ?_) rfl ⟨rfl, ?_⟩
  · exact put_sits Z2.out q
  · exact put_below c2 (by omega) q

set_option maxRecDepth 20000 in
set_option maxHeartbeats 4000000 in
theorem heard_echo (r : Rn) (h : Int) (hf : r.fit) (hc : r.inn = false ∧ r.cut ≤ r.una) (w : World) :
    Calls Try.prog 29 #[r.val, .iface 57 (.agg #[.int .i64 h])] w fun e w' => e = .returned (r.slow h).val ∧ Below w.heap.size w w' := by
  have hcnt : (!r.inn && decide (r.cut ≤ r.una)) = true := by simpa using hc
  clear hc
  obtain ⟨q, hq⟩ : ∃ q, r.slow h = q := ⟨_, rfl⟩
  rw [hq]
  have tanewAck := assert_echoed_newAck h
  have tasameAck := assert_echoed_sameAck h
  have taechoed := assert_echoed_echoed h
  obtain ⟨s0, z0, c0, -⟩ := zero_boxes w r
  obtain ⟨W, hW⟩ : ∃ W, (w.alloc (.cells (rnCells r) 24)).alloc (.cells #[.int .i64 0, .int .i64 0, .int .i64 0, .int .i64 0, .int .i64 0, .int .i64 0, .int .i64 0, .int .i64 0, .bool false, .int .i64 0] 24) = W := ⟨_, rfl⟩
  rw [hW] at s0 z0 c0
  have lz := z0.lt
  have S0 : Hid (Sits W w.heap.size (rnCells r) 24) := s0
  have Z0 : Hid (Sits W (w.heap.size + 1) (rnCells Rn.zero) 24) := z0
  clear s0 z0
  go_enter Try.func29, Try.ntmps29
  go_upto_region 1 with fail
  try rw [hW]
  clear hW
  obtain ⟨q0, q1, q2, q3, q4, q5, q6, q7, q8, q9⟩ := rn_cells S0.out
  have fs := Sits.frozen S0.out
  obtain ⟨p0, p1, p2, p3, p4, p5, p6, p7, p8, p9⟩ := rn_cells Z0.out
  have fz := Sits.frozen Z0.out
  dsimp only [Rn.zero] at p0 p1 p2 p3 p4 p5 p6 p7 p8 p9
  go_wp2_with (first | (go_at_call 77; refine (echoed_counts r h hf _).mono ?_; rintro e w1 ⟨rfl, b1⟩; rw [hcnt]; have s1 := Sits.below (S0.out) b1 (Sits.lt (S0.out)); have z1 := Sits.below (Z0.out) b1 (Sits.lt (Z0.out)); clear q0 q1 q2 q3 q4 q5 q6 q7 q8 q9 p0 p1 p2 p3 p4 p5 p6 p7 p8 p9 fs fz; obtain ⟨q0, q1, q2, q3, q4, q5, q6, q7, q8, q9⟩ := rn_cells s1; have fs := s1.frozen; obtain ⟨p0, p1, p2, p3, p4, p5, p6, p7, p8, p9⟩ := rn_cells z1; have fz := z1.frozen; dsimp only [Rn.zero] at p0 p1 p2 p3 p4 p5 p6 p7 p8 p9; have lz1 := z1.lt; have ls1 := s1.lt; have S1 : Hid (Sits w1 w.heap.size (rnCells r) 24) := s1; have Z1 : Hid (Sits w1 (w.heap.size + 1) (rnCells Rn.zero) 24) := z1; have c1 := Below.trans (c0) (b1.mono (Below.size (c0))); clear s1 z1 b1) | (go_at_call 39; refine (slowed_any r h _).mono ?_; rintro e w2 ⟨rfl, b2⟩; rw [hq]; have s1 := Sits.below (Sits.alloc S1.out _) b2 (Sits.lt (Sits.alloc S1.out _)); have z1 := Sits.below (Sits.alloc Z1.out _) b2 (Sits.lt (Sits.alloc Z1.out _)); clear q0 q1 q2 q3 q4 q5 q6 q7 q8 q9 p0 p1 p2 p3 p4 p5 p6 p7 p8 p9 fs fz; obtain ⟨q0, q1, q2, q3, q4, q5, q6, q7, q8, q9⟩ := rn_cells s1; have fs := s1.frozen; obtain ⟨p0, p1, p2, p3, p4, p5, p6, p7, p8, p9⟩ := rn_cells z1; have fz := z1.frozen; dsimp only [Rn.zero] at p0 p1 p2 p3 p4 p5 p6 p7 p8 p9; have lz1 := z1.lt; have S2 : Hid (Sits w2 w.heap.size (rnCells r) 24) := s1; have Z2 : Hid (Sits w2 (w.heap.size + 1) (rnCells Rn.zero) 24) := z1; have c2 := Below.trans (Below.alloc c1 (Below.size c1) _) (b2.mono (Below.size (Below.alloc c1 (Below.size c1) _))); clear s1 z1 b2))
  refine bodyPost_ret (ret_rn (q := q) (t := 24) (B := w.heap.size + 1) Try.results29 rfl ?_) rfl ⟨rfl, ?_⟩
  · exact put_sits Z2.out q
  · exact put_below c2 (by omega) q

set_option maxRecDepth 20000 in
set_option maxHeartbeats 4000000 in
theorem heard_echo_no (r : Rn) (h : Int) (hf : r.fit) (hc : r.inn = true ∨ r.una < r.cut) (w : World) :
    Calls Try.prog 29 #[r.val, .iface 57 (.agg #[.int .i64 h])] w fun e w' => e = .returned (r).val ∧ Below w.heap.size w w' := by
  have hcnt : (!r.inn && decide (r.cut ≤ r.una)) = false := by rcases hc with hc | hc <;> simp [hc]
  clear hc
  have tanewAck := assert_echoed_newAck h
  have tasameAck := assert_echoed_sameAck h
  have taechoed := assert_echoed_echoed h
  obtain ⟨s0, z0, c0, -⟩ := zero_boxes w r
  obtain ⟨W, hW⟩ : ∃ W, (w.alloc (.cells (rnCells r) 24)).alloc (.cells #[.int .i64 0, .int .i64 0, .int .i64 0, .int .i64 0, .int .i64 0, .int .i64 0, .int .i64 0, .int .i64 0, .bool false, .int .i64 0] 24) = W := ⟨_, rfl⟩
  rw [hW] at s0 z0 c0
  have lz := z0.lt
  have S0 : Hid (Sits W w.heap.size (rnCells r) 24) := s0
  have Z0 : Hid (Sits W (w.heap.size + 1) (rnCells Rn.zero) 24) := z0
  clear s0 z0
  go_enter Try.func29, Try.ntmps29
  go_upto_region 1 with fail
  try rw [hW]
  clear hW
  obtain ⟨q0, q1, q2, q3, q4, q5, q6, q7, q8, q9⟩ := rn_cells S0.out
  have fs := Sits.frozen S0.out
  obtain ⟨p0, p1, p2, p3, p4, p5, p6, p7, p8, p9⟩ := rn_cells Z0.out
  have fz := Sits.frozen Z0.out
  dsimp only [Rn.zero] at p0 p1 p2 p3 p4 p5 p6 p7 p8 p9
  go_wp2_with (go_at_call 77; refine (echoed_counts r h hf _).mono ?_; rintro e w1 ⟨rfl, b1⟩; rw [hcnt]; have s1 := Sits.below (S0.out) b1 (Sits.lt (S0.out)); have z1 := Sits.below (Z0.out) b1 (Sits.lt (Z0.out)); clear q0 q1 q2 q3 q4 q5 q6 q7 q8 q9 p0 p1 p2 p3 p4 p5 p6 p7 p8 p9 fs fz; obtain ⟨q0, q1, q2, q3, q4, q5, q6, q7, q8, q9⟩ := rn_cells s1; have fs := s1.frozen; obtain ⟨p0, p1, p2, p3, p4, p5, p6, p7, p8, p9⟩ := rn_cells z1; have fz := z1.frozen; dsimp only [Rn.zero] at p0 p1 p2 p3 p4 p5 p6 p7 p8 p9; have lz1 := z1.lt; have ls1 := s1.lt; have S1 : Hid (Sits w1 w.heap.size (rnCells r) 24) := s1; have Z1 : Hid (Sits w1 (w.heap.size + 1) (rnCells Rn.zero) 24) := z1; have c1 := Below.trans (c0) (b1.mono (Below.size (c0))); clear s1 z1 b1)
  refine bodyPost_ret (ret_rn (q := r) (t := 24) (B := w.heap.size + 1) Try.results29 rfl ?_) rfl ⟨rfl, ?_⟩
  · exact put_sits Z1.out r
  · exact put_below c1 (by omega) r

end Go.Proofs.Ytfflheebjbdnoae
