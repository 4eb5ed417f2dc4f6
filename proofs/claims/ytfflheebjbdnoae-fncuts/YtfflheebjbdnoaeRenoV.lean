/-
  Acked OF THE SPECIFICATION.
-/
import Derived.Test.YtfflheebjbdnoaeRenoQ
namespace Go.Proofs.Ytfflheebjbdnoae
open Go.RowKit
set_option linter.unusedVariables false

/-- What the specification's Acked answers: the half is of what is under way behind the ack. -/
def Rn.ackS (r : Rn) (ack : Int) (echo : Bool) : Rn := if r.good then (if inB ack r.una r.nx then (if echo then (r.ack1 ack).ack2 (r.ack1 ack).half else r.ack1 ack) else r) else Rn.zero
def Rn.ackSB (r : Rn) (ack : Int) : Bool := r.good && inB ack r.una r.nx
theorem ackS_good {r : Rn} {ack : Int} {echo : Bool} (h : r.ackSB ack = true) : (r.ackS ack echo).good = true := by
  unfold Rn.ackSB at h
  obtain ⟨hg, hi⟩ : r.good = true ∧ inB ack r.una r.nx = true := by simpa using h
  have hb : r.una ≤ ack ∧ ack ≤ r.nx := by simpa [inB] using hi
  have h1 := ack1_good (ack := ack) hg hb.2
  obtain ⟨k1, k2⟩ := Rn.half_in h1
  unfold Rn.ackS
  rw [if_pos hg, if_pos hi]
  split
  · exact ack2_good h1 k1 k2
  · exact h1

set_option maxRecDepth 100000 in
set_option maxHeartbeats 4000000 in
theorem sacked_any (r : Rn) (ack : Int) (echo : Bool) (w : World) :
    Calls Try.prog 50 #[r.val, .int .i64 ack, .bool echo] w fun e w' => e = .returned (.tuple #[(r.ackS ack echo).val, .bool (r.ackSB ack)]) ∧ Below w.heap.size w w' := by
  obtain ⟨s0, z0, c0, -⟩ := zero_boxes w r
  obtain ⟨W, hW⟩ : ∃ W, (w.alloc (.cells (rnCells r) 24)).alloc (.cells #[.int .i64 0, .int .i64 0, .int .i64 0, .int .i64 0, .int .i64 0, .int .i64 0, .int .i64 0, .int .i64 0, .bool false, .int .i64 0] 24) = W := ⟨_, rfl⟩
  rw [hW] at s0 z0 c0
  have lz := z0.lt
  have S0 : Hid (Sits W w.heap.size (rnCells r) 24) := s0
  have Z0 : Hid (Sits W (w.heap.size + 1) (rnCells Rn.zero) 24) := z0
  clear s0 z0
  cases hg : r.good
  case false =>
    have h1 : r.ackSB ack = false := by unfold Rn.ackSB; simp [hg]
    have h2 : r.ackS ack echo = Rn.zero := by unfold Rn.ackS; simp [hg]
    rw [h1, h2]
    clear h1 h2
    go_enter Try.func50, Try.ntmps50
    go_upto_region 1 with fail
    try rw [hW]
    clear hW
    obtain ⟨q0, q1, q2, q3, q4, q5, q6, q7, q8, q9⟩ := rn_cells S0.out
    have fs := Sits.frozen S0.out
    obtain ⟨p0, p1, p2, p3, p4, p5, p6, p7, p8, p9⟩ := rn_cells Z0.out
    have fz := Sits.frozen Z0.out
    dsimp only [Rn.zero] at p0 p1 p2 p3 p4 p5 p6 p7 p8 p9
    go_wp2_with (go_at_call 10; refine (srenoOk_any r _).mono ?_; rintro e w1 ⟨rfl, b1⟩; rw [hg]; have s1 := Sits.below (S0.out) b1 (Sits.lt (S0.out)); have z1 := Sits.below (Z0.out) b1 (Sits.lt (Z0.out)); clear q0 q1 q2 q3 q4 q5 q6 q7 q8 q9 p0 p1 p2 p3 p4 p5 p6 p7 p8 p9 fs fz; obtain ⟨q0, q1, q2, q3, q4, q5, q6, q7, q8, q9⟩ := rn_cells s1; have fs := s1.frozen; obtain ⟨p0, p1, p2, p3, p4, p5, p6, p7, p8, p9⟩ := rn_cells z1; have fz := z1.frozen; dsimp only [Rn.zero] at p0 p1 p2 p3 p4 p5 p6 p7 p8 p9; have lz1 := z1.lt; have ls1 := s1.lt; have S1 : Hid (Sits w1 w.heap.size (rnCells r) 24) := s1; have Z1 : Hid (Sits w1 (w.heap.size + 1) (rnCells Rn.zero) 24) := z1; have c1 := Below.trans (c0) (b1.mono (Below.size (c0))); clear s1 z1 b1)
    refine bodyPost_ret (ret_rnb (q := Rn.zero) (b := false) (t := 24) (B := w.heap.size + 1) Try.results50 rfl rfl ?_) rfl ⟨rfl, ?_⟩
    · exact put_sits Z1.out Rn.zero
    · exact put_below c1 (by omega) Rn.zero
  case true =>
  cases hin : inB ack r.una r.nx
  case false =>
    have h1 : r.ackSB ack = false := by unfold Rn.ackSB; simp [hin]
    have h2 : r.ackS ack echo = r := by unfold Rn.ackS; simp [hg, hin]
    rw [h1, h2]
    clear h1 h2
    have hbad : ack < r.una ∨ (¬ ack < r.una ∧ r.nx < ack) := by simp [inB] at hin; omega
    rcases hbad with k1 | ⟨k1, k2⟩
    all_goals
      go_enter Try.func50, Try.ntmps50
      go_upto_region 1 with fail
      try rw [hW]
      clear hW
      obtain ⟨q0, q1, q2, q3, q4, q5, q6, q7, q8, q9⟩ := rn_cells S0.out
      have fs := Sits.frozen S0.out
      obtain ⟨p0, p1, p2, p3, p4, p5, p6, p7, p8, p9⟩ := rn_cells Z0.out
      have fz := Sits.frozen Z0.out
      dsimp only [Rn.zero] at p0 p1 p2 p3 p4 p5 p6 p7 p8 p9
      go_wp2_with (go_at_call 10; refine (srenoOk_any r _).mono ?_; rintro e w1 ⟨rfl, b1⟩; rw [hg]; have s1 := Sits.below (S0.out) b1 (Sits.lt (S0.out)); have z1 := Sits.below (Z0.out) b1 (Sits.lt (Z0.out)); clear q0 q1 q2 q3 q4 q5 q6 q7 q8 q9 p0 p1 p2 p3 p4 p5 p6 p7 p8 p9 fs fz; obtain ⟨q0, q1, q2, q3, q4, q5, q6, q7, q8, q9⟩ := rn_cells s1; have fs := s1.frozen; obtain ⟨p0, p1, p2, p3, p4, p5, p6, p7, p8, p9⟩ := rn_cells z1; have fz := z1.frozen; dsimp only [Rn.zero] at p0 p1 p2 p3 p4 p5 p6 p7 p8 p9; have lz1 := z1.lt; have ls1 := s1.lt; have S1 : Hid (Sits w1 w.heap.size (rnCells r) 24) := s1; have Z1 : Hid (Sits w1 (w.heap.size + 1) (rnCells Rn.zero) 24) := z1; have c1 := Below.trans (c0) (b1.mono (Below.size (c0))); clear s1 z1 b1)
      refine bodyPost_ret (ret_rnb (q := r) (b := false) (t := 24) (B := w.heap.size + 1) Try.results50 rfl rfl ?_) rfl ⟨rfl, ?_⟩
      · exact put_sits Z1.out r
      · exact put_below c1 (by omega) r
  case true =>
  have h1 : r.ackSB ack = true := by unfold Rn.ackSB; simp [hg, hin]
  have hb : r.una ≤ ack ∧ ack ≤ r.nx := by simpa [inB] using hin
  obtain ⟨hb1, hb2⟩ := hb
  have hgq := ack1_good (ack := ack) hg hb2
  have HG : Hid (r.good = true) := hg
  have HF : Hid r.fit := good_fit hg
  have n1 : ¬ ack < r.una := by omega
  have n2 : ¬ r.nx < ack := by omega
  have HFQ : Hid (Rn.fit (r.ack1 ack)) := good_fit hgq
  obtain ⟨qa, hqa⟩ : ∃ q, r.ack1 ack = q := ⟨_, rfl⟩
  obtain ⟨qb, hqb⟩ : ∃ q, qa.ack2 qa.half = q := ⟨_, rfl⟩
  have h2 : r.ackS ack echo = if echo then qb else qa := by unfold Rn.ackS; simp only [hg, hin, if_true, hqa, hqb]
  rw [h1, h2]
  rw [hqa] at HFQ
  have HQ2 : Hid (Rn.ack1 r ack = qa) := hqa
  clear h1 h2 hgq hin hqa
  have hpart : (r.una < ack) ∨ (¬ r.una < ack ∧ r.una < r.nx) ∨ (¬ r.una < ack ∧ ¬ r.una < r.nx) := by omega
  rcases hpart with k | ⟨k, k2⟩ | ⟨k, k2⟩
  · have hq2 : r.prog (ack - r.una) = qa := by rw [← HQ2.out]; unfold Rn.ack1; rw [if_pos k]
    clear HQ2
    cases echo
    case false =>
      go_enter Try.func50, Try.ntmps50
      go_upto_region 1 with fail
      try rw [hW]
      clear hW
      obtain ⟨q0, q1, q2, q3, q4, q5, q6, q7, q8, q9⟩ := rn_cells S0.out
      have fs := Sits.frozen S0.out
      obtain ⟨p0, p1, p2, p3, p4, p5, p6, p7, p8, p9⟩ := rn_cells Z0.out
      have fz := Sits.frozen Z0.out
      dsimp only [Rn.zero] at p0 p1 p2 p3 p4 p5 p6 p7 p8 p9
      go_wp2_with (first | (go_at_call 10; refine (srenoOk_any r _).mono ?_; rintro e w1 ⟨rfl, b1⟩; rw [hg]; have s1 := Sits.below (S0.out) b1 (Sits.lt (S0.out)); have z1 := Sits.below (Z0.out) b1 (Sits.lt (Z0.out)); clear q0 q1 q2 q3 q4 q5 q6 q7 q8 q9 p0 p1 p2 p3 p4 p5 p6 p7 p8 p9 fs fz; obtain ⟨q0, q1, q2, q3, q4, q5, q6, q7, q8, q9⟩ := rn_cells s1; have fs := s1.frozen; obtain ⟨p0, p1, p2, p3, p4, p5, p6, p7, p8, p9⟩ := rn_cells z1; have fz := z1.frozen; dsimp only [Rn.zero] at p0 p1 p2 p3 p4 p5 p6 p7 p8 p9; have lz1 := z1.lt; have ls1 := s1.lt; have S1 : Hid (Sits w1 w.heap.size (rnCells r) 24) := s1; have Z1 : Hid (Sits w1 (w.heap.size + 1) (rnCells Rn.zero) 24) := z1; have c1 := Below.trans (c0) (b1.mono (Below.size (c0))); clear s1 z1 b1) | (go_at_call 58; refine (l9ack_any w.heap.size r ack HG.out k hb2 _ S1.out).mono ?_; rintro e w2 ⟨rfl, s2, o2⟩; rw [hq2] at s2; have z2 := Sits.only Z1.out o2 (by omega); have c2 := Below.trans c1 (Only.below o2 (Nat.le_refl _) (Below.size c1)); clear q0 q1 q2 q3 q4 q5 q6 q7 q8 q9 p0 p1 p2 p3 p4 p5 p6 p7 p8 p9 fs fz; obtain ⟨q0, q1, q2, q3, q4, q5, q6, q7, q8, q9⟩ := rn_cells s2; have fs := s2.frozen; obtain ⟨p0, p1, p2, p3, p4, p5, p6, p7, p8, p9⟩ := rn_cells z2; have fz := z2.frozen; dsimp only [Rn.zero] at p0 p1 p2 p3 p4 p5 p6 p7 p8 p9; have lz2 := z2.lt; have S2 : Hid (Sits w2 w.heap.size (rnCells qa) 24) := s2; have Z2 : Hid (Sits w2 (w.heap.size + 1) (rnCells Rn.zero) 24) := z2; clear s2 z2 o2))
      refine bodyPost_ret (ret_rnb (q := qa) (b := true) (t := 24) (B := w.heap.size + 1) Try.results50 rfl rfl ?_) rfl ⟨rfl, ?_⟩
      · exact put_sits Z2.out qa
      · exact put_below c2 (by omega) qa
    case true =>
      go_enter Try.func50, Try.ntmps50
      go_upto_region 1 with fail
      try rw [hW]
      clear hW
      obtain ⟨q0, q1, q2, q3, q4, q5, q6, q7, q8, q9⟩ := rn_cells S0.out
      have fs := Sits.frozen S0.out
      obtain ⟨p0, p1, p2, p3, p4, p5, p6, p7, p8, p9⟩ := rn_cells Z0.out
      have fz := Sits.frozen Z0.out
      dsimp only [Rn.zero] at p0 p1 p2 p3 p4 p5 p6 p7 p8 p9
      go_wp2_with (first | (go_at_call 10; refine (srenoOk_any r _).mono ?_; rintro e w1 ⟨rfl, b1⟩; rw [hg]; have s1 := Sits.below (S0.out) b1 (Sits.lt (S0.out)); have z1 := Sits.below (Z0.out) b1 (Sits.lt (Z0.out)); clear q0 q1 q2 q3 q4 q5 q6 q7 q8 q9 p0 p1 p2 p3 p4 p5 p6 p7 p8 p9 fs fz; obtain ⟨q0, q1, q2, q3, q4, q5, q6, q7, q8, q9⟩ := rn_cells s1; have fs := s1.frozen; obtain ⟨p0, p1, p2, p3, p4, p5, p6, p7, p8, p9⟩ := rn_cells z1; have fz := z1.frozen; dsimp only [Rn.zero] at p0 p1 p2 p3 p4 p5 p6 p7 p8 p9; have lz1 := z1.lt; have ls1 := s1.lt; have S1 : Hid (Sits w1 w.heap.size (rnCells r) 24) := s1; have Z1 : Hid (Sits w1 (w.heap.size + 1) (rnCells Rn.zero) 24) := z1; have c1 := Below.trans (c0) (b1.mono (Below.size (c0))); clear s1 z1 b1) | (go_at_call 58; refine (l9ack_any w.heap.size r ack HG.out k hb2 _ S1.out).mono ?_; rintro e w2 ⟨rfl, s2, o2⟩; rw [hq2] at s2; have z2 := Sits.only Z1.out o2 (by omega); have c2 := Below.trans c1 (Only.below o2 (Nat.le_refl _) (Below.size c1)); clear q0 q1 q2 q3 q4 q5 q6 q7 q8 q9 p0 p1 p2 p3 p4 p5 p6 p7 p8 p9 fs fz; obtain ⟨q0, q1, q2, q3, q4, q5, q6, q7, q8, q9⟩ := rn_cells s2; have fs := s2.frozen; obtain ⟨p0, p1, p2, p3, p4, p5, p6, p7, p8, p9⟩ := rn_cells z2; have fz := z2.frozen; dsimp only [Rn.zero] at p0 p1 p2 p3 p4 p5 p6 p7 p8 p9; have lz2 := z2.lt; have S2 : Hid (Sits w2 w.heap.size (rnCells qa) 24) := s2; have Z2 : Hid (Sits w2 (w.heap.size + 1) (rnCells Rn.zero) 24) := z2; clear s2 z2 o2) | (go_at_call 60; refine (l9echo_any w.heap.size qa HFQ.out _ S2.out).mono ?_; rintro e w3 ⟨rfl, s2, o2⟩; rw [hqb] at s2; have z2 := Sits.only Z2.out o2 (by omega); have c3 := Below.trans c2 (Only.below o2 (Nat.le_refl _) (Below.size c2)); clear q0 q1 q2 q3 q4 q5 q6 q7 q8 q9 p0 p1 p2 p3 p4 p5 p6 p7 p8 p9 fs fz; obtain ⟨q0, q1, q2, q3, q4, q5, q6, q7, q8, q9⟩ := rn_cells s2; have fs := s2.frozen; obtain ⟨p0, p1, p2, p3, p4, p5, p6, p7, p8, p9⟩ := rn_cells z2; have fz := z2.frozen; dsimp only [Rn.zero] at p0 p1 p2 p3 p4 p5 p6 p7 p8 p9; have lz3 := z2.lt; have S3 : Hid (Sits w3 w.heap.size (rnCells qb) 24) := s2; have Z3 : Hid (Sits w3 (w.heap.size + 1) (rnCells Rn.zero) 24) := z2; clear s2 z2 o2))
      refine bodyPost_ret (ret_rnb (q := qb) (b := true) (t := 24) (B := w.heap.size + 1) Try.results50 rfl rfl ?_) rfl ⟨rfl, ?_⟩
      · exact put_sits Z3.out qb
      · exact put_below c3 (by omega) qb
  · have hq2 : r.rep r.half = qa := by rw [← HQ2.out]; unfold Rn.ack1 Rn.fl; rw [if_neg k, if_pos (by omega)]
    clear HQ2
    cases echo
    case false =>
      go_enter Try.func50, Try.ntmps50
      go_upto_region 1 with fail
      try rw [hW]
      clear hW
      obtain ⟨q0, q1, q2, q3, q4, q5, q6, q7, q8, q9⟩ := rn_cells S0.out
      have fs := Sits.frozen S0.out
      obtain ⟨p0, p1, p2, p3, p4, p5, p6, p7, p8, p9⟩ := rn_cells Z0.out
      have fz := Sits.frozen Z0.out
      dsimp only [Rn.zero] at p0 p1 p2 p3 p4 p5 p6 p7 p8 p9
      go_wp2_with (first | (go_at_call 10; refine (srenoOk_any r _).mono ?_; rintro e w1 ⟨rfl, b1⟩; rw [hg]; have s1 := Sits.below (S0.out) b1 (Sits.lt (S0.out)); have z1 := Sits.below (Z0.out) b1 (Sits.lt (Z0.out)); clear q0 q1 q2 q3 q4 q5 q6 q7 q8 q9 p0 p1 p2 p3 p4 p5 p6 p7 p8 p9 fs fz; obtain ⟨q0, q1, q2, q3, q4, q5, q6, q7, q8, q9⟩ := rn_cells s1; have fs := s1.frozen; obtain ⟨p0, p1, p2, p3, p4, p5, p6, p7, p8, p9⟩ := rn_cells z1; have fz := z1.frozen; dsimp only [Rn.zero] at p0 p1 p2 p3 p4 p5 p6 p7 p8 p9; have lz1 := z1.lt; have ls1 := s1.lt; have S1 : Hid (Sits w1 w.heap.size (rnCells r) 24) := s1; have Z1 : Hid (Sits w1 (w.heap.size + 1) (rnCells Rn.zero) 24) := z1; have c1 := Below.trans (c0) (b1.mono (Below.size (c0))); clear s1 z1 b1) | (go_at_call 59; refine (l9dup_any w.heap.size r HF.out (by show 0 < r.nx - r.una; omega) _ S1.out).mono ?_; rintro e w2 ⟨rfl, s2, o2⟩; rw [hq2] at s2; have z2 := Sits.only Z1.out o2 (by omega); have c2 := Below.trans c1 (Only.below o2 (Nat.le_refl _) (Below.size c1)); clear q0 q1 q2 q3 q4 q5 q6 q7 q8 q9 p0 p1 p2 p3 p4 p5 p6 p7 p8 p9 fs fz; obtain ⟨q0, q1, q2, q3, q4, q5, q6, q7, q8, q9⟩ := rn_cells s2; have fs := s2.frozen; obtain ⟨p0, p1, p2, p3, p4, p5, p6, p7, p8, p9⟩ := rn_cells z2; have fz := z2.frozen; dsimp only [Rn.zero] at p0 p1 p2 p3 p4 p5 p6 p7 p8 p9; have lz2 := z2.lt; have S2 : Hid (Sits w2 w.heap.size (rnCells qa) 24) := s2; have Z2 : Hid (Sits w2 (w.heap.size + 1) (rnCells Rn.zero) 24) := z2; clear s2 z2 o2))
      refine bodyPost_ret (ret_rnb (q := qa) (b := true) (t := 24) (B := w.heap.size + 1) Try.results50 rfl rfl ?_) rfl ⟨rfl, ?_⟩
      · exact put_sits Z2.out qa
      · exact put_below c2 (by omega) qa
    case true =>
      go_enter Try.func50, Try.ntmps50
      go_upto_region 1 with fail
      try rw [hW]
      clear hW
      obtain ⟨q0, q1, q2, q3, q4, q5, q6, q7, q8, q9⟩ := rn_cells S0.out
      have fs := Sits.frozen S0.out
      obtain ⟨p0, p1, p2, p3, p4, p5, p6, p7, p8, p9⟩ := rn_cells Z0.out
      have fz := Sits.frozen Z0.out
      dsimp only [Rn.zero] at p0 p1 p2 p3 p4 p5 p6 p7 p8 p9
      go_wp2_with (first | (go_at_call 10; refine (srenoOk_any r _).mono ?_; rintro e w1 ⟨rfl, b1⟩; rw [hg]; have s1 := Sits.below (S0.out) b1 (Sits.lt (S0.out)); have z1 := Sits.below (Z0.out) b1 (Sits.lt (Z0.out)); clear q0 q1 q2 q3 q4 q5 q6 q7 q8 q9 p0 p1 p2 p3 p4 p5 p6 p7 p8 p9 fs fz; obtain ⟨q0, q1, q2, q3, q4, q5, q6, q7, q8, q9⟩ := rn_cells s1; have fs := s1.frozen; obtain ⟨p0, p1, p2, p3, p4, p5, p6, p7, p8, p9⟩ := rn_cells z1; have fz := z1.frozen; dsimp only [Rn.zero] at p0 p1 p2 p3 p4 p5 p6 p7 p8 p9; have lz1 := z1.lt; have ls1 := s1.lt; have S1 : Hid (Sits w1 w.heap.size (rnCells r) 24) := s1; have Z1 : Hid (Sits w1 (w.heap.size + 1) (rnCells Rn.zero) 24) := z1; have c1 := Below.trans (c0) (b1.mono (Below.size (c0))); clear s1 z1 b1) | (go_at_call 59; refine (l9dup_any w.heap.size r HF.out (by show 0 < r.nx - r.una; omega) _ S1.out).mono ?_; rintro e w2 ⟨rfl, s2, o2⟩; rw [hq2] at s2; have z2 := Sits.only Z1.out o2 (by omega); have c2 := Below.trans c1 (Only.below o2 (Nat.le_refl _) (Below.size c1)); clear q0 q1 q2 q3 q4 q5 q6 q7 q8 q9 p0 p1 p2 p3 p4 p5 p6 p7 p8 p9 fs fz; obtain ⟨q0, q1, q2, q3, q4, q5, q6, q7, q8, q9⟩ := rn_cells s2; have fs := s2.frozen; obtain ⟨p0, p1, p2, p3, p4, p5, p6, p7, p8, p9⟩ := rn_cells z2; have fz := z2.frozen; dsimp only [Rn.zero] at p0 p1 p2 p3 p4 p5 p6 p7 p8 p9; have lz2 := z2.lt; have S2 : Hid (Sits w2 w.heap.size (rnCells qa) 24) := s2; have Z2 : Hid (Sits w2 (w.heap.size + 1) (rnCells Rn.zero) 24) := z2; clear s2 z2 o2) | (go_at_call 60; refine (l9echo_any w.heap.size qa HFQ.out _ S2.out).mono ?_; rintro e w3 ⟨rfl, s2, o2⟩; rw [hqb] at s2; have z2 := Sits.only Z2.out o2 (by omega); have c3 := Below.trans c2 (Only.below o2 (Nat.le_refl _) (Below.size c2)); clear q0 q1 q2 q3 q4 q5 q6 q7 q8 q9 p0 p1 p2 p3 p4 p5 p6 p7 p8 p9 fs fz; obtain ⟨q0, q1, q2, q3, q4, q5, q6, q7, q8, q9⟩ := rn_cells s2; have fs := s2.frozen; obtain ⟨p0, p1, p2, p3, p4, p5, p6, p7, p8, p9⟩ := rn_cells z2; have fz := z2.frozen; dsimp only [Rn.zero] at p0 p1 p2 p3 p4 p5 p6 p7 p8 p9; have lz3 := z2.lt; have S3 : Hid (Sits w3 w.heap.size (rnCells qb) 24) := s2; have Z3 : Hid (Sits w3 (w.heap.size + 1) (rnCells Rn.zero) 24) := z2; clear s2 z2 o2))
      refine bodyPost_ret (ret_rnb (q := qb) (b := true) (t := 24) (B := w.heap.size + 1) Try.results50 rfl rfl ?_) rfl ⟨rfl, ?_⟩
      · exact put_sits Z3.out qb
      · exact put_below c3 (by omega) qb
  · have hq2 : r = qa := by rw [← HQ2.out]; unfold Rn.ack1 Rn.fl; rw [if_neg k, if_neg (by omega)]
    clear HQ2
    subst hq2
    cases echo
    case false =>
      go_enter Try.func50, Try.ntmps50
      go_upto_region 1 with fail
      try rw [hW]
      clear hW
      obtain ⟨q0, q1, q2, q3, q4, q5, q6, q7, q8, q9⟩ := rn_cells S0.out
      have fs := Sits.frozen S0.out
      obtain ⟨p0, p1, p2, p3, p4, p5, p6, p7, p8, p9⟩ := rn_cells Z0.out
      have fz := Sits.frozen Z0.out
      dsimp only [Rn.zero] at p0 p1 p2 p3 p4 p5 p6 p7 p8 p9
      go_wp2_with (go_at_call 10; refine (srenoOk_any r _).mono ?_; rintro e w1 ⟨rfl, b1⟩; rw [hg]; have s1 := Sits.below (S0.out) b1 (Sits.lt (S0.out)); have z1 := Sits.below (Z0.out) b1 (Sits.lt (Z0.out)); clear q0 q1 q2 q3 q4 q5 q6 q7 q8 q9 p0 p1 p2 p3 p4 p5 p6 p7 p8 p9 fs fz; obtain ⟨q0, q1, q2, q3, q4, q5, q6, q7, q8, q9⟩ := rn_cells s1; have fs := s1.frozen; obtain ⟨p0, p1, p2, p3, p4, p5, p6, p7, p8, p9⟩ := rn_cells z1; have fz := z1.frozen; dsimp only [Rn.zero] at p0 p1 p2 p3 p4 p5 p6 p7 p8 p9; have lz1 := z1.lt; have ls1 := s1.lt; have S1 : Hid (Sits w1 w.heap.size (rnCells r) 24) := s1; have Z1 : Hid (Sits w1 (w.heap.size + 1) (rnCells Rn.zero) 24) := z1; have c1 := Below.trans (c0) (b1.mono (Below.size (c0))); clear s1 z1 b1)
      refine bodyPost_ret (ret_rnb (q := r) (b := true) (t := 24) (B := w.heap.size + 1) Try.results50 rfl rfl ?_) rfl ⟨rfl, ?_⟩
      · exact put_sits Z1.out r
      · exact put_below c1 (by omega) r
    case true =>
      go_enter Try.func50, Try.ntmps50
      go_upto_region 1 with fail
      try rw [hW]
      clear hW
      obtain ⟨q0, q1, q2, q3, q4, q5, q6, q7, q8, q9⟩ := rn_cells S0.out
      have fs := Sits.frozen S0.out
      obtain ⟨p0, p1, p2, p3, p4, p5, p6, p7, p8, p9⟩ := rn_cells Z0.out
      have fz := Sits.frozen Z0.out
      dsimp only [Rn.zero] at p0 p1 p2 p3 p4 p5 p6 p7 p8 p9
      go_wp2_with (first | (go_at_call 10; refine (srenoOk_any r _).mono ?_; rintro e w1 ⟨rfl, b1⟩; rw [hg]; have s1 := Sits.below (S0.out) b1 (Sits.lt (S0.out)); have z1 := Sits.below (Z0.out) b1 (Sits.lt (Z0.out)); clear q0 q1 q2 q3 q4 q5 q6 q7 q8 q9 p0 p1 p2 p3 p4 p5 p6 p7 p8 p9 fs fz; obtain ⟨q0, q1, q2, q3, q4, q5, q6, q7, q8, q9⟩ := rn_cells s1; have fs := s1.frozen; obtain ⟨p0, p1, p2, p3, p4, p5, p6, p7, p8, p9⟩ := rn_cells z1; have fz := z1.frozen; dsimp only [Rn.zero] at p0 p1 p2 p3 p4 p5 p6 p7 p8 p9; have lz1 := z1.lt; have ls1 := s1.lt; have S1 : Hid (Sits w1 w.heap.size (rnCells r) 24) := s1; have Z1 : Hid (Sits w1 (w.heap.size + 1) (rnCells Rn.zero) 24) := z1; have c1 := Below.trans (c0) (b1.mono (Below.size (c0))); clear s1 z1 b1) | (go_at_call 60; refine (l9echo_any w.heap.size r HFQ.out _ S1.out).mono ?_; rintro e w2 ⟨rfl, s2, o2⟩; rw [hqb] at s2; have z2 := Sits.only Z1.out o2 (by omega); have c2 := Below.trans c1 (Only.below o2 (Nat.le_refl _) (Below.size c1)); clear q0 q1 q2 q3 q4 q5 q6 q7 q8 q9 p0 p1 p2 p3 p4 p5 p6 p7 p8 p9 fs fz; obtain ⟨q0, q1, q2, q3, q4, q5, q6, q7, q8, q9⟩ := rn_cells s2; have fs := s2.frozen; obtain ⟨p0, p1, p2, p3, p4, p5, p6, p7, p8, p9⟩ := rn_cells z2; have fz := z2.frozen; dsimp only [Rn.zero] at p0 p1 p2 p3 p4 p5 p6 p7 p8 p9; have lz2 := z2.lt; have S2 : Hid (Sits w2 w.heap.size (rnCells qb) 24) := s2; have Z2 : Hid (Sits w2 (w.heap.size + 1) (rnCells Rn.zero) 24) := z2; clear s2 z2 o2))
      refine bodyPost_ret (ret_rnb (q := qb) (b := true) (t := 24) (B := w.heap.size + 1) Try.results50 rfl rfl ?_) rfl ⟨rfl, ?_⟩
      · exact put_sits Z2.out qb
      · exact put_below c2 (by omega) qb

end Go.Proofs.Ytfflheebjbdnoae
