/-
  RENO's PLAIN CHANGES in the program: widened, halved.
-/
import Derived.Test.YtfflheebjbdnoaeRenoT
namespace Go.Proofs.Ytfflheebjbdnoae
open Go.RowKit
set_option linter.unusedVariables false

set_option maxRecDepth 20000 in
set_option maxHeartbeats 2000000 in
theorem widened_any (r : Rn) (b : Int) (hf : r.fit) (b0 : 0 ≤ b) (b1 : b ≤ 1000000000000) (w : World) :
    Calls Try.prog 54 #[r.val, .int .i64 b] w fun e w' => e = .returned (r.widen b).val ∧ Below w.heap.size w w' := by
  unfold Rn.fit at hf
  obtain ⟨s0, z0, c0, -⟩ := zero_boxes w r
  obtain ⟨W, hW⟩ : ∃ W, (w.alloc (.cells (rnCells r) 24)).alloc (.cells #[.int .i64 0, .int .i64 0, .int .i64 0, .int .i64 0, .int .i64 0, .int .i64 0, .int .i64 0, .int .i64 0, .bool false, .int .i64 0] 24) = W := ⟨_, rfl⟩
  rw [hW] at s0 z0 c0
  have lz := z0.lt
  have S0 : Hid (Sits W w.heap.size (rnCells r) 24) := s0
  have Z0 : Hid (Sits W (w.heap.size + 1) (rnCells Rn.zero) 24) := z0
  clear s0 z0
  by_cases k : 100000000 < r.cw + b
  · have hv : r.widen b = (Rn.mk r.mss 100000000 r.th r.ac r.una r.nx r.du r.rc r.inn r.cut) := by unfold Rn.widen minI; simp [k]
    rw [hv]
    clear hv
    go_enter Try.func54, Try.ntmps54
    go_upto_region 1 with fail
    try rw [hW]
    clear hW
    obtain ⟨q0, q1, q2, q3, q4, q5, q6, q7, q8, q9⟩ := rn_cells S0.out
    have fs := Sits.frozen S0.out
    obtain ⟨p0, p1, p2, p3, p4, p5, p6, p7, p8, p9⟩ := rn_cells Z0.out
    have fz := Sits.frozen Z0.out
    dsimp only [Rn.zero] at p0 p1 p2 p3 p4 p5 p6 p7 p8 p9
    go_wp2
    refine bodyPost_ret (ret_rn (q := (Rn.mk r.mss 100000000 r.th r.ac r.una r.nx r.du r.rc r.inn r.cut)) (t := 24) (B := w.heap.size + 1) Try.results54 rfl ?_) rfl ⟨rfl, ?_⟩
    · exact put_sits (Sits.other Z0.out (by omega) _) (Rn.mk r.mss 100000000 r.th r.ac r.una r.nx r.du r.rc r.inn r.cut)
    · exact put_below (Below.setCell c0 (Nat.le_refl _) _) (by omega) (Rn.mk r.mss 100000000 r.th r.ac r.una r.nx r.du r.rc r.inn r.cut)
  · have hv : r.widen b = (Rn.mk r.mss (r.cw + b) r.th r.ac r.una r.nx r.du r.rc r.inn r.cut) := by unfold Rn.widen minI; simp [k]
    rw [hv]
    clear hv
    go_enter Try.func54, Try.ntmps54
    go_upto_region 1 with fail
    try rw [hW]
    clear hW
    obtain ⟨q0, q1, q2, q3, q4, q5, q6, q7, q8, q9⟩ := rn_cells S0.out
    have fs := Sits.frozen S0.out
    obtain ⟨p0, p1, p2, p3, p4, p5, p6, p7, p8, p9⟩ := rn_cells Z0.out
    have fz := Sits.frozen Z0.out
    dsimp only [Rn.zero] at p0 p1 p2 p3 p4 p5 p6 p7 p8 p9
    go_wp2
    refine bodyPost_ret (ret_rn (q := (Rn.mk r.mss (r.cw + b) r.th r.ac r.una r.nx r.du r.rc r.inn r.cut)) (t := 24) (B := w.heap.size + 1) Try.results54 rfl ?_) rfl ⟨rfl, ?_⟩
    · exact put_sits (Sits.other Z0.out (by omega) _) (Rn.mk r.mss (r.cw + b) r.th r.ac r.una r.nx r.du r.rc r.inn r.cut)
    · exact put_below (Below.setCell c0 (Nat.le_refl _) _) (by omega) (Rn.mk r.mss (r.cw + b) r.th r.ac r.una r.nx r.du r.rc r.inn r.cut)

set_option maxRecDepth 20000 in
set_option maxHeartbeats 2000000 in
theorem halved_any (r : Rn) (h : Int) (w : World) :
    Calls Try.prog 56 #[r.val, .int .i64 h] w fun e w' => e = .returned (r.halve h).val ∧ Below w.heap.size w w' := by
  obtain ⟨s0, z0, c0, -⟩ := zero_boxes w r
  obtain ⟨W, hW⟩ : ∃ W, (w.alloc (.cells (rnCells r) 24)).alloc (.cells #[.int .i64 0, .int .i64 0, .int .i64 0, .int .i64 0, .int .i64 0, .int .i64 0, .int .i64 0, .int .i64 0, .bool false, .int .i64 0] 24) = W := ⟨_, rfl⟩
  rw [hW] at s0 z0 c0
  have lz := z0.lt
  have S0 : Hid (Sits W w.heap.size (rnCells r) 24) := s0
  have Z0 : Hid (Sits W (w.heap.size + 1) (rnCells Rn.zero) 24) := z0
  clear s0 z0
  go_enter Try.func56, Try.ntmps56
  go_upto_region 1 with fail
  try rw [hW]
  clear hW
  obtain ⟨q0, q1, q2, q3, q4, q5, q6, q7, q8, q9⟩ := rn_cells S0.out
  have fs := Sits.frozen S0.out
  obtain ⟨p0, p1, p2, p3, p4, p5, p6, p7, p8, p9⟩ := rn_cells Z0.out
  have fz := Sits.frozen Z0.out
  dsimp only [Rn.zero] at p0 p1 p2 p3 p4 p5 p6 p7 p8 p9
  go_wp2
  refine bodyPost_ret (ret_rn (q := (Rn.mk r.mss h h 0 r.una r.nx r.du r.rc r.inn r.cut)) (t := 24) (B := w.heap.size + 1) Try.results56 rfl ?_) rfl ⟨rfl, ?_⟩
  · exact put_sits (Sits.other (Sits.other (Sits.other Z0.out (by omega) _) (by omega) _) (by omega) _) (Rn.mk r.mss h h 0 r.una r.nx r.du r.rc r.inn r.cut)
  · exact put_below (Below.setCell (Below.setCell (Below.setCell c0 (Nat.le_refl _) _) (Nat.le_refl _) _) (Nat.le_refl _) _) (by omega) (Rn.mk r.mss h h 0 r.una r.nx r.du r.rc r.inn r.cut)

end Go.Proofs.Ytfflheebjbdnoae
