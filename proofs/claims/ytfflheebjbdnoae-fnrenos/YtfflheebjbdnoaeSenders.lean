/-
  THE LAWS' senders: a window grows.
-/
import Derived.Test.YtfflheebjbdnoaeRenoL
namespace Go.Proofs.Ytfflheebjbdnoae
open Go.RowKit
set_option linter.unusedVariables false

theorem sd_new : (rnNew 100).orZero = ⟨100, 1000, 100000000, 0, 0, 0, 0, 0, false, 0⟩ ∧ (rnNew 100).good = true := ⟨by kernel_rfl, by kernel_rfl⟩
theorem sd_sent : (Rn.mk 100 1000 100000000 0 0 0 0 0 false 0).sentF 100 = ⟨100, 1000, 100000000, 0, 0, 100, 0, 0, false, 0⟩ ∧ (Rn.mk 100 1000 100000000 0 0 0 0 0 false 0).sentB 100 = true := ⟨by kernel_rfl, by kernel_rfl⟩
theorem sd_ack : (Rn.mk 100 1000 100000000 0 0 100 0 0 false 0).ackF 100 false = ⟨100, 1100, 100000000, 0, 100, 100, 0, 0, false, 0⟩ ∧ (Rn.mk 100 1000 100000000 0 0 100 0 0 false 0).ackB 100 = true := ⟨by kernel_rfl, by kernel_rfl⟩
theorem sd_fl : (if (Rn.mk 100 1000 100000000 0 0 100 0 0 false 0).good then (Rn.mk 100 1000 100000000 0 0 100 0 0 false 0).fl else 0) = 100 := by kernel_rfl

set_option maxRecDepth 100000 in
set_option maxHeartbeats 2000000 in
theorem senders_any (w : World) : Calls Try.prog 11 #[] w fun e w' => e = .returned (.bool true) ∧ Below w.heap.size w w' := by
  have B := Below.refl w.heap.size w
  go_enter Try.func11, Try.ntmps11
  go_wp2_with fail
  refine (irenoNew_any 100 (by omega) (by omega) _).mono ?_
  rintro e w1 ⟨rfl, b1⟩
  rw [sd_new.1, sd_new.2]
  replace B := B.trans (b1.mono B.size)
  clear b1
  go_wp2_with fail
  refine (isent_any ⟨100, 1000, 100000000, 0, 0, 0, 0, 0, false, 0⟩ 100 (by omega) (by omega) _).mono ?_
  rintro e w2 ⟨rfl, b2⟩
  rw [sd_sent.1, sd_sent.2]
  replace B := (B.alloc B.size (.cells (rnCells ⟨100, 1000, 100000000, 0, 0, 0, 0, 0, false, 0⟩) 24)).trans (b2.mono (by have := B.size; simp; omega))
  clear b2
  go_wp2_with fail
  obtain ⟨V2, hV2⟩ : ∃ V, w2.heap.size = V := ⟨_, rfl⟩
  obtain ⟨u2, hu2⟩ : ∃ x, w2.alloc (.cells (rnCells ⟨100, 1000, 100000000, 0, 0, 100, 0, 0, false, 0⟩) 24) = x := ⟨_, rfl⟩
  have s2 : Sits u2 V2 (rnCells ⟨100, 1000, 100000000, 0, 0, 100, 0, 0, false, 0⟩) 24 := by rw [← hu2]; exact Sits.new' hV2
  replace B : Below w.heap.size w u2 := by rw [← hu2]; exact B.alloc B.size _
  have hu2' : w2.alloc (.cells #[.int .i64 100, .int .i64 1000, .int .i64 100000000, .int .i64 0, .int .i64 0, .int .i64 100, .int .i64 0, .int .i64 0, .bool false, .int .i64 0] 24) = u2 := hu2
  rw [hu2', hV2]
  clear hu2 hu2' hV2
  refine (iacked_any ⟨100, 1000, 100000000, 0, 0, 100, 0, 0, false, 0⟩ 100 false _).mono ?_
  rintro e w3 ⟨rfl, b3⟩
  rw [sd_ack.1, sd_ack.2]
  have s3 := s2.below b3 s2.lt
  replace B := B.trans (b3.mono B.size)
  obtain ⟨q0, q1, q2, q3, q4, q5, q6, q7, q8, q9⟩ := rn_cells s3
  have l3 := s3.lt
  clear b3 s2 s3
  go_wp2_with (go_at_call 15; refine (iflight_any ⟨100, 1000, 100000000, 0, 0, 100, 0, 0, false, 0⟩ _).mono ?_; rintro e w4 ⟨rfl, b4⟩; rw [sd_fl])
  go_ret
  exact ⟨rfl, (B.alloc B.size _).trans (b4.mono (by have := B.size; simp; omega))⟩

end Go.Proofs.Ytfflheebjbdnoae
