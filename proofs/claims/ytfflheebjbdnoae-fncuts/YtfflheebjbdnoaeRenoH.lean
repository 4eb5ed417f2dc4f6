/-
  WHAT A SENDER HEARS in the program: whether it counts.
-/
import Derived.Test.YtfflheebjbdnoaeRenoC
import Derived.Deep.RegionWith
import Derived.Deep.Cut
namespace Go.Proofs.Ytfflheebjbdnoae
open Go.RowKit
set_option linter.unusedVariables false

set_option maxRecDepth 20000 in
set_option maxHeartbeats 2000000 in
theorem silence_counts (r : Rn) (h : Int) (hf : r.fit) (w : World) :
    Calls Try.prog 78 #[.agg #[.int .i64 h], r.val] w fun e w' => e = .returned (.bool (decide (0 < r.fl))) ∧ Below w.heap.size w w' := by
  have HF : Hid r.fit := hf
  unfold Rn.fit at hf
  obtain ⟨f, hfe⟩ : ∃ f, r.fl = f := ⟨_, rfl⟩
  rw [hfe]
  go_enter Try.func78, Try.ntmps78
  go_wp2_with (go_at_call 33; refine (underWay_any r HF.out _).mono ?_; rintro e w1 ⟨rfl, b1⟩; rw [hfe])
  go_ret
  refine ⟨rfl, ?_⟩
  exact Below.trans (show Below w.heap.size w _ by go_grown) (b1.mono (by simp; omega))

set_option maxRecDepth 20000 in
set_option maxHeartbeats 2000000 in
theorem sameAck_counts (r : Rn) (h : Int) (hf : r.fit) (w : World) :
    Calls Try.prog 80 #[.agg #[.int .i64 h], r.val] w fun e w' => e = .returned (.bool (decide (0 < r.fl))) ∧ Below w.heap.size w w' := by
  have HF : Hid r.fit := hf
  unfold Rn.fit at hf
  obtain ⟨f, hfe⟩ : ∃ f, r.fl = f := ⟨_, rfl⟩
  rw [hfe]
  go_enter Try.func80, Try.ntmps80
  go_wp2_with (go_at_call 33; refine (underWay_any r HF.out _).mono ?_; rintro e w1 ⟨rfl, b1⟩; rw [hfe])
  go_ret
  refine ⟨rfl, ?_⟩
  exact Below.trans (show Below w.heap.size w _ by go_grown) (b1.mono (by simp; omega))

set_option maxRecDepth 20000 in
set_option maxHeartbeats 2000000 in
theorem newAck_counts (r : Rn) (h : Int) (hf : r.fit) (w : World) :
    Calls Try.prog 79 #[.agg #[.int .i64 h], r.val] w fun e w' => e = .returned (.bool (decide (0 < h))) ∧ Below w.heap.size w w' := by
  go_enter Try.func79, Try.ntmps79
  go_wp2
  go_ret
  exact ⟨rfl, by go_grown⟩

set_option maxRecDepth 20000 in
set_option maxHeartbeats 2000000 in
theorem echoed_counts (r : Rn) (h : Int) (hf : r.fit) (w : World) :
    Calls Try.prog 77 #[.agg #[.int .i64 h], r.val] w fun e w' => e = .returned (.bool (!r.inn && decide (r.cut ≤ r.una))) ∧ Below w.heap.size w w' := by
  obtain ⟨mss, cw, th, ac, una, nx, du, rc, inn, cut⟩ := r
  cases inn
  all_goals
    go_enter Try.func77, Try.ntmps77
    go_wp2
    all_goals
      go_ret
      exact ⟨rfl, by go_grown⟩

theorem assert_newAck_newAck (h : Int) (w : World) : (Instr.typeAssert (.iface 65 (.agg #[.int .i64 h])) 54 65 true).run Try.prog w = .ok (.tuple #[.agg #[.int .i64 h], .bool true]) w := by kernel_rfl

theorem assert_sameAck_newAck (h : Int) (w : World) : (Instr.typeAssert (.iface 67 (.agg #[.int .i64 h])) 54 65 true).run Try.prog w = .ok (.tuple #[.agg #[.int .i64 0], .bool false]) w := by kernel_rfl

theorem assert_sameAck_sameAck (h : Int) (w : World) : (Instr.typeAssert (.iface 67 (.agg #[.int .i64 h])) 54 67 true).run Try.prog w = .ok (.tuple #[.agg #[.int .i64 h], .bool true]) w := by kernel_rfl

theorem assert_echoed_newAck (h : Int) (w : World) : (Instr.typeAssert (.iface 57 (.agg #[.int .i64 h])) 54 65 true).run Try.prog w = .ok (.tuple #[.agg #[.int .i64 0], .bool false]) w := by kernel_rfl

theorem assert_echoed_sameAck (h : Int) (w : World) : (Instr.typeAssert (.iface 57 (.agg #[.int .i64 h])) 54 67 true).run Try.prog w = .ok (.tuple #[.agg #[.int .i64 0], .bool false]) w := by kernel_rfl

theorem assert_echoed_echoed (h : Int) (w : World) : (Instr.typeAssert (.iface 57 (.agg #[.int .i64 h])) 54 57 true).run Try.prog w = .ok (.tuple #[.agg #[.int .i64 h], .bool true]) w := by kernel_rfl

theorem assert_silence_newAck (h : Int) (w : World) : (Instr.typeAssert (.iface 59 (.agg #[.int .i64 h])) 54 65 true).run Try.prog w = .ok (.tuple #[.agg #[.int .i64 0], .bool false]) w := by kernel_rfl

theorem assert_silence_sameAck (h : Int) (w : World) : (Instr.typeAssert (.iface 59 (.agg #[.int .i64 h])) 54 67 true).run Try.prog w = .ok (.tuple #[.agg #[.int .i64 0], .bool false]) w := by kernel_rfl

theorem assert_silence_echoed (h : Int) (w : World) : (Instr.typeAssert (.iface 59 (.agg #[.int .i64 h])) 54 57 true).run Try.prog w = .ok (.tuple #[.agg #[.int .i64 0], .bool false]) w := by kernel_rfl

theorem assert_silence_silence (h : Int) (w : World) : (Instr.typeAssert (.iface 59 (.agg #[.int .i64 h])) 54 59 true).run Try.prog w = .ok (.tuple #[.agg #[.int .i64 h], .bool true]) w := by kernel_rfl

end Go.Proofs.Ytfflheebjbdnoae
