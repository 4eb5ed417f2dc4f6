/-
  WHAT A SENDER HEARS in the program: whether it counts.
-/
import Derived.Test.YtcchnhjkifdemaeRenoC
import Derived.Deep.RegionWith
import Derived.Deep.Cut
namespace Go.Proofs.Ytcchnhjkifdemae
open Go.RowKit
set_option linter.unusedVariables false

set_option maxRecDepth 20000 in
set_option maxHeartbeats 2000000 in
theorem silence_counts (r : Rn) (h : Int) (hf : r.fit) (w : World) :
    Calls Try.prog 70 #[.agg #[.int .i64 h], r.val] w fun e w' => e = .returned (.bool (decide (0 < r.fl))) ∧ Below w.heap.size w w' := by
  have HF : Hid r.fit := hf
  unfold Rn.fit at hf
  obtain ⟨f, hfe⟩ : ∃ f, r.fl = f := ⟨_, rfl⟩
  rw [hfe]
  go_enter Try.func70, Try.ntmps70
  go_wp2_with (go_at_call 28; refine (underWay_any r HF.out _).mono ?_; rintro e w1 ⟨rfl, b1⟩; rw [hfe])
  go_ret
  refine ⟨rfl, ?_⟩
  exact Below.trans (show Below w.heap.size w _ by go_grown) (b1.mono (by simp; omega))

set_option maxRecDepth 20000 in
set_option maxHeartbeats 2000000 in
theorem sameAck_counts (r : Rn) (h : Int) (hf : r.fit) (w : World) :
    Calls Try.prog 72 #[.agg #[.int .i64 h], r.val] w fun e w' => e = .returned (.bool (decide (0 < r.fl))) ∧ Below w.heap.size w w' := by
  have HF : Hid r.fit := hf
  unfold Rn.fit at hf
  obtain ⟨f, hfe⟩ : ∃ f, r.fl = f := ⟨_, rfl⟩
  rw [hfe]
  go_enter Try.func72, Try.ntmps72
  go_wp2_with (go_at_call 28; refine (underWay_any r HF.out _).mono ?_; rintro e w1 ⟨rfl, b1⟩; rw [hfe])
  go_ret
  refine ⟨rfl, ?_⟩
  exact Below.trans (show Below w.heap.size w _ by go_grown) (b1.mono (by simp; omega))

set_option maxRecDepth 20000 in
set_option maxHeartbeats 2000000 in
theorem newAck_counts (r : Rn) (h : Int) (hf : r.fit) (w : World) :
    Calls Try.prog 71 #[.agg #[.int .i64 h], r.val] w fun e w' => e = .returned (.bool (decide (0 < h))) ∧ Below w.heap.size w w' := by
  go_enter Try.func71, Try.ntmps71
  go_wp2
  go_ret
  exact ⟨rfl, by go_grown⟩

set_option maxRecDepth 20000 in
set_option maxHeartbeats 2000000 in
theorem echoed_counts (r : Rn) (h : Int) (hf : r.fit) (w : World) :
    Calls Try.prog 69 #[.agg #[.int .i64 h], r.val] w fun e w' => e = .returned (.bool (!r.inn && decide (r.cut ≤ r.una))) ∧ Below w.heap.size w w' := by
  obtain ⟨mss, cw, th, ac, una, nx, du, rc, inn, cut⟩ := r
  cases inn
  all_goals
    go_enter Try.func69, Try.ntmps69
    go_wp2
    all_goals
      go_ret
      exact ⟨rfl, by go_grown⟩

theorem assert_newAck_newAck (h : Int) (w : World) : (Instr.typeAssert (.iface 58 (.agg #[.int .i64 h])) 48 58 true).run Try.prog w = .ok (.tuple #[.agg #[.int .i64 h], .bool true]) w := by kernel_rfl

theorem assert_sameAck_newAck (h : Int) (w : World) : (Instr.typeAssert (.iface 60 (.agg #[.int .i64 h])) 48 58 true).run Try.prog w = .ok (.tuple #[.agg #[.int .i64 0], .bool false]) w := by kernel_rfl

theorem assert_sameAck_sameAck (h : Int) (w : World) : (Instr.typeAssert (.iface 60 (.agg #[.int .i64 h])) 48 60 true).run Try.prog w = .ok (.tuple #[.agg #[.int .i64 h], .bool true]) w := by kernel_rfl

theorem assert_echoed_newAck (h : Int) (w : World) : (Instr.typeAssert (.iface 51 (.agg #[.int .i64 h])) 48 58 true).run Try.prog w = .ok (.tuple #[.agg #[.int .i64 0], .bool false]) w := by kernel_rfl

theorem assert_echoed_sameAck (h : Int) (w : World) : (Instr.typeAssert (.iface 51 (.agg #[.int .i64 h])) 48 60 true).run Try.prog w = .ok (.tuple #[.agg #[.int .i64 0], .bool false]) w := by kernel_rfl

theorem assert_echoed_echoed (h : Int) (w : World) : (Instr.typeAssert (.iface 51 (.agg #[.int .i64 h])) 48 51 true).run Try.prog w = .ok (.tuple #[.agg #[.int .i64 h], .bool true]) w := by kernel_rfl

theorem assert_silence_newAck (h : Int) (w : World) : (Instr.typeAssert (.iface 53 (.agg #[.int .i64 h])) 48 58 true).run Try.prog w = .ok (.tuple #[.agg #[.int .i64 0], .bool false]) w := by kernel_rfl

theorem assert_silence_sameAck (h : Int) (w : World) : (Instr.typeAssert (.iface 53 (.agg #[.int .i64 h])) 48 60 true).run Try.prog w = .ok (.tuple #[.agg #[.int .i64 0], .bool false]) w := by kernel_rfl

theorem assert_silence_echoed (h : Int) (w : World) : (Instr.typeAssert (.iface 53 (.agg #[.int .i64 h])) 48 51 true).run Try.prog w = .ok (.tuple #[.agg #[.int .i64 0], .bool false]) w := by kernel_rfl

theorem assert_silence_silence (h : Int) (w : World) : (Instr.typeAssert (.iface 53 (.agg #[.int .i64 h])) 48 53 true).run Try.prog w = .ok (.tuple #[.agg #[.int .i64 h], .bool true]) w := by kernel_rfl

end Go.Proofs.Ytcchnhjkifdemae
