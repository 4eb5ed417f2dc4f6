/-
  WHAT A SENDER HEARS in the program: whether it counts.
-/
import Derived.Test.YtcchnhjkifdemaqRenoC
import Derived.Deep.RegionWith
import Derived.Deep.Cut
namespace Go.Proofs.Ytcchnhjkifdemaq
open Go.RowKit
set_option linter.unusedVariables false

set_option maxRecDepth 20000 in
set_option maxHeartbeats 2000000 in
theorem silence_counts (r : Rn) (h : Int) (hf : r.fit) (w : World) :
    Calls Try.prog 60 #[.agg #[.int .i64 h], r.val] w fun e w' => e = .returned (.bool (decide (0 < r.fl))) ∧ Below w.heap.size w w' := by
  have HF : Hid r.fit := hf
  unfold Rn.fit at hf
  obtain ⟨f, hfe⟩ : ∃ f, r.fl = f := ⟨_, rfl⟩
  rw [hfe]
  go_enter Try.func60, Try.ntmps60
  go_wp2_with (go_at_call 22; refine (underWay_any r HF.out _).mono ?_; rintro e w1 ⟨rfl, b1⟩; rw [hfe])
  go_ret
  refine ⟨rfl, ?_⟩
  exact Below.trans (show Below w.heap.size w _ by go_grown) (b1.mono (by simp; omega))

set_option maxRecDepth 20000 in
set_option maxHeartbeats 2000000 in
theorem sameAck_counts (r : Rn) (h : Int) (hf : r.fit) (w : World) :
    Calls Try.prog 62 #[.agg #[.int .i64 h], r.val] w fun e w' => e = .returned (.bool (decide (0 < r.fl))) ∧ Below w.heap.size w w' := by
  have HF : Hid r.fit := hf
  unfold Rn.fit at hf
  obtain ⟨f, hfe⟩ : ∃ f, r.fl = f := ⟨_, rfl⟩
  rw [hfe]
  go_enter Try.func62, Try.ntmps62
  go_wp2_with (go_at_call 22; refine (underWay_any r HF.out _).mono ?_; rintro e w1 ⟨rfl, b1⟩; rw [hfe])
  go_ret
  refine ⟨rfl, ?_⟩
  exact Below.trans (show Below w.heap.size w _ by go_grown) (b1.mono (by simp; omega))

set_option maxRecDepth 20000 in
set_option maxHeartbeats 2000000 in
theorem newAck_counts (r : Rn) (h : Int) (hf : r.fit) (w : World) :
    Calls Try.prog 61 #[.agg #[.int .i64 h], r.val] w fun e w' => e = .returned (.bool (decide (0 < h))) ∧ Below w.heap.size w w' := by
  go_enter Try.func61, Try.ntmps61
  go_wp2
  go_ret
  exact ⟨rfl, by go_grown⟩

set_option maxRecDepth 20000 in
set_option maxHeartbeats 2000000 in
theorem echoed_counts (r : Rn) (h : Int) (hf : r.fit) (w : World) :
    Calls Try.prog 59 #[.agg #[.int .i64 h], r.val] w fun e w' => e = .returned (.bool (!r.inn && decide (r.cut ≤ r.una))) ∧ Below w.heap.size w w' := by
  obtain ⟨mss, cw, th, ac, una, nx, du, rc, inn, cut⟩ := r
  cases inn
  all_goals
    go_enter Try.func59, Try.ntmps59
    go_wp2
    all_goals
      go_ret
      exact ⟨rfl, by go_grown⟩

theorem assert_newAck_newAck (h : Int) (w : World) : (Instr.typeAssert (.iface 50 (.agg #[.int .i64 h])) 44 50 true).run Try.prog w = .ok (.tuple #[.agg #[.int .i64 h], .bool true]) w := by kernel_rfl

theorem assert_sameAck_newAck (h : Int) (w : World) : (Instr.typeAssert (.iface 52 (.agg #[.int .i64 h])) 44 50 true).run Try.prog w = .ok (.tuple #[.agg #[.int .i64 0], .bool false]) w := by kernel_rfl

theorem assert_sameAck_sameAck (h : Int) (w : World) : (Instr.typeAssert (.iface 52 (.agg #[.int .i64 h])) 44 52 true).run Try.prog w = .ok (.tuple #[.agg #[.int .i64 h], .bool true]) w := by kernel_rfl

theorem assert_echoed_newAck (h : Int) (w : World) : (Instr.typeAssert (.iface 47 (.agg #[.int .i64 h])) 44 50 true).run Try.prog w = .ok (.tuple #[.agg #[.int .i64 0], .bool false]) w := by kernel_rfl

theorem assert_echoed_sameAck (h : Int) (w : World) : (Instr.typeAssert (.iface 47 (.agg #[.int .i64 h])) 44 52 true).run Try.prog w = .ok (.tuple #[.agg #[.int .i64 0], .bool false]) w := by kernel_rfl

theorem assert_echoed_echoed (h : Int) (w : World) : (Instr.typeAssert (.iface 47 (.agg #[.int .i64 h])) 44 47 true).run Try.prog w = .ok (.tuple #[.agg #[.int .i64 h], .bool true]) w := by kernel_rfl

theorem assert_silence_newAck (h : Int) (w : World) : (Instr.typeAssert (.iface 48 (.agg #[.int .i64 h])) 44 50 true).run Try.prog w = .ok (.tuple #[.agg #[.int .i64 0], .bool false]) w := by kernel_rfl

theorem assert_silence_sameAck (h : Int) (w : World) : (Instr.typeAssert (.iface 48 (.agg #[.int .i64 h])) 44 52 true).run Try.prog w = .ok (.tuple #[.agg #[.int .i64 0], .bool false]) w := by kernel_rfl

theorem assert_silence_echoed (h : Int) (w : World) : (Instr.typeAssert (.iface 48 (.agg #[.int .i64 h])) 44 47 true).run Try.prog w = .ok (.tuple #[.agg #[.int .i64 0], .bool false]) w := by kernel_rfl

theorem assert_silence_silence (h : Int) (w : World) : (Instr.typeAssert (.iface 48 (.agg #[.int .i64 h])) 44 48 true).run Try.prog w = .ok (.tuple #[.agg #[.int .i64 h], .bool true]) w := by kernel_rfl

end Go.Proofs.Ytcchnhjkifdemaq
