/-
  WHAT Apart AND Before ANSWER, the program's and the specification's: how far it is from a to b by the shorter way round 2^32, and whether that is above 0.
-/
import Derived.Test.YtlhocfgacikdeahBase
namespace Go.Proofs.Ytlhocfgacikdeah
open Go.RowKit
set_option linter.unusedVariables false

def apartF (a b : Int) : Int := if 2147483648 ≤ (b - a) % 4294967296 then (b - a) % 4294967296 - 4294967296 else (b - a) % 4294967296
theorem apartF_bd (a b : Int) : -2147483648 ≤ apartF a b ∧ apartF a b ≤ 2147483647 := by unfold apartF; omega

theorem apart_impl (a b : Int) (a0 : -9223372036854775808 ≤ a) (a1 : a ≤ 9223372036854775807) (b0 : -9223372036854775808 ≤ b) (b1 : b ≤ 9223372036854775807) (w : World) :
    Calls Try.prog 20 #[.int .i64 a, .int .i64 b] w fun e w' => e = .returned (.int .i64 (apartF a b)) ∧ w' = w := by
  go_enter Try.func20, Try.ntmps20
  go_wp2
  go_ret
  exact ⟨ret_int (by unfold apartF; go_arith), rfl⟩

theorem apart_spec (a b : Int) (a0 : -9223372036854775808 ≤ a) (a1 : a ≤ 9223372036854775807) (b0 : -9223372036854775808 ≤ b) (b1 : b ≤ 9223372036854775807) (w : World) :
    Calls Try.prog 19 #[.int .i64 a, .int .i64 b] w fun e w' => e = .returned (.int .i64 (apartF a b)) ∧ w' = w := by
  have hm := and_32
  have hw : wrap64 (b - a) % 4294967296 = (b - a) % 4294967296 := by unfold wrap64; omega
  by_cases c : 2147483648 ≤ (b - a) % 4294967296
  · go_enter Try.func19, Try.ntmps19
    go_wp2
    go_ret
    exact ⟨ret_int (by unfold apartF; omega), rfl⟩
  · go_enter Try.func19, Try.ntmps19
    go_wp2
    go_ret
    exact ⟨ret_int (by unfold apartF; omega), rfl⟩

theorem before_impl (a b : Int) (a0 : -9223372036854775808 ≤ a) (a1 : a ≤ 9223372036854775807) (b0 : -9223372036854775808 ≤ b) (b1 : b ≤ 9223372036854775807) (w : World) :
    Calls Try.prog 18 #[.int .i64 a, .int .i64 b] w fun e w' => e = .returned (.bool (decide (0 < apartF a b))) ∧ w' = w := by
  go_enter Try.func18, Try.ntmps18
  go_wp2_with (go_at_call 20; refine (apart_impl _ _ (by omega) (by omega) (by omega) (by omega) _).mono ?_; rintro e w' ⟨rfl, rfl⟩)
  go_ret
  exact ⟨rfl, rfl⟩

theorem before_spec (a b : Int) (a0 : -9223372036854775808 ≤ a) (a1 : a ≤ 9223372036854775807) (b0 : -9223372036854775808 ≤ b) (b1 : b ≤ 9223372036854775807) (w : World) :
    Calls Try.prog 17 #[.int .i64 a, .int .i64 b] w fun e w' => e = .returned (.bool (decide (0 < apartF a b))) ∧ w' = w := by
  have hm := and_32
  have hw : wrap64 (b - a) % 4294967296 = (b - a) % 4294967296 := by unfold wrap64; omega
  have hd : (0 < (b - a) % 4294967296 ∧ decide (0 < apartF a b) = decide ((b - a) % 4294967296 < 2147483648)) ∨ (¬ 0 < (b - a) % 4294967296 ∧ decide (0 < apartF a b) = false) := by
    by_cases c : 0 < (b - a) % 4294967296
    · exact .inl ⟨c, by unfold apartF; exact decide_eq_decide.2 (by omega)⟩
    · exact .inr ⟨c, by unfold apartF; exact decide_eq_false (by omega)⟩
  rcases hd with ⟨c, d⟩ | ⟨c, d⟩
  all_goals
    have HD : Hid _ := d
    clear d
    go_enter Try.func17, Try.ntmps17
    go_wp2
    go_ret
    exact ⟨ret_bool (by rw [HD.out]; try simp), rfl⟩

end Go.Proofs.Ytlhocfgacikdeah
