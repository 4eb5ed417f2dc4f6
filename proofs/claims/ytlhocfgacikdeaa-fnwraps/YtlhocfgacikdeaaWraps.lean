/-
  WHAT Apart AND Before ANSWER, the program's and the specification's: how far it is from a to b by the shorter way round 2^32, and whether that is above 0.
-/
import Derived.Test.YtlhocfgacikdeaaBase
namespace Go.Proofs.Ytlhocfgacikdeaa
open Go.RowKit
set_option linter.unusedVariables false

def apartF (a b : Int) : Int := if 2147483648 ≤ (b - a) % 4294967296 then (b - a) % 4294967296 - 4294967296 else (b - a) % 4294967296
theorem apartF_bd (a b : Int) : -2147483648 ≤ apartF a b ∧ apartF a b ≤ 2147483647 := by unfold apartF; omega

theorem apart_impl (a b : Int) (a0 : -9223372036854775808 ≤ a) (a1 : a ≤ 9223372036854775807) (b0 : -9223372036854775808 ≤ b) (b1 : b ≤ 9223372036854775807) (w : World) :
    Calls Try.prog 21 #[.int .i64 a, .int .i64 b] w fun e w' => e = .returned (.int .i64 (apartF a b)) ∧ w' = w := by
  go_enter Try.func21, Try.ntmps21
  go_wp2
  go_ret
  exact ⟨ret_int (by unfold apartF; go_arith), rfl⟩

theorem before_impl (a b : Int) (a0 : -9223372036854775808 ≤ a) (a1 : a ≤ 9223372036854775807) (b0 : -9223372036854775808 ≤ b) (b1 : b ≤ 9223372036854775807) (w : World) :
    Calls Try.prog 22 #[.int .i64 a, .int .i64 b] w fun e w' => e = .returned (.bool (decide (0 < apartF a b))) ∧ w' = w := by
  go_enter Try.func22, Try.ntmps22
  go_wp2_with (go_at_call 21; refine (apart_impl _ _ (by omega) (by omega) (by omega) (by omega) _).mono ?_; rintro e w' ⟨rfl, rfl⟩)
  go_ret
  exact ⟨rfl, rfl⟩

end Go.Proofs.Ytlhocfgacikdeaa
