/-
  WHAT THE PROGRAM's MulDiv ANSWERS: the quotient of a product and true, where it is at most Most; else 0 and false.
-/
import Derived.Test.YtlhocfgacikdeaaRatio
namespace Go.Proofs.Ytlhocfgacikdeaa
open Go.RowKit
set_option linter.unusedVariables false

theorem mulDiv_ok (a b c : Int) (a1 : a ≤ 9223372036854775807) (b1 : b ≤ 9223372036854775807) (c1 : c ≤ 9223372036854775807) (a0 : 0 ≤ a) (b0 : 0 ≤ b) (c0 : 1 ≤ c) (h : a * b / c ≤ 9223372036854775807) (w : World) :
    Calls Try.prog 13 #[.int .i64 a, .int .i64 b, .int .i64 c] w fun e w' => e = .returned (.tuple #[.int .i64 (a * b / c), .bool true]) ∧ Kept w w' := by
  have H : Hid _ := h
  clear h
  go_enter Try.func13, Try.ntmps13
  go_wp2_with (go_at_call 31; refine (ratio_ok _ _ _ a1 b1 c1 a0 b0 c0 H.out _).mono ?_; rintro e w' ⟨rfl, hk⟩)
  go_ret2
  exact ⟨rfl, hk⟩
theorem mulDiv_big (a b c : Int) (a1 : a ≤ 9223372036854775807) (b1 : b ≤ 9223372036854775807) (c1 : c ≤ 9223372036854775807) (a0 : 0 ≤ a) (b0 : 0 ≤ b) (c0 : 1 ≤ c) (h : ¬ a * b / c ≤ 9223372036854775807) (w : World) :
    Calls Try.prog 13 #[.int .i64 a, .int .i64 b, .int .i64 c] w fun e w' => e = .returned (.tuple #[.int .i64 0, .bool false]) ∧ Kept w w' := by
  have H : Hid _ := h
  clear h
  go_enter Try.func13, Try.ntmps13
  go_wp2_with (go_at_call 31; refine (ratio_big _ _ _ a1 b1 c1 a0 b0 c0 H.out _).mono ?_; rintro e w' ⟨rfl, hk⟩)
  go_ret2
  exact ⟨rfl, hk⟩
theorem mulDiv_no (a b c : Int) (h : a < 0 ∨ b < 0 ∨ c < 1) (w : World) :
    Calls Try.prog 13 #[.int .i64 a, .int .i64 b, .int .i64 c] w fun e w' => e = .returned (.tuple #[.int .i64 0, .bool false]) ∧ Kept w w' := by
  have H : Hid _ := h
  clear h
  go_enter Try.func13, Try.ntmps13
  go_wp2_with (go_at_call 31; refine (ratio_no _ _ _ H.out _).mono ?_; rintro e w' ⟨rfl, hk⟩)
  go_ret2
  exact ⟨rfl, hk⟩

end Go.Proofs.Ytlhocfgacikdeaa
