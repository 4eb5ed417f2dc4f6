/-
  WHAT THE PROGRAM's ratio AND MulDiv ANSWER: the quotient of a product, however great that is, and the rest, where the quotient is at most Most; else noughts and false.
-/
import Derived.Test.YtmjggolllijamaaMul
import Derived.Test.YtmjggolllijamaaDiv64
namespace Go.Proofs.Ytmjggolllijamaa
open Go.RowKit
set_option linter.unusedVariables false

theorem div64_any (n hi lo y : Int) (hn : n = hi * 18446744073709551616 + lo) (i0 : 0 ≤ hi) (i1 : hi < y) (l0 : 0 ≤ lo) (l1 : lo ≤ 18446744073709551615) (y1 : y ≤ 18446744073709551615) (w : World) :
    Calls Try.prog 98 #[.int .u64 hi, .int .u64 lo, .int .u64 y] w fun e w' => e = .returned (.tuple #[.int .u64 (n / y), .int .u64 (n % y)]) ∧ Kept w w' := by
  by_cases h : hi = 0
  · subst h
    obtain rfl : n = lo := by omega
    exact div64_low n y l0 l1 (by omega) y1 w
  · rw [hn]
    exact div64_high hi lo y (by omega) i1 l0 l1 y1 w

theorem quo_hi (n c hi lo : Int) (c0 : 1 ≤ c) (l0 : 0 ≤ lo) (l1 : lo ≤ 18446744073709551615) (h : n = hi * 18446744073709551616 + lo) : n / c ≤ 18446744073709551615 ↔ hi < c := by
  have e : n / c ≤ 18446744073709551615 ↔ n < 18446744073709551616 * c := by
    rw [← Int.ediv_lt_iff_lt_mul (by omega)]; omega
  rw [e, h]; omega

theorem ratio_ok (a b c : Int) (a1 : a ≤ 9223372036854775807) (b1 : b ≤ 9223372036854775807) (c1 : c ≤ 9223372036854775807) (a0 : 0 ≤ a) (b0 : 0 ≤ b) (c0 : 1 ≤ c) (h : a * b / c ≤ 9223372036854775807) (w : World) :
    Calls Try.prog 83 #[.int .i64 a, .int .i64 b, .int .i64 c] w fun e w' => e = .returned (.tuple #[.int .i64 (a * b / c), .int .i64 (a * b % c), .bool true]) ∧ Kept w w' := by
  have q0 : 0 ≤ a * b / c := Int.ediv_nonneg (Int.mul_nonneg a0 b0) (by omega)
  have m0 := Int.emod_nonneg (a * b) (show c ≠ 0 by omega)
  have m1 := Int.emod_lt_of_pos (a * b) (show 0 < c by omega)
  go_enter Try.func83, Try.ntmps83
  go_wp2_with (first | (go_at_call 97; refine (mul64_any _ _ (by omega) (by omega) (by omega) (by omega) _).mono ?_; rintro e w' ⟨hi, lo, rfl, rfl, i0, i1, l0, l1, HE⟩; have hlt : hi < c := (quo_hi (a * b) c hi lo c0 l0 l1 HE.out).1 (by omega)) | (go_at_call 98; refine (div64_any (a * b) _ _ _ HE.out (by omega) (by omega) (by omega) (by omega) (by omega) _).mono ?_; rintro e w' ⟨rfl, hk⟩))
  go_ret3
  exact ⟨rfl, hk⟩

theorem ratio_big (a b c : Int) (a1 : a ≤ 9223372036854775807) (b1 : b ≤ 9223372036854775807) (c1 : c ≤ 9223372036854775807) (a0 : 0 ≤ a) (b0 : 0 ≤ b) (c0 : 1 ≤ c) (h : ¬ a * b / c ≤ 9223372036854775807) (w : World) :
    Calls Try.prog 83 #[.int .i64 a, .int .i64 b, .int .i64 c] w fun e w' => e = .returned (.tuple #[.int .i64 0, .int .i64 0, .bool false]) ∧ Kept w w' := by
  have q0 : 0 ≤ a * b / c := Int.ediv_nonneg (Int.mul_nonneg a0 b0) (by omega)
  have m0 := Int.emod_nonneg (a * b) (show c ≠ 0 by omega)
  have m1 := Int.emod_lt_of_pos (a * b) (show 0 < c by omega)
  by_cases hb : a * b / c ≤ 18446744073709551615
  · go_enter Try.func83, Try.ntmps83
    go_wp2_with (first | (go_at_call 97; refine (mul64_any _ _ (by omega) (by omega) (by omega) (by omega) _).mono ?_; rintro e w' ⟨hi, lo, rfl, rfl, i0, i1, l0, l1, HE⟩; have hlt : hi < c := (quo_hi (a * b) c hi lo c0 l0 l1 HE.out).1 (by omega)) | (go_at_call 98; refine (div64_any (a * b) _ _ _ HE.out (by omega) (by omega) (by omega) (by omega) (by omega) _).mono ?_; rintro e w' ⟨rfl, hk⟩))
    go_ret3
    exact ⟨rfl, hk⟩
  · have HB : Hid _ := hb
    go_enter Try.func83, Try.ntmps83
    go_wp2_with (first | (go_at_call 97; refine (mul64_any _ _ (by omega) (by omega) (by omega) (by omega) _).mono ?_; rintro e w' ⟨hi, lo, rfl, rfl, i0, i1, l0, l1, HE⟩; have hge : c ≤ hi := Int.not_lt.1 (fun k => HB.out ((quo_hi (a * b) c hi lo c0 l0 l1 HE.out).2 k))))
    go_ret3
    exact ⟨rfl, Kept.refl _⟩

theorem ratio_no (a b c : Int) (h : a < 0 ∨ b < 0 ∨ c < 1) (w : World) :
    Calls Try.prog 83 #[.int .i64 a, .int .i64 b, .int .i64 c] w fun e w' => e = .returned (.tuple #[.int .i64 0, .int .i64 0, .bool false]) ∧ Kept w w' := by
  rcases (show a < 0 ∨ (¬ a < 0 ∧ b < 0) ∨ (¬ a < 0 ∧ ¬ b < 0 ∧ c < 1) by omega) with h | ⟨h, k⟩ | ⟨h, k, l⟩
  all_goals
    go_enter Try.func83, Try.ntmps83
    go_wp2
    go_ret3
    exact ⟨rfl, Kept.refl _⟩

end Go.Proofs.Ytmjggolllijamaa
