/-
  WHAT TimeOf AND BytesOf ANSWER, the program's and the specification's: bytes times 1000000000 divided by rate, cut upwards, where that, cut off, is below Most; else 0 and false.
-/
import Derived.Test.YtmjggolllijamaaWide
import Derived.Test.YtmjggolllijamaaMulDiv
namespace Go.Proofs.Ytmjggolllijamaa
open Go.RowKit
set_option linter.unusedVariables false

/-- Cut upwards. -/
def upF (n c : Int) : Int := if n % c = 0 then n / c else n / c + 1

theorem timeOf_impl_ok (b r : Int) (b1 : b ≤ 9223372036854775807) (r1 : r ≤ 9223372036854775807) (b0 : 0 ≤ b) (r0 : 1 ≤ r) (h : b * 1000000000 / r < 9223372036854775807) (w : World) :
    Calls Try.prog 65 #[.int .i64 b, .int .i64 r] w fun e w' => e = .returned (.tuple #[.int .i64 (upF (b * 1000000000) r), .bool true]) ∧ Kept w w' := by
  have q0 : 0 ≤ b * 1000000000 / r := Int.ediv_nonneg (Int.mul_nonneg b0 (by decide)) (by omega)
  have m0 := Int.emod_nonneg (b * 1000000000) (show r ≠ 0 by omega)
  by_cases hm : 0 < b * 1000000000 % r
  · have HU : Hid (b * 1000000000 / r + 1 = upF (b * 1000000000) r) := by show _ = _; unfold upF; rw [if_neg (by omega)]
    go_enter Try.func65, Try.ntmps65
    go_wp2_with (go_at_call 83; refine (ratio_ok _ _ _ (by omega) (by omega) (by omega) (by omega) (by omega) (by omega) (by omega) _).mono ?_; rintro e w' ⟨rfl, hk⟩)
    go_ret2
    exact ⟨ret_two HU.out, hk⟩
  · have HU : Hid (b * 1000000000 / r = upF (b * 1000000000) r) := by show _ = _; unfold upF; rw [if_pos (by omega)]
    go_enter Try.func65, Try.ntmps65
    go_wp2_with (go_at_call 83; refine (ratio_ok _ _ _ (by omega) (by omega) (by omega) (by omega) (by omega) (by omega) (by omega) _).mono ?_; rintro e w' ⟨rfl, hk⟩)
    go_ret2
    exact ⟨ret_two HU.out, hk⟩

theorem timeOf_impl_big (b r : Int) (b1 : b ≤ 9223372036854775807) (r1 : r ≤ 9223372036854775807) (b0 : 0 ≤ b) (r0 : 1 ≤ r) (h : ¬ b * 1000000000 / r < 9223372036854775807) (w : World) :
    Calls Try.prog 65 #[.int .i64 b, .int .i64 r] w fun e w' => e = .returned (.tuple #[.int .i64 0, .bool false]) ∧ Kept w w' := by
  by_cases hm : b * 1000000000 / r = 9223372036854775807
  · go_enter Try.func65, Try.ntmps65
    go_wp2_with (go_at_call 83; refine (ratio_ok _ _ _ (by omega) (by omega) (by omega) (by omega) (by omega) (by omega) (by omega) _).mono ?_; rintro e w' ⟨rfl, hk⟩)
    go_ret2
    exact ⟨rfl, hk⟩
  · go_enter Try.func65, Try.ntmps65
    go_wp2_with (go_at_call 83; refine (ratio_big _ _ _ (by omega) (by omega) (by omega) (by omega) (by omega) (by omega) (by omega) _).mono ?_; rintro e w' ⟨rfl, hk⟩)
    go_ret2
    exact ⟨rfl, hk⟩

theorem timeOf_impl_no (b r : Int) (h : r < 1 ∨ b < 0) (w : World) :
    Calls Try.prog 65 #[.int .i64 b, .int .i64 r] w fun e w' => e = .returned (.tuple #[.int .i64 0, .bool false]) ∧ Kept w w' := by
  have H : Hid _ := h
  clear h
  go_enter Try.func65, Try.ntmps65
  go_wp2_with (go_at_call 83; refine (ratio_no _ _ _ (by have := H.out; omega) _).mono ?_; rintro e w' ⟨rfl, hk⟩)
  go_ret2
  exact ⟨rfl, hk⟩

/-- Going back: the bytes that there is time for in the time cut off. -/
theorem back_bd (b r : Int) (b0 : 0 ≤ b) (r0 : 1 ≤ r) : 0 ≤ b * 1000000000 / r * r / 1000000000 ∧ b * 1000000000 / r * r / 1000000000 ≤ b ∧ (b * 1000000000 / r * r / 1000000000 < b ↔ ¬ b * 1000000000 % r = 0) := by
  have c := Int.mul_ediv_add_emod (b * 1000000000) r
  rw [Int.mul_comm] at c
  have m0 := Int.emod_nonneg (b * 1000000000) (show r ≠ 0 by omega)
  have q0 : 0 ≤ b * 1000000000 / r * r := Int.mul_nonneg (Int.ediv_nonneg (Int.mul_nonneg b0 (by decide)) (by omega)) (by omega)
  refine ⟨by omega, by omega, by omega⟩

theorem timeOf_spec_ok (b r : Int) (b1 : b ≤ 9223372036854775807) (r1 : r ≤ 9223372036854775807) (b0 : 0 ≤ b) (r0 : 1 ≤ r) (h : b * 1000000000 / r < 9223372036854775807) (w : World) :
    Calls Try.prog 80 #[.int .i64 b, .int .i64 r] w fun e w' => e = .returned (.tuple #[.int .i64 (upF (b * 1000000000) r), .bool true]) ∧ w' = w := by
  have q0 : 0 ≤ b * 1000000000 / r := Int.ediv_nonneg (Int.mul_nonneg b0 (by decide)) (by omega)
  obtain ⟨k0, k1, k2⟩ := back_bd b r b0 r0
  have K : Hid _ := k2
  clear k2
  have tok1 : True := trivial
  by_cases hm : b * 1000000000 / r * r / 1000000000 < b
  · have HU : Hid (b * 1000000000 / r + 1 = upF (b * 1000000000) r) := by show _ = _; unfold upF; rw [if_neg (K.out.1 hm)]
    go_enter Try.func80, Try.ntmps80
    go_wp2_with (first | (go_at_call 95; have _t := tok1; refine (mulDiv_spec b 1000000000 r (by omega) (by omega) (by omega) (by omega) (by omega) (by omega) (by omega) _).mono ?_; rintro e w' ⟨rfl, rfl⟩; clear tok1) | (go_at_call 95; refine (mulDiv_spec _ _ _ (by omega) (by omega) (by omega) (by omega) (by omega) (by omega) (by omega) _).mono ?_; rintro e w' ⟨rfl, rfl⟩))
    go_ret2
    exact ⟨ret_two HU.out, rfl⟩
  · have HU : Hid (b * 1000000000 / r = upF (b * 1000000000) r) := by show _ = _; unfold upF; rw [if_pos (Classical.byContradiction fun k => hm (K.out.2 k))]
    go_enter Try.func80, Try.ntmps80
    go_wp2_with (first | (go_at_call 95; have _t := tok1; refine (mulDiv_spec b 1000000000 r (by omega) (by omega) (by omega) (by omega) (by omega) (by omega) (by omega) _).mono ?_; rintro e w' ⟨rfl, rfl⟩; clear tok1) | (go_at_call 95; refine (mulDiv_spec _ _ _ (by omega) (by omega) (by omega) (by omega) (by omega) (by omega) (by omega) _).mono ?_; rintro e w' ⟨rfl, rfl⟩))
    go_ret2
    exact ⟨ret_two HU.out, rfl⟩

theorem timeOf_spec_big (b r : Int) (b1 : b ≤ 9223372036854775807) (r1 : r ≤ 9223372036854775807) (b0 : 0 ≤ b) (r0 : 1 ≤ r) (h : ¬ b * 1000000000 / r < 9223372036854775807) (w : World) :
    Calls Try.prog 80 #[.int .i64 b, .int .i64 r] w fun e w' => e = .returned (.tuple #[.int .i64 0, .bool false]) ∧ w' = w := by
  by_cases hm : b * 1000000000 / r = 9223372036854775807
  · go_enter Try.func80, Try.ntmps80
    go_wp2_with (go_at_call 95; refine (mulDiv_spec _ _ _ (by omega) (by omega) (by omega) (by omega) (by omega) (by omega) (by omega) _).mono ?_; rintro e w' ⟨rfl, rfl⟩)
    go_ret2
    exact ⟨rfl, rfl⟩
  · go_enter Try.func80, Try.ntmps80
    go_wp2_with (go_at_call 95; refine (mulDiv_spec_big _ _ _ (by omega) (by omega) (by omega) (by omega) (by omega) (by omega) (by omega) _).mono ?_; rintro e w' ⟨rfl, rfl⟩)
    go_ret2
    exact ⟨rfl, rfl⟩

theorem timeOf_spec_no (b r : Int) (h : r < 1 ∨ b < 0) (w : World) :
    Calls Try.prog 80 #[.int .i64 b, .int .i64 r] w fun e w' => e = .returned (.tuple #[.int .i64 0, .bool false]) ∧ w' = w := by
  rcases (show r < 1 ∨ (¬ r < 1 ∧ b < 0) by omega) with h | ⟨h, k⟩
  all_goals
    go_enter Try.func80, Try.ntmps80
    go_wp2
    go_ret2
    exact ⟨rfl, rfl⟩

end Go.Proofs.Ytmjggolllijamaa
