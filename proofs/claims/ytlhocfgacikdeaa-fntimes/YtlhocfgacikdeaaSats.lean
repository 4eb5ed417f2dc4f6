/-
  WHAT THE SUMS OF CHAPTER 1 ANSWER: contracts of the Go functions, of the program's and of the specification's: each returns the plain number that is said, and leaves the world as it was.
-/
import Derived.Test.YtlhocfgacikdeaaBase
namespace Go.Proofs.Ytlhocfgacikdeaa
open Go.RowKit
set_option linter.unusedVariables false


def heldF (a : Int) : Int := if a < -9223372036854775807 then -9223372036854775807 else a
theorem heldF_lo {a : Int} (h : a < -9223372036854775807) : heldF a = -9223372036854775807 := by unfold heldF; omega
theorem heldF_hi {a : Int} (h : -9223372036854775807 ≤ a) : heldF a = a := by unfold heldF; omega
theorem heldF_bd {a : Int} (h : a ≤ 9223372036854775807) : -9223372036854775807 ≤ heldF a ∧ heldF a ≤ 9223372036854775807 := by unfold heldF; omega
def satAddF (a b : Int) : Int := if 9223372036854775807 < heldF a + heldF b then 9223372036854775807 else if heldF a + heldF b < -9223372036854775807 then -9223372036854775807 else heldF a + heldF b
theorem satAddF_bd (a b : Int) : -9223372036854775807 ≤ satAddF a b ∧ satAddF a b ≤ 9223372036854775807 := by unfold satAddF; omega

theorem held_any (a : Int) (h0 : -9223372036854775808 ≤ a) (h1 : a ≤ 9223372036854775807) (w : World) :
    Calls Try.prog 28 #[.int .i64 a] w fun e w' => e = .returned (.int .i64 (heldF a)) ∧ w' = w := by
  by_cases h : a < -9223372036854775807
  · go_enter Try.func28, Try.ntmps28
    go_wp2
    go_ret
    exact ⟨ret_int (heldF_lo h).symm, rfl⟩
  · go_enter Try.func28, Try.ntmps28
    go_wp2
    go_ret
    exact ⟨ret_int (heldF_hi (by omega)).symm, rfl⟩

theorem l1in_any (a : Int) (h0 : -9223372036854775808 ≤ a) (h1 : a ≤ 9223372036854775807) (w : World) :
    Calls Try.prog 38 #[.int .i64 a] w fun e w' => e = .returned (.int .i64 (heldF a)) ∧ w' = w := by
  by_cases h : a < -9223372036854775807
  · go_enter Try.func38, Try.ntmps38
    go_wp2
    go_ret
    exact ⟨ret_int (heldF_lo h).symm, rfl⟩
  · go_enter Try.func38, Try.ntmps38
    go_wp2
    go_ret
    exact ⟨ret_int (heldF_hi (by omega)).symm, rfl⟩

theorem satAdd_impl (a b : Int) (a0 : -9223372036854775808 ≤ a) (a1 : a ≤ 9223372036854775807) (b0 : -9223372036854775808 ≤ b) (b1 : b ≤ 9223372036854775807) (w : World) :
    Calls Try.prog 9 #[.int .i64 a, .int .i64 b] w fun e w' => e = .returned (.int .i64 (satAddF a b)) ∧ w' = w := by
  have ha := heldF_bd a1
  have hb := heldF_bd b1
  have hd : (0 < heldF b ∧ 9223372036854775807 - heldF b < heldF a) ∨ (0 < heldF b ∧ ¬ 9223372036854775807 - heldF b < heldF a) ∨ (¬ 0 < heldF b ∧ heldF b < 0 ∧ heldF a < -9223372036854775807 - heldF b) ∨ (¬ 0 < heldF b ∧ heldF b < 0 ∧ ¬ heldF a < -9223372036854775807 - heldF b) ∨ (¬ 0 < heldF b ∧ ¬ heldF b < 0) := by omega
  rcases hd with ⟨c1, c2⟩ | ⟨c1, c2⟩ | ⟨c1, c2, c3⟩ | ⟨c1, c2, c3⟩ | ⟨c1, c2⟩
  all_goals
    go_enter Try.func9, Try.ntmps9
    go_wp2_with (go_at_call 28; refine (held_any _ (by assumption) (by assumption) _).mono ?_; rintro e w' ⟨rfl, rfl⟩)
    go_ret
    exact ⟨ret_int (by unfold satAddF; omega), rfl⟩

theorem satSub_impl (a b : Int) (a0 : -9223372036854775808 ≤ a) (a1 : a ≤ 9223372036854775807) (b0 : -9223372036854775808 ≤ b) (b1 : b ≤ 9223372036854775807) (w : World) :
    Calls Try.prog 11 #[.int .i64 a, .int .i64 b] w fun e w' => e = .returned (.int .i64 (satAddF a (-heldF b))) ∧ w' = w := by
  have hb := heldF_bd b1
  go_enter Try.func11, Try.ntmps11
  go_wp2_with (first | (go_at_call 28; refine (held_any _ (by omega) (by omega) _).mono ?_; rintro e w' ⟨rfl, rfl⟩) | (go_at_call 9; refine (satAdd_impl _ _ (by omega) (by omega) (by omega) (by omega) _).mono ?_; rintro e w' ⟨rfl, rfl⟩))
  go_ret
  exact ⟨rfl, rfl⟩

end Go.Proofs.Ytlhocfgacikdeaa
