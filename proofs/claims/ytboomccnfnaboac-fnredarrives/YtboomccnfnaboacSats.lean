/-
  WHAT THE SUMS OF CHAPTER 1 ANSWER: contracts of the Go functions, of the program's and of the specification's: each returns the plain number that is said, and leaves the world as it was.
-/
import Derived.Test.YtboomccnfnaboacBase
namespace Go.Proofs.Ytboomccnfnaboac
open Go.RowKit
set_option linter.unusedVariables false


def heldF (a : Int) : Int := if a < -9223372036854775807 then -9223372036854775807 else a
theorem heldF_lo {a : Int} (h : a < -9223372036854775807) : heldF a = -9223372036854775807 := by unfold heldF; omega
theorem heldF_hi {a : Int} (h : -9223372036854775807 ≤ a) : heldF a = a := by unfold heldF; omega
theorem heldF_bd {a : Int} (h : a ≤ 9223372036854775807) : -9223372036854775807 ≤ heldF a ∧ heldF a ≤ 9223372036854775807 := by unfold heldF; omega
def satAddF (a b : Int) : Int := if 9223372036854775807 < heldF a + heldF b then 9223372036854775807 else if heldF a + heldF b < -9223372036854775807 then -9223372036854775807 else heldF a + heldF b
theorem satAddF_bd (a b : Int) : -9223372036854775807 ≤ satAddF a b ∧ satAddF a b ≤ 9223372036854775807 := by unfold satAddF; omega

theorem held_any (a : Int) (h0 : -9223372036854775808 ≤ a) (h1 : a ≤ 9223372036854775807) (w : World) :
    Calls Try.prog 34 #[.int .i64 a] w fun e w' => e = .returned (.int .i64 (heldF a)) ∧ w' = w := by
  by_cases h : a < -9223372036854775807
  · go_enter Try.func34, Try.ntmps34
    go_wp2
    go_ret
    exact ⟨ret_int (heldF_lo h).symm, rfl⟩
  · go_enter Try.func34, Try.ntmps34
    go_wp2
    go_ret
    exact ⟨ret_int (heldF_hi (by omega)).symm, rfl⟩

theorem l1in_any (a : Int) (h0 : -9223372036854775808 ≤ a) (h1 : a ≤ 9223372036854775807) (w : World) :
    Calls Try.prog 39 #[.int .i64 a] w fun e w' => e = .returned (.int .i64 (heldF a)) ∧ w' = w := by
  by_cases h : a < -9223372036854775807
  · go_enter Try.func39, Try.ntmps39
    go_wp2
    go_ret
    exact ⟨ret_int (heldF_lo h).symm, rfl⟩
  · go_enter Try.func39, Try.ntmps39
    go_wp2
    go_ret
    exact ⟨ret_int (heldF_hi (by omega)).symm, rfl⟩

end Go.Proofs.Ytboomccnfnaboac
