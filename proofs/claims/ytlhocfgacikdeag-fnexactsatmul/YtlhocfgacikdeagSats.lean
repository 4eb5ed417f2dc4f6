/-
  WHAT THE SUMS OF CHAPTER 1 ANSWER: contracts of the Go functions, of the program's and of the specification's: each returns the plain number that is said, and leaves the world as it was.
-/
import Derived.Test.YtlhocfgacikdeagRows
import Derived.WalkKit
import Derived.ProofKit
import Derived.OpenShut
import Derived.Handy
import Derived.Outline
namespace Go.Proofs.Ytlhocfgacikdeag
open Go.RowKit
set_option linter.unusedVariables false

theorem bd {a : Int} (h : (Lit.int .i64 a).wf = true) : -9223372036854775808 ≤ a ∧ a ≤ 9223372036854775807 := bounds_i64 h
theorem ret_int {k : IntKind} {a b : Int} (h : a = b) : Ending.returned (.int k a) = .returned (.int k b) := by rw [h]

def heldF (a : Int) : Int := if a < -9223372036854775807 then -9223372036854775807 else a
theorem heldF_lo {a : Int} (h : a < -9223372036854775807) : heldF a = -9223372036854775807 := by unfold heldF; omega
theorem heldF_hi {a : Int} (h : -9223372036854775807 ≤ a) : heldF a = a := by unfold heldF; omega
theorem heldF_bd {a : Int} (h : a ≤ 9223372036854775807) : -9223372036854775807 ≤ heldF a ∧ heldF a ≤ 9223372036854775807 := by unfold heldF; omega
def satAddF (a b : Int) : Int := if 9223372036854775807 < heldF a + heldF b then 9223372036854775807 else if heldF a + heldF b < -9223372036854775807 then -9223372036854775807 else heldF a + heldF b
theorem satAddF_bd (a b : Int) : -9223372036854775807 ≤ satAddF a b ∧ satAddF a b ≤ 9223372036854775807 := by unfold satAddF; omega

theorem held_any (a : Int) (h0 : -9223372036854775808 ≤ a) (h1 : a ≤ 9223372036854775807) (w : World) :
    Calls Try.prog 14 #[.int .i64 a] w fun e w' => e = .returned (.int .i64 (heldF a)) ∧ w' = w := by
  by_cases h : a < -9223372036854775807
  · go_enter Try.func14, Try.ntmps14
    go_wp2
    go_ret
    exact ⟨ret_int (heldF_lo h).symm, rfl⟩
  · go_enter Try.func14, Try.ntmps14
    go_wp2
    go_ret
    exact ⟨ret_int (heldF_hi (by omega)).symm, rfl⟩

theorem l1in_any (a : Int) (h0 : -9223372036854775808 ≤ a) (h1 : a ≤ 9223372036854775807) (w : World) :
    Calls Try.prog 12 #[.int .i64 a] w fun e w' => e = .returned (.int .i64 (heldF a)) ∧ w' = w := by
  by_cases h : a < -9223372036854775807
  · go_enter Try.func12, Try.ntmps12
    go_wp2
    go_ret
    exact ⟨ret_int (heldF_lo h).symm, rfl⟩
  · go_enter Try.func12, Try.ntmps12
    go_wp2
    go_ret
    exact ⟨ret_int (heldF_hi (by omega)).symm, rfl⟩

theorem satAdd_impl (a b : Int) (a0 : -9223372036854775808 ≤ a) (a1 : a ≤ 9223372036854775807) (b0 : -9223372036854775808 ≤ b) (b1 : b ≤ 9223372036854775807) (w : World) :
    Calls Try.prog 7 #[.int .i64 a, .int .i64 b] w fun e w' => e = .returned (.int .i64 (satAddF a b)) ∧ w' = w := by
  have ha := heldF_bd a1
  have hb := heldF_bd b1
  have hd : (0 < heldF b ∧ 9223372036854775807 - heldF b < heldF a) ∨ (0 < heldF b ∧ ¬ 9223372036854775807 - heldF b < heldF a) ∨ (¬ 0 < heldF b ∧ heldF b < 0 ∧ heldF a < -9223372036854775807 - heldF b) ∨ (¬ 0 < heldF b ∧ heldF b < 0 ∧ ¬ heldF a < -9223372036854775807 - heldF b) ∨ (¬ 0 < heldF b ∧ ¬ heldF b < 0) := by omega
  rcases hd with ⟨c1, c2⟩ | ⟨c1, c2⟩ | ⟨c1, c2, c3⟩ | ⟨c1, c2, c3⟩ | ⟨c1, c2⟩
  all_goals
    go_enter Try.func7, Try.ntmps7
    go_wp2_with (go_at_call 14; refine (held_any _ (by assumption) (by assumption) _).mono ?_; rintro e w' ⟨rfl, rfl⟩)
    go_ret
    exact ⟨ret_int (by unfold satAddF; omega), rfl⟩

theorem l1sat_any (a b : Int) (a0 : -9223372036854775807 ≤ a) (a1 : a ≤ 9223372036854775807) (b0 : -9223372036854775807 ≤ b) (b1 : b ≤ 9223372036854775807) (w : World) :
    Calls Try.prog 13 #[.int .i64 a, .int .i64 b] w fun e w' => e = .returned (.int .i64 (satAddF a b)) ∧ w' = w := by
  have ha := heldF_hi a0
  have hb := heldF_hi b0
  have hs : satAddF a b = if 9223372036854775807 < a + b then 9223372036854775807 else if a + b < -9223372036854775807 then -9223372036854775807 else a + b := by unfold satAddF; rw [ha, hb]
  clear ha hb
  have HS : Hid (satAddF a b = if 9223372036854775807 < a + b then 9223372036854775807 else if a + b < -9223372036854775807 then -9223372036854775807 else a + b) := hs
  clear hs
  have hd : (0 < a ∧ 9223372036854775807 - a < b) ∨ (0 < a ∧ ¬ 9223372036854775807 - a < b) ∨ (¬ 0 < a ∧ a < 0 ∧ b < -9223372036854775807 - a) ∨ (¬ 0 < a ∧ a < 0 ∧ ¬ b < -9223372036854775807 - a) ∨ (¬ 0 < a ∧ ¬ a < 0) := by omega
  rcases hd with ⟨c1, c2⟩ | ⟨c1, c2⟩ | ⟨c1, c2, c3⟩ | ⟨c1, c2, c3⟩ | ⟨c1, c2⟩
  all_goals
    go_enter Try.func13, Try.ntmps13
    go_wp2
    go_ret
    exact ⟨ret_int (by rw [HS.out]; omega), rfl⟩

theorem satAdd_spec (a b : Int) (a0 : -9223372036854775808 ≤ a) (a1 : a ≤ 9223372036854775807) (b0 : -9223372036854775808 ≤ b) (b1 : b ≤ 9223372036854775807) (w : World) :
    Calls Try.prog 6 #[.int .i64 a, .int .i64 b] w fun e w' => e = .returned (.int .i64 (satAddF a b)) ∧ w' = w := by
  have ha := heldF_bd a1
  have hb := heldF_bd b1
  have hs := satAddF_bd (heldF a) (heldF b)
  go_enter Try.func6, Try.ntmps6
  go_wp2_with (first | (go_at_call 12; refine (l1in_any _ (by omega) (by omega) _).mono ?_; rintro e w' ⟨rfl, rfl⟩) | (go_at_call 13; refine (l1sat_any _ _ (by omega) (by omega) (by omega) (by omega) _).mono ?_; rintro e w' ⟨rfl, rfl⟩))
  go_ret
  exact ⟨ret_int (by rw [heldF_hi hs.1]; unfold satAddF; rw [heldF_hi ha.1, heldF_hi hb.1]), rfl⟩

theorem satSub_impl (a b : Int) (a0 : -9223372036854775808 ≤ a) (a1 : a ≤ 9223372036854775807) (b0 : -9223372036854775808 ≤ b) (b1 : b ≤ 9223372036854775807) (w : World) :
    Calls Try.prog 9 #[.int .i64 a, .int .i64 b] w fun e w' => e = .returned (.int .i64 (satAddF a (-heldF b))) ∧ w' = w := by
  have hb := heldF_bd b1
  go_enter Try.func9, Try.ntmps9
  go_wp2_with (first | (go_at_call 14; refine (held_any _ (by omega) (by omega) _).mono ?_; rintro e w' ⟨rfl, rfl⟩) | (go_at_call 7; refine (satAdd_impl _ _ (by omega) (by omega) (by omega) (by omega) _).mono ?_; rintro e w' ⟨rfl, rfl⟩))
  go_ret
  exact ⟨rfl, rfl⟩

theorem satSub_spec (a b : Int) (a0 : -9223372036854775808 ≤ a) (a1 : a ≤ 9223372036854775807) (b0 : -9223372036854775808 ≤ b) (b1 : b ≤ 9223372036854775807) (w : World) :
    Calls Try.prog 8 #[.int .i64 a, .int .i64 b] w fun e w' => e = .returned (.int .i64 (satAddF a (-heldF b))) ∧ w' = w := by
  have hb := heldF_bd b1
  go_enter Try.func8, Try.ntmps8
  go_wp2_with (first | (go_at_call 12; refine (l1in_any _ (by omega) (by omega) _).mono ?_; rintro e w' ⟨rfl, rfl⟩) | (go_at_call 6; refine (satAdd_spec _ _ (by omega) (by omega) (by omega) (by omega) _).mono ?_; rintro e w' ⟨rfl, rfl⟩))
  go_ret
  exact ⟨rfl, rfl⟩

end Go.Proofs.Ytlhocfgacikdeag
