/-
  WHAT THE ROOTS OF CHAPTER 1 ANSWER, the program's and the specification's: the greatest number whose square (cube) is not above n, 0 below 0.
-/
import Derived.Test.YtfflheebjbdnoafDoorBase
import Derived.Test.YtfflheebjbdnoafDoorRootN
namespace Go.Proofs.YtfflheebjbdnoafDoor
open Go.RowKit
set_option linter.unusedVariables false

/-- Halving: what a middle between two numbers is. -/
theorem mid_bd (l h : Int) (a : 0 ≤ l) (b : 1 < h - l) : l < l + (h - l) / 2 ∧ l + (h - l) / 2 < h := by omega
theorem sq_bd {m k : Int} (a : 0 ≤ m) (b : m ≤ k) : 0 ≤ m * m ∧ m * m ≤ k * k := ⟨Int.mul_nonneg a a, Int.mul_le_mul b b a (by omega)⟩
theorem cb_bd {m k : Int} (a : 0 ≤ m) (b : m ≤ k) : 0 ≤ m * m * m ∧ m * m * m ≤ k * k * k :=
  ⟨Int.mul_nonneg (Int.mul_nonneg a a) a, Int.mul_le_mul (sq_bd a b).2 b a (Int.mul_nonneg (by omega) (by omega))⟩

set_option maxHeartbeats 400000 in
theorem greatest_i (n : Int) (n0 : 0 ≤ n) (n1 : n ≤ 9223372036854775807) (b off : Nat) (w : World) (hc : w.cell? ⟨b, off, none⟩ = some (.int .i64 n)) :
    Calls Tryd.prog 36 #[.int .i64 2097152, .func (Fn.func 37) #[] #[.pointer (some ⟨b, off, none⟩)]] w fun e w' => e = .returned (.int .i64 (root3F n)) ∧ w' = w := by
  go_enter Tryd.func36, Tryd.ntmps36
  go_wp2
  go_loop [0, 5] (fun t s => ∃ l h : Int, 0 ≤ l ∧ l < h ∧ h ≤ 2097152 ∧ l * l * l ≤ n ∧ n < h * h * h ∧ t = .int .i64 h ∧ s = .int .i64 l) (fun t s => (intOf t - intOf s).toNat)
  case atStart => exact ⟨0, 2097152, by omega, by omega, by omega, by omega, by omega, rfl, rfl⟩
  case round =>
    obtain ⟨l, h, l0, lh, h1, hl, hh, rfl, rfl⟩ := hrel
    by_cases hlt : 1 < h - l
    · have hm := mid_bd l h l0 hlt
      have hs := sq_bd (m := l + (h - l) / 2) (k := 2097151) (by omega) (by omega)
      have hq := cb_bd (m := l + (h - l) / 2) (k := 2097151) (by omega) (by omega)
      by_cases hf : (l + (h - l) / 2) * (l + (h - l) / 2) * (l + (h - l) / 2) ≤ n
      · go_wp2
        go_round
        case rel => exact ⟨l + (h - l) / 2, h, by omega, by omega, by omega, hf, hh, rfl, rfl⟩
        case measure => simp [intOf]; omega
      · go_wp2
        go_round
        case rel => exact ⟨l, l + (h - l) / 2, by omega, by omega, by omega, hl, by omega, rfl, rfl⟩
        case measure => simp [intOf]; omega
    · obtain rfl : h = l + 1 := by omega
      have HR : Hid (l = root3F n) := root3F_only l0 hl hh
      go_wp2
      go_ret
      exact ⟨ret_int HR.out, rfl⟩

theorem root2F_max (n : Int) : root2F (max n 0) = root2F n := by
  by_cases h : 0 ≤ n
  · rw [Int.max_eq_left h]
  · rw [Int.max_eq_right (by omega), root2F_neg (by omega), root2F_neg (by omega)]
theorem root3F_max (n : Int) : root3F (max n 0) = root3F n := by
  by_cases h : 0 ≤ n
  · rw [Int.max_eq_left h]
  · rw [Int.max_eq_right (by omega), root3F_neg (by omega), root3F_neg (by omega)]

theorem root3_impl (n : Int) (n0 : -9223372036854775808 ≤ n) (n1 : n ≤ 9223372036854775807) (w : World) :
    Calls Tryd.prog 31 #[.int .i64 n] w fun e w' => e = .returned (.int .i64 (root3F n)) ∧ Kept w w' := by
  by_cases h : 0 ≤ n
  · go_enter Tryd.func31, Tryd.ntmps31
    go_wp2_with (go_at_call 36; refine (greatest_i n h n1 _ _ _ ?_).mono ?_; (simp [go_sem]); rintro e w' ⟨rfl, rfl⟩)
    go_ret
    exact ⟨rfl, Kept.alloc _ _ _⟩
  · have h' : n < 0 := by omega
    have HZ : Hid (root3F 0 = root3F n) := by show _ = _; rw [root3F_neg (by omega), root3F_neg (by omega)]
    go_enter Tryd.func31, Tryd.ntmps31
    go_wp2_with (go_at_call 36; refine (greatest_i 0 (by omega) (by omega) _ _ _ ?_).mono ?_; (simp [go_sem]); rintro e w' ⟨rfl, rfl⟩)
    go_ret
    exact ⟨ret_int HZ.out, Kept.alloc _ _ _⟩

set_option maxHeartbeats 400000 in
theorem root3_spec (n : Int) (n0 : -9223372036854775808 ≤ n) (n1 : n ≤ 9223372036854775807) (w : World) :
    Calls Tryd.prog 38 #[.int .i64 n] w fun e w' => e = .returned (.int .i64 (root3F n)) ∧ w' = w := by
  by_cases hn : n < 0
  · have HZ : Hid (0 = root3F n) := (root3F_neg (by omega)).symm
    go_enter Tryd.func38, Tryd.ntmps38
    go_wp2
    go_ret
    exact ⟨ret_int HZ.out, rfl⟩
  · go_enter Tryd.func38, Tryd.ntmps38
    go_wp2
    go_loop [3, 4] (fun s t => ∃ l h : Int, 0 ≤ l ∧ l < h ∧ h ≤ 2097152 ∧ l * l * l ≤ n ∧ n < h * h * h ∧ t = .int .i64 h ∧ s = .int .i64 l) (fun s t => (intOf t - intOf s).toNat)
    case atStart => exact ⟨0, 2097152, by omega, by omega, by omega, by omega, by omega, rfl, rfl⟩
    case round =>
      obtain ⟨l, h, l0, lh, h1, hl, hh, rfl, rfl⟩ := hrel
      by_cases hlt : 1 < h - l
      · have hm : l < (l + h) / 2 ∧ (l + h) / 2 < h := by omega
        have hs := sq_bd (m := (l + h) / 2) (k := 2097151) (by omega) (by omega)
        have hq := cb_bd (m := (l + h) / 2) (k := 2097151) (by omega) (by omega)
        by_cases hf : (l + h) / 2 * ((l + h) / 2) * ((l + h) / 2) ≤ n
        · go_wp2
          go_round
          case rel => exact ⟨(l + h) / 2, h, by omega, by omega, by omega, hf, hh, rfl, rfl⟩
          case measure => simp [intOf]; omega
        · go_wp2
          go_round
          case rel => exact ⟨l, (l + h) / 2, by omega, by omega, by omega, hl, by omega, rfl, rfl⟩
          case measure => simp [intOf]; omega
      · obtain rfl : h = l + 1 := by omega
        have HR : Hid (l = root3F n) := root3F_only l0 hl hh
        go_wp2
        go_ret
        exact ⟨ret_int HR.out, rfl⟩

def invF (n : Int) : Int := if n < 1 ∨ 4294967296 < n then 0 else root2F (4294967296 / n)

end Go.Proofs.YtfflheebjbdnoafDoor
