/-
  WHAT THE ROOTS OF CHAPTER 1 ANSWER, the program's and the specification's: the greatest number whose square (cube) is not above n, 0 below 0.
-/
import Derived.Test.YtlhiadehohikdaaBase
import Derived.Test.YtlhiadehohikdaaRootN
namespace Go.Proofs.Ytlhiadehohikdaa
open Go.RowKit
set_option linter.unusedVariables false

/-- Halving: what a middle between two numbers is. -/
theorem mid_bd (l h : Int) (a : 0 ≤ l) (b : 1 < h - l) : l < l + (h - l) / 2 ∧ l + (h - l) / 2 < h := by omega
theorem sq_bd {m k : Int} (a : 0 ≤ m) (b : m ≤ k) : 0 ≤ m * m ∧ m * m ≤ k * k := ⟨Int.mul_nonneg a a, Int.mul_le_mul b b a (by omega)⟩
theorem cb_bd {m k : Int} (a : 0 ≤ m) (b : m ≤ k) : 0 ≤ m * m * m ∧ m * m * m ≤ k * k * k :=
  ⟨Int.mul_nonneg (Int.mul_nonneg a a) a, Int.mul_le_mul (sq_bd a b).2 b a (Int.mul_nonneg (by omega) (by omega))⟩

set_option maxHeartbeats 400000 in
theorem greatest_u (n : Int) (n0 : 0 ≤ n) (n1 : n ≤ 9223372036854775807) (b off : Nat) (w : World) (hc : w.cell? ⟨b, off, none⟩ = some (.int .u64 n)) :
    Calls Try.prog 59 #[.int .u64 4294967296, .func (Fn.func 60) #[] #[.pointer (some ⟨b, off, none⟩)]] w fun e w' => e = .returned (.int .u64 (root2F n)) ∧ w' = w := by
  go_enter Try.func59, Try.ntmps59
  go_wp2
  go_loop [0, 5] (fun t s => ∃ l h : Int, 0 ≤ l ∧ l < h ∧ h ≤ 4294967296 ∧ l * l ≤ n ∧ n < h * h ∧ t = .int .u64 h ∧ s = .int .u64 l) (fun t s => (intOf t - intOf s).toNat)
  case atStart => exact ⟨0, 4294967296, by omega, by omega, by omega, by omega, by omega, rfl, rfl⟩
  case round =>
    obtain ⟨l, h, l0, lh, h1, hl, hh, rfl, rfl⟩ := hrel
    by_cases hlt : 1 < h - l
    · have hm := mid_bd l h l0 hlt
      have hs := sq_bd (m := l + (h - l) / 2) (k := 4294967295) (by omega) (by omega)
      by_cases hf : (l + (h - l) / 2) * (l + (h - l) / 2) ≤ n
      · go_wp2
        go_round
        case rel => exact ⟨l + (h - l) / 2, h, by omega, by omega, by omega, hf, hh, rfl, rfl⟩
        case measure => simp [intOf]; omega
      · go_wp2
        go_round
        case rel => exact ⟨l, l + (h - l) / 2, by omega, by omega, by omega, hl, by omega, rfl, rfl⟩
        case measure => simp [intOf]; omega
    · obtain rfl : h = l + 1 := by omega
      have HR : Hid (l = root2F n) := root2F_only l0 hl hh
      go_wp2
      go_ret
      exact ⟨ret_int HR.out, rfl⟩

theorem root2F_max (n : Int) : root2F (max n 0) = root2F n := by
  by_cases h : 0 ≤ n
  · rw [Int.max_eq_left h]
  · rw [Int.max_eq_right (by omega), root2F_neg (by omega), root2F_neg (by omega)]
theorem root3F_max (n : Int) : root3F (max n 0) = root3F n := by
  by_cases h : 0 ≤ n
  · rw [Int.max_eq_left h]
  · rw [Int.max_eq_right (by omega), root3F_neg (by omega), root3F_neg (by omega)]

theorem root2_impl (n : Int) (n0 : -9223372036854775808 ≤ n) (n1 : n ≤ 9223372036854775807) (w : World) :
    Calls Try.prog 58 #[.int .i64 n] w fun e w' => e = .returned (.int .i64 (root2F n)) ∧ Kept w w' := by
  have hr := root2F_le n1
  by_cases h : 0 ≤ n
  · go_enter Try.func58, Try.ntmps58
    go_wp2_with (go_at_call 59; refine (greatest_u n h n1 _ _ _ ?_).mono ?_; (simp [go_sem]); rintro e w' ⟨rfl, rfl⟩)
    go_ret
    exact ⟨rfl, Kept.alloc _ _ _⟩
  · have h' : n < 0 := by omega
    have HZ : Hid (root2F 0 = root2F n) := by show _ = _; rw [root2F_neg (by omega), root2F_neg (by omega)]
    have hz : 0 ≤ root2F 0 ∧ root2F 0 ≤ 3037000499 := root2F_le (by omega)
    go_enter Try.func58, Try.ntmps58
    go_wp2_with (go_at_call 59; refine (greatest_u 0 (by omega) (by omega) _ _ _ ?_).mono ?_; (simp [go_sem]); rintro e w' ⟨rfl, rfl⟩)
    go_ret
    exact ⟨ret_int HZ.out, Kept.alloc _ _ _⟩

set_option maxHeartbeats 400000 in
theorem root2_spec (n : Int) (n0 : -9223372036854775808 ≤ n) (n1 : n ≤ 9223372036854775807) (w : World) :
    Calls Try.prog 45 #[.int .i64 n] w fun e w' => e = .returned (.int .i64 (root2F n)) ∧ w' = w := by
  by_cases hn : n < 0
  · have HZ : Hid (0 = root2F n) := (root2F_neg (by omega)).symm
    go_enter Try.func45, Try.ntmps45
    go_wp2
    go_ret
    exact ⟨ret_int HZ.out, rfl⟩
  · go_enter Try.func45, Try.ntmps45
    go_wp2
    go_loop [3, 4] (fun s t => ∃ l h : Int, 0 ≤ l ∧ l < h ∧ h ≤ 3037000500 ∧ l * l ≤ n ∧ n < h * h ∧ t = .int .i64 h ∧ s = .int .i64 l) (fun s t => (intOf t - intOf s).toNat)
    case atStart => exact ⟨0, 3037000500, by omega, by omega, by omega, by omega, by omega, rfl, rfl⟩
    case round =>
      obtain ⟨l, h, l0, lh, h1, hl, hh, rfl, rfl⟩ := hrel
      by_cases hlt : 1 < h - l
      · have hm : l < (l + h) / 2 ∧ (l + h) / 2 < h := by omega
        have hs := sq_bd (m := (l + h) / 2) (k := 3037000499) (by omega) (by omega)
        by_cases hf : (l + h) / 2 * ((l + h) / 2) ≤ n
        · go_wp2
          go_round
          case rel => exact ⟨(l + h) / 2, h, by omega, by omega, by omega, hf, hh, rfl, rfl⟩
          case measure => simp [intOf]; omega
        · go_wp2
          go_round
          case rel => exact ⟨l, (l + h) / 2, by omega, by omega, by omega, hl, by omega, rfl, rfl⟩
          case measure => simp [intOf]; omega
      · obtain rfl : h = l + 1 := by omega
        have HR : Hid (l = root2F n) := root2F_only l0 hl hh
        go_wp2
        go_ret
        exact ⟨ret_int HR.out, rfl⟩

def invF (n : Int) : Int := if n < 1 ∨ 4294967296 < n then 0 else root2F (4294967296 / n)

theorem inv_impl (n : Int) (n0 : -9223372036854775808 ≤ n) (n1 : n ≤ 9223372036854775807) (w : World) :
    Calls Try.prog 57 #[.int .i64 n] w fun e w' => e = .returned (.int .i64 (invF n)) ∧ Kept w w' := by
  by_cases a : n < 1
  · have HZ : Hid (0 = invF n) := by show _ = _; unfold invF; rw [if_pos (by omega)]
    go_enter Try.func57, Try.ntmps57
    go_wp2
    go_ret
    exact ⟨ret_int HZ.out, Kept.refl _⟩
  by_cases b : 4294967296 < n
  · have HZ : Hid (0 = invF n) := by show _ = _; unfold invF; rw [if_pos (by omega)]
    go_enter Try.func57, Try.ntmps57
    go_wp2
    go_ret
    exact ⟨ret_int HZ.out, Kept.refl _⟩
  · have HZ : Hid (root2F (4294967296 / n) = invF n) := by show _ = _; unfold invF; rw [if_neg (by omega)]
    have q0 : 0 ≤ 4294967296 / n := Int.ediv_nonneg (by omega) (by omega)
    have q1 : 4294967296 / n ≤ 4294967296 := Int.ediv_le_self n (by omega)
    go_enter Try.func57, Try.ntmps57
    go_wp2_with (go_at_call 58; refine (root2_impl _ (by omega) (by omega) _).mono ?_; rintro e w' ⟨rfl, hk⟩)
    go_ret
    exact ⟨ret_int HZ.out, hk⟩

theorem inv_spec (n : Int) (n0 : -9223372036854775808 ≤ n) (n1 : n ≤ 9223372036854775807) (w : World) :
    Calls Try.prog 39 #[.int .i64 n] w fun e w' => e = .returned (.int .i64 (invF n)) ∧ w' = w := by
  by_cases a : n < 1
  · have HZ : Hid (0 = invF n) := by show _ = _; unfold invF; rw [if_pos (by omega)]
    go_enter Try.func39, Try.ntmps39
    go_wp2
    go_ret
    exact ⟨ret_int HZ.out, rfl⟩
  by_cases b : 4294967296 < n
  · have HZ : Hid (0 = invF n) := by show _ = _; unfold invF; rw [if_pos (by omega)]
    go_enter Try.func39, Try.ntmps39
    go_wp2
    go_ret
    exact ⟨ret_int HZ.out, rfl⟩
  · have HZ : Hid (root2F (4294967296 / n) = invF n) := by show _ = _; unfold invF; rw [if_neg (by omega)]
    have q0 : 0 ≤ 4294967296 / n := Int.ediv_nonneg (by omega) (by omega)
    have q1 : 4294967296 / n ≤ 4294967296 := Int.ediv_le_self n (by omega)
    go_enter Try.func39, Try.ntmps39
    go_wp2_with (go_at_call 45; refine (root2_spec _ (by omega) (by omega) _).mono ?_; rintro e w' ⟨rfl, rfl⟩)
    go_ret
    exact ⟨ret_int HZ.out, rfl⟩

end Go.Proofs.Ytlhiadehohikdaa
