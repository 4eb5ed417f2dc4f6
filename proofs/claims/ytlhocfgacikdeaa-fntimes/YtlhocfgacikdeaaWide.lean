/-
  WHAT THE SPECIFICATION's LONG MULTIPLICATION AND DIVISION ANSWER (l1wide, l1divide): a product in two parts of 63 bits, and such a one's quotient.
-/
import Derived.Test.YtlhocfgacikdeaaBase
namespace Go.Proofs.Ytlhocfgacikdeaa
open Go.RowKit
set_option linter.unusedVariables false

theorem and_63u (x : Int) (h0 : 0 ≤ x) (h1 : x ≤ 18446744073709551615) : bits .and .u64 x 9223372036854775807 = x % 9223372036854775808 := by
  obtain ⟨a, rfl⟩ := Int.eq_ofNat_of_zero_le h0
  rw [show (9223372036854775807 : Int) = ((9223372036854775807 : Nat) : Int) from rfl, bits_and_u64_nat a 9223372036854775807 (by omega) (by omega)]
  rw [show a &&& 9223372036854775807 = a % 9223372036854775808 from Nat.and_two_pow_sub_one_eq_mod a 63]
  omega

/-- One bit more of b. -/
theorem bit_step (b : Int) (j : Nat) : b / 2 ^ j = 2 * (b / 2 ^ (j + 1)) + b / 2 ^ j % 2 := by
  have e : b / 2 ^ (j + 1) = b / 2 ^ j / 2 := by
    rw [Int.pow_succ, Int.ediv_ediv_of_nonneg (Int.le_of_lt (Int.pow_pos (by decide)))]
  rw [e]
  omega
theorem wide_step (a b hi lo : Int) (j : Nat) (h : a * (b / 2 ^ (j + 1)) = hi * 9223372036854775808 + lo) : a * (b / 2 ^ j) = 2 * (hi * 9223372036854775808 + lo) + a * (b / 2 ^ j % 2) := by
  have e := bit_step b j
  have : a * (b / 2 ^ j) = a * (2 * (b / 2 ^ (j + 1)) + b / 2 ^ j % 2) := by rw [← e]
  rw [this, Int.mul_add, ← h, Int.mul_left_comm]
theorem half_bd (b : Int) (j : Nat) (h0 : 0 ≤ b) (h1 : b ≤ 9223372036854775807) : 0 ≤ b / 2 ^ (j + 1) ∧ b / 2 ^ (j + 1) ≤ 4611686018427387903 := by
  have e : b / 2 ^ (j + 1) = b / 2 / 2 ^ j := by
    rw [Int.pow_succ, Int.mul_comm, Int.ediv_ediv_of_nonneg (by decide)]
  have hp : (0 : Int) < 2 ^ j := Int.pow_pos (by decide)
  rw [e]
  exact ⟨Int.ediv_nonneg (by omega) (by omega), Int.le_trans (Int.ediv_le_self _ (by omega)) (by omega)⟩
theorem hi_bd (a q hi lo : Int) (a0 : 0 ≤ a) (a1 : a ≤ 9223372036854775807) (q0 : 0 ≤ q) (q1 : q ≤ 4611686018427387903) (l0 : 0 ≤ lo) (h : a * q = hi * 9223372036854775808 + lo) : hi ≤ 4611686018427387902 := by
  have := Int.mul_le_mul a1 q1 q0 (by omega)
  omega

/-- The bits of the lower part are the whole's. -/
theorem bit_same (hi lo : Int) (j : Nat) (hj : j + 1 ≤ 63) : (hi * 9223372036854775808 + lo) / 2 ^ j % 2 = lo / 2 ^ j % 2 := by
  have hp : (0 : Int) < 2 ^ j := Int.pow_pos (by decide)
  have e : (9223372036854775808 : Int) = 2 ^ j * (2 * 2 ^ (62 - j)) := by
    rw [show (2 : Int) * 2 ^ (62 - j) = 2 ^ (62 - j) * 2 from Int.mul_comm _ _, ← Int.pow_succ, ← Int.pow_add, show j + (62 - j + 1) = 63 by omega]; decide
  rw [e, Int.add_comm, show hi * (2 ^ j * (2 * 2 ^ (62 - j))) = 2 ^ j * (2 * (hi * 2 ^ (62 - j))) by rw [Int.mul_left_comm, Int.mul_left_comm hi], Int.add_mul_ediv_left _ _ (by omega)]
  omega
theorem div_step (n c q r : Int) (j : Nat) (h : n / 2 ^ (j + 1) = q * c + r) : n / 2 ^ j = (q * 2) * c + (r * 2 + n / 2 ^ j % 2) := by
  have e := bit_step n j
  rw [h] at e
  have : q * 2 * c = 2 * (q * c) := by rw [Int.mul_comm q 2, Int.mul_assoc]
  rw [this]
  omega
theorem q_bd (n c q r : Int) (j : Nat) (n0 : 0 ≤ n) (n1 : n < c * 9223372036854775808) (c0 : 0 < c) (r0 : 0 ≤ r) (h : n / 2 ^ (j + 1) = q * c + r) : q ≤ 4611686018427387903 := by
  have e : n / 2 ^ (j + 1) = n / 2 / 2 ^ j := by
    rw [Int.pow_succ, Int.mul_comm, Int.ediv_ediv_of_nonneg (by decide)]
  have hp : (0 : Int) < 2 ^ j := Int.pow_pos (by decide)
  have hle : n / 2 / 2 ^ j ≤ n / 2 := Int.ediv_le_self _ (by omega)
  have hq : q * c < 4611686018427387904 * c := by omega
  have := Int.lt_of_mul_lt_mul_right hq (by omega)
  omega

/-- The quotient of a product, as far as there is one. -/
def mdOk (a b c : Int) : Prop := 0 ≤ a ∧ 0 ≤ b ∧ 1 ≤ c ∧ a * b / c ≤ 9223372036854775807
theorem md_small (a b c hi lo : Int) (c0 : 0 < c) (l0 : 0 ≤ lo) (l1 : lo ≤ 9223372036854775807) (h : a * b = hi * 9223372036854775808 + lo) : a * b / c ≤ 9223372036854775807 ↔ hi < c := by
  have e : a * b / c ≤ 9223372036854775807 ↔ a * b < 9223372036854775808 * c := by
    rw [← Int.ediv_lt_iff_lt_mul c0]; omega
  rw [e, h]; omega

theorem ret_two {k : IntKind} {a b : Int} {v : Value} (h : a = b) : Ending.returned (.tuple #[.int k a, v]) = .returned (.tuple #[.int k b, v]) := by rw [h]

end Go.Proofs.Ytlhocfgacikdeaa
