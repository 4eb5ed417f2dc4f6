/-
  WHAT THE SPECIFICATION's LONG MULTIPLICATION AND DIVISION ANSWER (l1wide, l1divide): a product in two parts of 63 bits, and such a one's quotient.
-/
import Derived.Test.YtmjggolllijamaaBase
namespace Go.Proofs.Ytmjggolllijamaa
open Go.RowKit
set_option linter.unusedVariables false

theorem and_63u (x : Int) (h0 : 0 ≤ x) (h1 : x ≤ 18446744073709551615) : bits .and .u64 x 9223372036854775807 = x % 9223372036854775808 := by
  obtain ⟨a, rfl⟩ := Int.eq_ofNat_of_zero_le h0
  rw [show (9223372036854775807 : Int) = ((9223372036854775807 : Nat) : Int) from rfl, bits_and_u64_nat a 9223372036854775807 (by omega) (by omega)]
  rw [show a &&& 9223372036854775807 = a % 9223372036854775808 from Nat.and_two_pow_sub_one_eq_mod a 63]
  omega

/-- One bit more of b. -/
theorem bit_step (b : Int) (j : Nat) : b / 2 ^ j = 2 * (b / 2 ^ (j + 1)) + b / 2 ^ j % 2 := by
  have e : b / 2 ^ (j + 1) = b / 2 ^ j / 2 := by
    rw [Int.pow_succ, Int.ediv_ediv_of_nonneg (Int.le_of_lt (Int.pow_pos (by decide)))]
  rw [e]
  omega
theorem wide_step (a b hi lo : Int) (j : Nat) (h : a * (b / 2 ^ (j + 1)) = hi * 9223372036854775808 + lo) : a * (b / 2 ^ j) = 2 * (hi * 9223372036854775808 + lo) + a * (b / 2 ^ j % 2) := by
  have e := bit_step b j
  have : a * (b / 2 ^ j) = a * (2 * (b / 2 ^ (j + 1)) + b / 2 ^ j % 2) := by rw [← e]
  rw [this, Int.mul_add, ← h, Int.mul_left_comm]
theorem half_bd (b : Int) (j : Nat) (h0 : 0 ≤ b) (h1 : b ≤ 9223372036854775807) : 0 ≤ b / 2 ^ (j + 1) ∧ b / 2 ^ (j + 1) ≤ 4611686018427387903 := by
  have e : b / 2 ^ (j + 1) = b / 2 / 2 ^ j := by
    rw [Int.pow_succ, Int.mul_comm, Int.ediv_ediv_of_nonneg (by decide)]
  have hp : (0 : Int) < 2 ^ j := Int.pow_pos (by decide)
  rw [e]
  exact ⟨Int.ediv_nonneg (by omega) (by omega), Int.le_trans (Int.ediv_le_self _ (by omega)) (by omega)⟩
theorem hi_bd (a q hi lo : Int) (a0 : 0 ≤ a) (a1 : a ≤ 9223372036854775807) (q0 : 0 ≤ q) (q1 : q ≤ 4611686018427387903) (l0 : 0 ≤ lo) (h : a * q = hi * 9223372036854775808 + lo) : hi ≤ 4611686018427387902 := by
  have := Int.mul_le_mul a1 q1 q0 (by omega)
  omega

set_option maxHeartbeats 400000 in
theorem wide_any (a b : Int) (a0 : 0 ≤ a) (a1 : a ≤ 9223372036854775807) (b0 : 0 ≤ b) (b1 : b ≤ 9223372036854775807) (w : World) :
    Calls Try.prog 113 #[.int .i64 a, .int .i64 b] w fun e w' => ∃ hi lo : Int, e = .returned (.tuple #[.int .i64 hi, .int .i64 lo]) ∧ w' = w ∧ 0 ≤ hi ∧ hi ≤ 9223372036854775807 ∧ 0 ≤ lo ∧ lo ≤ 9223372036854775807 ∧ Hid (a * b = hi * 9223372036854775808 + lo) := by
  have hm := and_63
  have h1 := and_1
  go_enter Try.func113, Try.ntmps113
  go_wp2
  go_loop [6, 7, 8] (fun x y i => ∃ (k : Nat) (hi lo : Int), k ≤ 63 ∧ 0 ≤ hi ∧ hi ≤ 9223372036854775807 ∧ 0 ≤ lo ∧ lo ≤ 9223372036854775807 ∧ Hid (a * (b / 2 ^ k) = hi * 9223372036854775808 + lo) ∧ i = .int .i64 ((k : Int) - 1) ∧ x = .int .i64 hi ∧ y = .int .i64 lo) (fun _ _ i => (intOf i + 1).toNat)
  case atStart => exact ⟨63, 0, 0, by omega, by omega, by omega, by omega, by omega, by show _ = _; rw [Int.ediv_eq_zero_of_lt b0 (by omega)]; omega, rfl, rfl, rfl⟩
  case round =>
    obtain ⟨k, hi, lo, k1, i0, i1, l0, l1, HE, rfl, rfl, rfl⟩ := hrel
    rcases k with _ | j
    · go_wp2
      go_ret2
      exact ⟨hi, lo, rfl, rfl, i0, i1, l0, l1, by show _ = _; have := HE.out; simpa using this⟩
    · have ej : (((j + 1 : Nat) : Int) - 1) = (j : Int) := by omega
      rw [ej]
      have hb := half_bd b j b0 b1
      have hib := hi_bd a _ hi lo a0 a1 hb.1 hb.2 l0 HE.out
      have HS : Hid (a * (b / 2 ^ j) = 2 * (hi * 9223372036854775808 + lo) + a * (b / 2 ^ j % 2)) := wide_step a b hi lo j HE.out
      have hlo : wrap64 (lo * 2) % 9223372036854775808 = lo * 2 % 9223372036854775808 := by unfold wrap64; omega
      have hmu := and_63u (lo * 2 % 9223372036854775808 + a) (by omega) (by omega)
      clear HE hb
      rcases (show (b / 2 ^ j % 2 == 1) = true ∧ b / 2 ^ j % 2 = 1 ∨ (b / 2 ^ j % 2 == 1) = false ∧ b / 2 ^ j % 2 = 0 by simp; omega) with ⟨hb, hv⟩ | ⟨hb, hv⟩
      · have HV : Hid (b / 2 ^ j % 2 = 1) := hv
        clear hv
        by_cases hc : 9223372036854775807 < lo * 2 % 9223372036854775808 + a
        · go_wp2
          go_round
          case rel => exact ⟨j, _, _, by omega, by omega, by omega, by omega, by omega, by show _ = _; rw [HS.out, HV.out]; omega, rfl, rfl, rfl⟩
          case measure => simp [intOf]
        · go_wp2
          go_round
          case rel => exact ⟨j, _, _, by omega, by omega, by omega, by omega, by omega, by show _ = _; rw [HS.out, HV.out]; omega, rfl, rfl, rfl⟩
          case measure => simp [intOf]
      · have HV : Hid (b / 2 ^ j % 2 = 0) := hv
        clear hv
        go_wp2
        go_round
        case rel => exact ⟨j, _, _, by omega, by omega, by omega, by omega, by omega, by show _ = _; rw [HS.out, HV.out]; omega, rfl, rfl, rfl⟩
        case measure => simp [intOf]

/-- The bits of the lower part are the whole's. -/
theorem bit_same (hi lo : Int) (j : Nat) (hj : j + 1 ≤ 63) : (hi * 9223372036854775808 + lo) / 2 ^ j % 2 = lo / 2 ^ j % 2 := by
  have hp : (0 : Int) < 2 ^ j := Int.pow_pos (by decide)
  have e : (9223372036854775808 : Int) = 2 ^ j * (2 * 2 ^ (62 - j)) := by
    rw [show (2 : Int) * 2 ^ (62 - j) = 2 ^ (62 - j) * 2 from Int.mul_comm _ _, ← Int.pow_succ, ← Int.pow_add, show j + (62 - j + 1) = 63 by omega]; decide
  rw [e, Int.add_comm, show hi * (2 ^ j * (2 * 2 ^ (62 - j))) = 2 ^ j * (2 * (hi * 2 ^ (62 - j))) by rw [Int.mul_left_comm, Int.mul_left_comm hi], Int.add_mul_ediv_left _ _ (by omega)]
  omega
theorem div_step (n c q r : Int) (j : Nat) (h : n / 2 ^ (j + 1) = q * c + r) : n / 2 ^ j = (q * 2) * c + (r * 2 + n / 2 ^ j % 2) := by
  have e := bit_step n j
  rw [h] at e
  have : q * 2 * c = 2 * (q * c) := by rw [Int.mul_comm q 2, Int.mul_assoc]
  rw [this]
  omega
theorem q_bd (n c q r : Int) (j : Nat) (n0 : 0 ≤ n) (n1 : n < c * 9223372036854775808) (c0 : 0 < c) (r0 : 0 ≤ r) (h : n / 2 ^ (j + 1) = q * c + r) : q ≤ 4611686018427387903 := by
  have e : n / 2 ^ (j + 1) = n / 2 / 2 ^ j := by
    rw [Int.pow_succ, Int.mul_comm, Int.ediv_ediv_of_nonneg (by decide)]
  have hp : (0 : Int) < 2 ^ j := Int.pow_pos (by decide)
  have hle : n / 2 / 2 ^ j ≤ n / 2 := Int.ediv_le_self _ (by omega)
  have hq : q * c < 4611686018427387904 * c := by omega
  have := Int.lt_of_mul_lt_mul_right hq (by omega)
  omega

set_option maxHeartbeats 400000 in
theorem divide_any (hi lo c : Int) (i0 : 0 ≤ hi) (i1 : hi < c) (l0 : 0 ≤ lo) (l1 : lo ≤ 9223372036854775807) (c1 : c ≤ 9223372036854775807) (w : World) :
    Calls Try.prog 114 #[.int .i64 hi, .int .i64 lo, .int .i64 c] w fun e w' => e = .returned (.int .i64 ((hi * 9223372036854775808 + lo) / c)) ∧ w' = w := by
  have n0 : 0 ≤ hi * 9223372036854775808 + lo := by omega
  have n1 : hi * 9223372036854775808 + lo < c * 9223372036854775808 := by omega
  have hbit := fun (j : Nat) (hj : j + 1 ≤ 63) => bit_same hi lo j hj
  obtain ⟨n, hn⟩ : ∃ n, n = hi * 9223372036854775808 + lo := ⟨_, rfl⟩
  rw [← hn]
  simp only [← hn] at n0 n1 hbit
  have hs : n / 2 ^ 63 = 0 * c + hi := by rw [hn]; omega
  have HS : Hid _ := hs
  have HB : Hid _ := hbit
  clear hn hs hbit
  have h1 := and_1
  go_enter Try.func114, Try.ntmps114
  go_wp2
  go_loop [7, 8, 9] (fun x y i => ∃ (k : Nat) (q r : Int), k ≤ 63 ∧ 0 ≤ q ∧ q ≤ 9223372036854775807 ∧ 0 ≤ r ∧ r < c ∧ Hid (n / 2 ^ k = q * c + r) ∧ i = .int .i64 ((k : Int) - 1) ∧ x = .int .u64 r ∧ y = .int .i64 q) (fun _ _ i => (intOf i + 1).toNat)
  case atStart => exact ⟨63, 0, hi, by omega, by omega, by omega, by omega, by omega, HS, rfl, rfl, rfl⟩
  case round =>
    obtain ⟨k, q, r, k1, q0, q1, r0, r1, HE, rfl, rfl, rfl⟩ := hrel
    rcases k with _ | j
    · have HQ : Hid (q = n / c) := by
        show _ = _
        have h := HE.out
        simp at h
        rw [h, Int.add_comm, Int.add_mul_ediv_right _ _ (by omega), Int.ediv_eq_zero_of_lt r0 r1]
        omega
      go_wp2
      go_ret
      exact ⟨ret_int HQ.out, rfl⟩
    · have ej : (((j + 1 : Nat) : Int) - 1) = (j : Int) := by omega
      rw [ej]
      have hqb := q_bd n c q r j n0 n1 (by omega) r0 HE.out
      have hd := div_step n c q r j HE.out
      have hb := HB.out j k1
      rw [hb] at hd
      have HD : Hid (n / 2 ^ j = q * 2 * c + (r * 2 + lo / 2 ^ j % 2)) := hd
      clear hd hb HE
      by_cases hc : c ≤ r * 2 + lo / 2 ^ j % 2
      · go_wp2
        go_round
        case rel => exact ⟨j, _, _, by omega, by omega, by omega, by omega, by omega, by show _ = _; rw [HD.out, Int.add_mul (q * 2) 1 c]; omega, rfl, rfl, rfl⟩
        case measure => simp [intOf]
      · go_wp2
        go_round
        case rel => exact ⟨j, _, _, by omega, by omega, by omega, by omega, by omega, by show _ = _; rw [HD.out], rfl, rfl, rfl⟩
        case measure => simp [intOf]

/-- The quotient of a product, as far as there is one. -/
def mdOk (a b c : Int) : Prop := 0 ≤ a ∧ 0 ≤ b ∧ 1 ≤ c ∧ a * b / c ≤ 9223372036854775807
theorem md_small (a b c hi lo : Int) (c0 : 0 < c) (l0 : 0 ≤ lo) (l1 : lo ≤ 9223372036854775807) (h : a * b = hi * 9223372036854775808 + lo) : a * b / c ≤ 9223372036854775807 ↔ hi < c := by
  have e : a * b / c ≤ 9223372036854775807 ↔ a * b < 9223372036854775808 * c := by
    rw [← Int.ediv_lt_iff_lt_mul c0]; omega
  rw [e, h]; omega

theorem ret_two {k : IntKind} {a b : Int} {v : Value} (h : a = b) : Ending.returned (.tuple #[.int k a, v]) = .returned (.tuple #[.int k b, v]) := by rw [h]

theorem mulDiv_spec (a b c : Int) (a1 : a ≤ 9223372036854775807) (b1 : b ≤ 9223372036854775807) (c1 : c ≤ 9223372036854775807) (a0 : 0 ≤ a) (b0 : 0 ≤ b) (c0 : 1 ≤ c) (h : a * b / c ≤ 9223372036854775807) (w : World) :
    Calls Try.prog 95 #[.int .i64 a, .int .i64 b, .int .i64 c] w fun e w' => e = .returned (.tuple #[.int .i64 (a * b / c), .bool true]) ∧ w' = w := by
  have H : Hid _ := h
  clear h
  go_enter Try.func95, Try.ntmps95
  go_wp2_with (first | (go_at_call 113; refine (wide_any _ _ (by omega) (by omega) (by omega) (by omega) _).mono ?_; rintro e w' ⟨hi, lo, rfl, rfl, i0, i1, l0, l1, HE⟩; have hlt : hi < c := (md_small a b c hi lo (by omega) l0 l1 HE.out).1 H.out) | (go_at_call 114; refine (divide_any _ _ _ (by omega) (by omega) (by omega) (by omega) (by omega) _).mono ?_; rintro e w' ⟨rfl, rfl⟩))
  go_ret2
  exact ⟨ret_two (by rw [HE.out]), rfl⟩
theorem mulDiv_spec_big (a b c : Int) (a1 : a ≤ 9223372036854775807) (b1 : b ≤ 9223372036854775807) (c1 : c ≤ 9223372036854775807) (a0 : 0 ≤ a) (b0 : 0 ≤ b) (c0 : 1 ≤ c) (h : ¬ a * b / c ≤ 9223372036854775807) (w : World) :
    Calls Try.prog 95 #[.int .i64 a, .int .i64 b, .int .i64 c] w fun e w' => e = .returned (.tuple #[.int .i64 0, .bool false]) ∧ w' = w := by
  have H : Hid _ := h
  clear h
  go_enter Try.func95, Try.ntmps95
  go_wp2_with (first | (go_at_call 113; refine (wide_any _ _ (by omega) (by omega) (by omega) (by omega) _).mono ?_; rintro e w' ⟨hi, lo, rfl, rfl, i0, i1, l0, l1, HE⟩; have hge : c ≤ hi := Int.not_lt.1 (fun k => H.out ((md_small a b c hi lo (by omega) l0 l1 HE.out).2 k))))
  go_ret2
  exact ⟨rfl, rfl⟩
theorem mulDiv_spec_no (a b c : Int) (h : a < 0 ∨ b < 0 ∨ c < 1) (w : World) :
    Calls Try.prog 95 #[.int .i64 a, .int .i64 b, .int .i64 c] w fun e w' => e = .returned (.tuple #[.int .i64 0, .bool false]) ∧ w' = w := by
  rcases (show a < 0 ∨ (¬ a < 0 ∧ b < 0) ∨ (¬ a < 0 ∧ ¬ b < 0 ∧ c < 1) by omega) with h | ⟨h, k⟩ | ⟨h, k, l⟩
  all_goals
    go_enter Try.func95, Try.ntmps95
    go_wp2
    go_ret2
    exact ⟨rfl, rfl⟩

end Go.Proofs.Ytmjggolllijamaa
