/-
  WHAT THE PROGRAM's Sum16 AND THE SPECIFICATION's Sum16 ANSWER, AND THE PROGRAM's numberOf.
-/
import Derived.Test.YtkhfcemjmnjkdaaWire
namespace Go.Proofs.Ytkhfcemjmnjkdaa
open Go.RowKit
set_option linter.unusedVariables false

/-- The bytes added one by one, every other one high. -/
def halfF (f : Nat → Int) : Nat → Int
  | 0 => 0
  | k + 1 => halfF f k + (if k % 2 = 0 then f k * 256 else f k)
theorem halfF_bd (f : Nat → Int) (n : Nat) (hf : Byt n f) : ∀ k, k ≤ n → 0 ≤ halfF f k ∧ halfF f k ≤ 65280 * k
  | 0, _ => by simp [halfF]
  | k + 1, h => by
    have ih := halfF_bd f n hf k (by omega)
    have a := hf k (by omega)
    rw [halfF]
    split <;> omega
theorem halfF_pairs (f : Nat → Int) (n : Nat) : ∀ j, 2 * j ≤ n → pairsF f n j = halfF f (2 * j)
  | 0, _ => rfl
  | j + 1, h => by
    rw [pairsF, halfF_pairs f n j (by omega), if_pos (by omega), show 2 * (j + 1) = 2 * j + 1 + 1 by omega, halfF, if_neg (by omega), halfF, if_pos (by omega)]
theorem halfF_all (f : Nat → Int) (n : Nat) : halfF f n = pairsF f n ((n + 1) / 2) := by
  rcases Nat.mod_two_eq_zero_or_one n with h | h
  · obtain ⟨m, rfl⟩ : ∃ m, n = 2 * m := ⟨n / 2, by omega⟩
    rw [show (2 * m + 1) / 2 = m by omega, halfF_pairs f (2 * m) m (Nat.le_refl _)]
  · obtain ⟨m, rfl⟩ : ∃ m, n = 2 * m + 1 := ⟨n / 2, by omega⟩
    rw [show (2 * m + 1 + 1) / 2 = m + 1 by omega, pairsF, if_neg (by omega), halfF, if_pos (by omega), halfF_pairs f (2 * m + 1) m (by omega)]
    omega

set_option maxHeartbeats 400000 in
theorem isum_any (a : Option Addr) (n cap : Nat) (f : Nat → Int) (w : World) (hr : Row .u8 w a n f) (hf : Byt n f) (hn : (n : Int) ≤ 65535) :
    Calls Try.prog 10 #[.slice a n cap] w fun e w' => e = .returned (.int .i64 (65535 - sumF f n)) ∧ w' = w := by
  have HR : Hid _ := hr
  have HF : Hid (Byt n f) := hf
  have HA : Hid (foldF (halfF f n) = sumF f n) := by show _ = _; unfold sumF; rw [halfF_all]
  have hm := and_16
  clear hr hf
  go_enter Try.func10, Try.ntmps10
  go_wp2
  go_loop [3, 11] (fun s i => ∃ k : Nat, k ≤ n ∧ i = .int .i64 (k : Int) ∧ s = .int .i64 (halfF f k)) (fun _ i => n - (intOf i).toNat)
  case atStart => exact ⟨0, by omega, rfl, rfl⟩
  case round =>
    obtain ⟨k, hk, rfl, rfl⟩ := hrel
    have pb := halfF_bd f n HF.out k hk
    by_cases hlt : k < n
    · obtain ⟨b, off, rfl, hb, hc⟩ := Row.at HR.out hlt
      have c1 := hc k hlt
      have f1 := HF.out k hlt
      by_cases h2 : (k : Int) % 2 = 0
      · have HP : Hid (halfF f (k + 1) = halfF f k + f k * 256) := by show _ = _; rw [halfF, if_pos (by omega)]
        clear hc
        go_wp2
        go_round
        case rel => exact ⟨k + 1, by omega, by go_num, by rw [HP.out]⟩
        case measure => simp [intOf]; omega
      · have h2' : ((k : Int) % 2 == 0) = false := by simpa using h2
        have HP : Hid (halfF f (k + 1) = halfF f k + f k) := by show _ = _; rw [halfF, if_neg (by omega)]
        clear hc
        go_wp2
        go_round
        case rel => exact ⟨k + 1, by omega, by go_num, by rw [HP.out]⟩
        case measure => simp [intOf]; omega
    · obtain rfl : k = n := by omega
      go_wp2
      go_loop [3] (fun x => ∃ m : Int, 0 ≤ m ∧ m ≤ 9223372036854775807 ∧ Hid (foldF m = sumF f k) ∧ x = .int .i64 m) (fun x => (intOf x).toNat)
      case atStart => exact ⟨_, by omega, by omega, HA, rfl⟩
      case round =>
        obtain ⟨m, m0, m1, HM, rfl⟩ := hrel
        by_cases h : 65535 < m
        · have HS : Hid (foldF (m / 65536 + m % 65536) = sumF f k) := by show _ = _; rw [Int.add_comm]; exact (foldF_step m h).trans HM.out
          go_wp2
          go_round
          case rel => exact ⟨_, by omega, by omega, HS, rfl⟩
          case measure => simp [intOf]; omega
        · have HS : Hid (m = sumF f k) := (foldF_low m m0 (by omega)).symm.trans HM.out
          go_wp2
          go_ret
          exact ⟨ret_int (by rw [HS.out]), rfl⟩

theorem isum_long (a : Option Addr) (n cap : Nat) (w : World) (hn : ¬ (n : Int) ≤ 65535) (h1 : (n : Int) ≤ 1048576) :
    Calls Try.prog 10 #[.slice a n cap] w fun e w' => e = .returned (.int .i64 0) ∧ w' = w := by
  go_enter Try.func10, Try.ntmps10
  go_wp2
  go_ret
  exact ⟨rfl, rfl⟩

/-- Bytes, high one first, as a number. -/
def numF (f : Nat → Int) (i : Nat) : Nat → Int
  | 0 => 0
  | k + 1 => numF f i k * 256 + f (i + k)
theorem numF_bd (f : Nat → Int) (i : Nat) (hf : ∀ j, j < 4 → 0 ≤ f (i + j) ∧ f (i + j) ≤ 255) (k : Nat) (hk : k ≤ 4) : 0 ≤ numF f i k ∧ numF f i k ≤ 4294967295 := by
  have h0 := hf 0 (by omega)
  have h1 := hf 1 (by omega)
  have h2 := hf 2 (by omega)
  have h3 := hf 3 (by omega)
  rcases (by omega : k = 0 ∨ k = 1 ∨ k = 2 ∨ k = 3 ∨ k = 4) with rfl | rfl | rfl | rfl | rfl <;> simp only [numF] <;> omega

end Go.Proofs.Ytkhfcemjmnjkdaa
