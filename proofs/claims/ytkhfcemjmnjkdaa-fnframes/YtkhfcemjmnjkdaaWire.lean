/-
  WHAT THE SPECIFICATION's READERS OF CHAPTER 2 ANSWER: l2get16, l2fold, l2sum.
-/
import Derived.Test.YtkhfcemjmnjkdaaBys
namespace Go.Proofs.Ytkhfcemjmnjkdaa
open Go.RowKit
set_option linter.unusedVariables false

/-- Two bytes, high one first. -/
def get16F (f : Nat → Int) (i : Nat) : Int := f i * 256 + f (i + 1)
/-- What is above 16 bits is added to the rest, until there is nothing. -/
def foldF (n : Int) : Int := if n ≤ 0 then n else (n - 1) % 65535 + 1
/-- The sum of the first j pairs of n bytes. -/
def pairsF (f : Nat → Int) (n : Nat) : Nat → Int
  | 0 => 0
  | j + 1 => pairsF f n j + f (2 * j) * 256 + (if 2 * j + 1 < n then f (2 * j + 1) else 0)
def sumF (f : Nat → Int) (n : Nat) : Int := foldF (pairsF f n ((n + 1) / 2))

theorem foldF_step (m : Int) (h : 65535 < m) : foldF (m % 65536 + m / 65536) = foldF m := by
  unfold foldF
  rw [if_neg (by omega), if_neg (by omega)]
  omega
theorem foldF_low (m : Int) (h0 : 0 ≤ m) (h : m ≤ 65535) : foldF m = m := by
  unfold foldF
  split <;> omega
theorem foldF_bd (m : Int) (h0 : 0 ≤ m) : 0 ≤ foldF m ∧ foldF m ≤ 65535 := by
  unfold foldF
  split <;> omega
theorem pairsF_bd (f : Nat → Int) (n : Nat) (hf : Byt n f) : ∀ j, 2 * j ≤ n + 1 → 0 ≤ pairsF f n j ∧ pairsF f n j ≤ 65535 * j
  | 0, _ => by simp [pairsF]
  | j + 1, h => by
    have ih := pairsF_bd f n hf j (by omega)
    have a := hf (2 * j) (by omega)
    rw [pairsF]
    split
    · rename_i h1
      have b := hf (2 * j + 1) h1
      omega
    · omega

theorem and_16 (x : Int) : bits .and .i64 x 65535 = x % 65536 := and_low x 16 (by decide)

theorem fold_any (n : Int) (w : World) (h0 : 0 ≤ n) (h1 : n ≤ 9223372036854775807) :
    Calls Try.prog 32 #[.int .i64 n] w fun e w' => e = .returned (.int .i64 (foldF n)) ∧ w' = w := by
  have hm := and_16
  go_enter Try.func32, Try.ntmps32
  go_wp2
  go_loop [0] (fun x => ∃ m : Int, 0 ≤ m ∧ m ≤ 9223372036854775807 ∧ Hid (foldF m = foldF n) ∧ x = .int .i64 m) (fun x => (intOf x).toNat)
  case atStart => exact ⟨n, h0, h1, rfl, rfl⟩
  case round =>
    obtain ⟨m, m0, m1, HM, rfl⟩ := hrel
    by_cases h : 65535 < m
    · have HS : Hid (foldF (m % 65536 + m / 65536) = foldF n) := (foldF_step m h).trans HM.out
      go_wp2
      go_round
      case rel => exact ⟨_, by omega, by omega, HS, rfl⟩
      case measure => simp [intOf]; omega
    · have HS : Hid (m = foldF n) := (foldF_low m m0 (by omega)).symm.trans HM.out
      go_wp2
      go_ret
      exact ⟨ret_int HS.out, rfl⟩

set_option maxHeartbeats 400000 in
theorem sum_any (a : Option Addr) (n cap : Nat) (f : Nat → Int) (w : World) (hr : Row .u8 w a n f) (hf : Byt n f) (hn : n ≤ 1048576) :
    Calls Try.prog 31 #[.slice a n cap] w fun e w' => e = .returned (.int .i64 (sumF f n)) ∧ w' = w := by
  have HR : Hid _ := hr
  have HF : Hid (Byt n f) := hf
  clear hr hf
  go_enter Try.func31, Try.ntmps31
  go_wp2
  go_loop [3, 4] (fun s i => ∃ j : Nat, 2 * j ≤ n + 1 ∧ i = .int .i64 (2 * (j : Int)) ∧ s = .int .i64 (pairsF f n j)) (fun _ i => n + 2 - (intOf i).toNat)
  case atStart => exact ⟨0, by omega, rfl, rfl⟩
  case round =>
    obtain ⟨j, hj, rfl, rfl⟩ := hrel
    have pb := pairsF_bd f n HF.out j hj
    by_cases hlt : 2 * j < n
    · obtain ⟨b, off, rfl, hb, hc⟩ := Row.at HR.out hlt
      have c1 := hc (2 * j) hlt
      have f1 := HF.out (2 * j) hlt
      by_cases h2 : 2 * j + 1 < n
      · have c2 : w.cell? ⟨b, off + (2 * j + 1), none⟩ = some (.int .u8 (f (2 * j + 1))) := hc (2 * j + 1) h2
        have f2 := HF.out (2 * j + 1) h2
        have HP : Hid (pairsF f n (j + 1) = pairsF f n j + f (2 * j) * 256 + f (2 * j + 1)) := by show _ = _; rw [pairsF, if_pos h2]
        clear hc
        go_wp2
        go_round
        case rel => exact ⟨j + 1, by omega, by go_num, by rw [HP.out]⟩
        case measure => simp [intOf]; omega
      · have HP : Hid (pairsF f n (j + 1) = pairsF f n j + f (2 * j) * 256) := by show _ = _; rw [pairsF, if_neg h2]; omega
        clear hc
        go_wp2
        go_round
        case rel => exact ⟨j + 1, by omega, by go_num, by rw [HP.out]⟩
        case measure => simp [intOf]; omega
    · have ej : j = (n + 1) / 2 := by omega
      have HS : Hid (foldF (pairsF f n j) = sumF f n) := by show _ = _; unfold sumF; rw [← ej]
      clear ej
      go_wp2_with (go_at_call 32; refine (fold_any _ _ (by omega) (by omega)).mono ?_; rintro e w' ⟨rfl, rfl⟩)
      go_ret
      exact ⟨ret_int HS.out, rfl⟩

end Go.Proofs.Ytkhfcemjmnjkdaa
