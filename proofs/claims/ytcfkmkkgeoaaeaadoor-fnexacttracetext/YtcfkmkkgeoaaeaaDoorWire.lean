/-
  WHAT THE SPECIFICATION's READERS OF CHAPTER 2 ANSWER: l2get16, l2fold, l2sum.
-/
import Derived.Test.YtcfkmkkgeoaaeaaDoorBys
namespace Go.Proofs.YtcfkmkkgeoaaeaaDoor
open Go.RowKit
set_option linter.unusedVariables false

/-- Two bytes, high one first. -/
def get16F (f : Nat → Int) (i : Nat) : Int := f i * 256 + f (i + 1)
/-- What is above 16 bits is added to the rest, until there is nothing. -/
def foldF (n : Int) : Int := if n ≤ 0 then n else (n - 1) % 65535 + 1
/-- The sum of the first j pairs of n bytes. -/
def pairsF (f : Nat → Int) (n : Nat) : Nat → Int
  | 0 => 0
  | j + 1 => pairsF f n j + f (2 * j) * 256 + (if 2 * j + 1 < n then f (2 * j + 1) else 0)
def sumF (f : Nat → Int) (n : Nat) : Int := foldF (pairsF f n ((n + 1) / 2))

theorem foldF_step (m : Int) (h : 65535 < m) : foldF (m % 65536 + m / 65536) = foldF m := by
  unfold foldF
  rw [if_neg (by omega), if_neg (by omega)]
  omega
theorem foldF_low (m : Int) (h0 : 0 ≤ m) (h : m ≤ 65535) : foldF m = m := by
  unfold foldF
  split <;> omega
theorem foldF_bd (m : Int) (h0 : 0 ≤ m) : 0 ≤ foldF m ∧ foldF m ≤ 65535 := by
  unfold foldF
  split <;> omega
theorem pairsF_bd (f : Nat → Int) (n : Nat) (hf : Byt n f) : ∀ j, 2 * j ≤ n + 1 → 0 ≤ pairsF f n j ∧ pairsF f n j ≤ 65535 * j
  | 0, _ => by simp [pairsF]
  | j + 1, h => by
    have ih := pairsF_bd f n hf j (by omega)
    have a := hf (2 * j) (by omega)
    rw [pairsF]
    split
    · rename_i h1
      have b := hf (2 * j + 1) h1
      omega
    · omega

theorem and_16 (x : Int) : bits .and .i64 x 65535 = x % 65536 := and_low x 16 (by decide)

end Go.Proofs.YtcfkmkkgeoaaeaaDoor
