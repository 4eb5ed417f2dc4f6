/-
  THE CURVE's NUMBERS: it does not go down; it is max at k; it begins at w, or not much above.
-/
import Derived.Test.YtfflheebjbdnoaeCubicN
namespace Go.Proofs.Ytfflheebjbdnoae
open Go.RowKit
set_option linter.unusedVariables false

theorem cube_step (d : Int) : d * d * d ≤ (d + 1) * (d + 1) * (d + 1) := by
  have h : 0 ≤ d * (d + 1) := by
    by_cases h0 : 0 ≤ d
    · exact Int.mul_nonneg h0 (by omega)
    · have := Int.mul_nonneg (show 0 ≤ -d by omega) (show 0 ≤ -(d + 1) by omega)
      rwa [Int.neg_mul_neg] at this
  have e : (d + 1) * (d + 1) * (d + 1) = d * d * d + 3 * (d * (d + 1)) + 1 := by
    simp only [Int.add_mul, Int.mul_add, Int.one_mul, Int.mul_one, Int.mul_assoc]
    omega
  omega
theorem upF_of {c d : Int} (h : c ≤ d) : (c.tdiv 1000000 * 4).tdiv 10000 ≤ (d.tdiv 1000000 * 4).tdiv 10000 := by
  have h1 := tdiv_mono (n := 1000000) (by decide) h
  exact tdiv_mono (n := 10000) (by decide) (by omega)
theorem upF_step (d : Int) : upF d ≤ upF (d + 1) := upF_of (cube_step d)
theorem upF_0 : upF 0 = 0 := by decide
theorem upF_pos {d : Int} (h : 0 ≤ d) : 0 ≤ upF d := by
  have := upF_of (c := 0) (d := d * d * d) (Int.mul_nonneg (Int.mul_nonneg h h) h)
  exact this
theorem upF_opp (d : Int) : upF (-d) = - upF d := by
  unfold upF
  rw [Int.neg_mul_neg, Int.mul_neg, Int.neg_tdiv, Int.neg_mul, Int.neg_tdiv]
theorem upF_neg {d : Int} (h : d ≤ 0) : upF d ≤ 0 := by
  have h1 := upF_pos (d := -d) (by omega)
  rw [upF_opp] at h1
  omega
/-- Back from k. -/
theorem back {D j : Int} (hD : 1 ≤ D) (h0 : 0 ≤ j) (h1 : j * j * j ≤ 2500000000 * D) (h2 : 2500000000 * D < (j + 1) * (j + 1) * (j + 1)) : upF j ≤ D ∧ D - upF j ≤ 1 + D / 100 := by
  have hj : 1357 ≤ j := by
    by_cases hk : 1357 ≤ j
    · exact hk
    · exfalso
      have := (cb_bd (m := j + 1) (k := 1357) (by omega) (by omega)).2
      omega
  obtain ⟨q, hq⟩ : ∃ q, j * j = q := ⟨_, rfl⟩
  rw [hq] at h1
  obtain ⟨c, hc⟩ : ∃ c, q * j = c := ⟨_, rfl⟩
  rw [hc] at h1
  have hq0 : 0 ≤ q := by rw [← hq]; exact Int.mul_nonneg h0 h0
  have hqj : 1357 * j ≤ q := by rw [← hq]; exact Int.mul_le_mul_of_nonneg_right hj h0
  have hcq : q * 1357 ≤ c := by rw [← hc]; exact Int.mul_le_mul_of_nonneg_left hj hq0
  have e : (j + 1) * (j + 1) * (j + 1) = c + 3 * q + 3 * j + 1 := by
    rw [← hc, ← hq]
    simp only [Int.add_mul, Int.mul_add, Int.one_mul, Int.mul_one, Int.mul_assoc]
    omega
  rw [e] at h2
  have hc0 : 0 ≤ c := by omega
  have hu : upF j = c / 1000000 * 4 / 10000 := by
    unfold upF
    rw [hq, hc, Int.tdiv_eq_ediv_of_nonneg hc0, Int.tdiv_eq_ediv_of_nonneg (by omega)]
  rw [hu]
  omega

end Go.Proofs.Ytfflheebjbdnoae
