/-
  WHAT SatMul ANSWERS, the program's and the specification's: the product of both numbers, each below -Most being -Most, cut at -Most and Most.
-/
import Derived.Test.YtboomccnfnaboacSats
import Derived.Test.YtboomccnfnaboacMul
namespace Go.Proofs.Ytboomccnfnaboac
open Go.RowKit
set_option linter.unusedVariables false

def absF (a : Int) : Int := if a < 0 then -a else a
theorem absF_neg {a : Int} (h : a < 0) : absF a = -a := by unfold absF; omega
theorem absF_pos {a : Int} (h : ¬ a < 0) : absF a = a := by unfold absF; omega
def cutF (p : Int) : Int := if 9223372036854775807 < p then 9223372036854775807 else if p < -9223372036854775807 then -9223372036854775807 else p
def satMulF (a b : Int) : Int := cutF (heldF a * heldF b)
theorem heldF_sign (a : Int) : (heldF a < 0) = (a < 0) := by unfold heldF; split <;> simp <;> omega
theorem satMulF_bd (a b : Int) : -9223372036854775807 ≤ satMulF a b ∧ satMulF a b ≤ 9223372036854775807 := by unfold satMulF cutF; omega

theorem mag_any (a : Int) (h0 : -9223372036854775808 ≤ a) (h1 : a ≤ 9223372036854775807) (w : World) :
    Calls Try.prog 30 #[.int .i64 a] w fun e w' => e = .returned (.int .u64 (absF (heldF a))) ∧ w' = w := by
  have hb := heldF_bd h1
  by_cases h : heldF a < 0
  · go_enter Try.func30, Try.ntmps30
    go_wp2_with (go_at_call 34; refine (held_any _ (by omega) (by omega) _).mono ?_; rintro e w' ⟨rfl, rfl⟩)
    go_ret
    exact ⟨ret_int (by rw [absF_neg h]), rfl⟩
  · go_enter Try.func30, Try.ntmps30
    go_wp2_with (go_at_call 34; refine (held_any _ (by omega) (by omega) _).mono ?_; rintro e w' ⟨rfl, rfl⟩)
    all_goals
      go_ret
      exact ⟨ret_int (by rw [absF_pos (by omega)]; try omega), rfl⟩

/-- The product of both by what their amounts make. -/
theorem mul_same (a b : Int) (h : a < 0 ↔ b < 0) : heldF a * heldF b = absF (heldF a) * absF (heldF b) := by
  have ha := heldF_sign a
  have hb := heldF_sign b
  by_cases c : a < 0
  · rw [absF_neg (by rw [ha]; exact c), absF_neg (by rw [hb]; exact h.1 c), Int.neg_mul_neg]
  · rw [absF_pos (by rw [ha]; exact c), absF_pos (by rw [hb]; exact fun k => c (h.2 k))]
theorem mul_other (a b : Int) (h : ¬ (a < 0 ↔ b < 0)) : heldF a * heldF b = -(absF (heldF a) * absF (heldF b)) := by
  have ha := heldF_sign a
  have hb := heldF_sign b
  by_cases c : a < 0
  · have d : ¬ b < 0 := fun d => h (by simp [c, d])
    rw [absF_neg (by rw [ha]; exact c), absF_pos (by rw [hb]; exact d), Int.neg_mul, Int.neg_neg]
  · have d : b < 0 := Classical.byContradiction fun d => h (by simp [c, d])
    rw [absF_pos (by rw [ha]; exact c), absF_neg (by rw [hb]; exact d), Int.mul_neg, Int.neg_neg]
theorem satMul_same (a b : Int) (h : a < 0 ↔ b < 0) (hp : 0 ≤ absF (heldF a) * absF (heldF b)) : (if absF (heldF a) * absF (heldF b) ≤ 9223372036854775807 then absF (heldF a) * absF (heldF b) else 9223372036854775807) = satMulF a b := by
  unfold satMulF cutF; rw [mul_same a b h]; omega
theorem satMul_other (a b : Int) (h : ¬ (a < 0 ↔ b < 0)) (hp : 0 ≤ absF (heldF a) * absF (heldF b)) : (if absF (heldF a) * absF (heldF b) ≤ 9223372036854775807 then -(absF (heldF a) * absF (heldF b)) else -9223372036854775807) = satMulF a b := by
  unfold satMulF cutF; rw [mul_other a b h]; omega
theorem absF_bd {a : Int} (h : a ≤ 9223372036854775807) : 0 ≤ absF (heldF a) ∧ absF (heldF a) ≤ 9223372036854775807 := by
  have := heldF_bd h
  unfold absF; omega

theorem sign_or (a : Int) : (a < 0 ∧ decide (a < 0) = true) ∨ (¬ a < 0 ∧ decide (a < 0) = false) := by by_cases h : a < 0 <;> simp [h]

set_option maxHeartbeats 800000 in
theorem satMul_impl (a b : Int) (a0 : -9223372036854775808 ≤ a) (a1 : a ≤ 9223372036854775807) (b0 : -9223372036854775808 ≤ b) (b1 : b ≤ 9223372036854775807) (w : World) :
    Calls Try.prog 24 #[.int .i64 a, .int .i64 b] w fun e w' => e = .returned (.int .i64 (satMulF a b)) ∧ w' = w := by
  have ha := absF_bd a1
  have hb := absF_bd b1
  have hp : 0 ≤ absF (heldF a) * absF (heldF b) := Int.mul_nonneg ha.1 hb.1
  have hs := satMul_same a b
  have ho := satMul_other a b
  by_cases hw : absF (heldF a) * absF (heldF b) ≤ 18446744073709551615
  · by_cases hm : absF (heldF a) * absF (heldF b) ≤ 9223372036854775807
    · simp only [if_pos hm] at hs ho
      have HS : Hid _ := hs
      have HO : Hid _ := ho
      clear hs ho
      rcases sign_or a with ⟨c, hc⟩ | ⟨c, hc⟩ <;> rcases sign_or b with ⟨d, hd⟩ | ⟨d, hd⟩
      all_goals
        go_enter Try.func24, Try.ntmps24
        go_wp2_with (first | (go_at_call 30; refine (mag_any _ (by omega) (by omega) _).mono ?_; rintro e w' ⟨rfl, rfl⟩) | (go_at_call 29; refine (mul64_low _ _ (by omega) (by omega) (by omega) (by omega) (by omega) _).mono ?_; rintro e w' ⟨rfl, rfl⟩))
        go_ret
        exact ⟨ret_int (by first | exact HS.out (by omega) (by omega) | exact HO.out (by omega) (by omega)), rfl⟩
    · simp only [if_neg hm] at hs ho
      have HS : Hid _ := hs
      have HO : Hid _ := ho
      clear hs ho
      rcases sign_or a with ⟨c, hc⟩ | ⟨c, hc⟩ <;> rcases sign_or b with ⟨d, hd⟩ | ⟨d, hd⟩
      all_goals
        go_enter Try.func24, Try.ntmps24
        go_wp2_with (first | (go_at_call 30; refine (mag_any _ (by omega) (by omega) _).mono ?_; rintro e w' ⟨rfl, rfl⟩) | (go_at_call 29; refine (mul64_low _ _ (by omega) (by omega) (by omega) (by omega) (by omega) _).mono ?_; rintro e w' ⟨rfl, rfl⟩))
        go_ret
        exact ⟨ret_int (by first | exact HS.out (by omega) (by omega) | exact HO.out (by omega) (by omega)), rfl⟩
  · simp only [if_neg (show ¬ absF (heldF a) * absF (heldF b) ≤ 9223372036854775807 by omega)] at hs ho
    have HS : Hid _ := hs
    have HO : Hid _ := ho
    clear hs ho
    rcases sign_or a with ⟨c, hc⟩ | ⟨c, hc⟩ <;> rcases sign_or b with ⟨d, hd⟩ | ⟨d, hd⟩
    all_goals
      go_enter Try.func24, Try.ntmps24
      go_wp2_with (first | (go_at_call 30; refine (mag_any _ (by omega) (by omega) _).mono ?_; rintro e w' ⟨rfl, rfl⟩) | (go_at_call 29; refine (mul64_any _ _ (by omega) (by omega) (by omega) (by omega) _).mono ?_; rintro e w' ⟨hi, lo, rfl, rfl, i0, i1, l0, l1, hx⟩; have hi1 : 1 ≤ hi := by (have := hx.out; omega)))
      go_ret
      exact ⟨ret_int (by first | exact HS.out (by omega) (by omega) | exact HO.out (by omega) (by omega)), rfl⟩

theorem l1abs_any (a : Int) (h0 : -9223372036854775807 ≤ a) (h1 : a ≤ 9223372036854775807) (w : World) :
    Calls Try.prog 40 #[.int .i64 a] w fun e w' => e = .returned (.int .i64 (absF a)) ∧ w' = w := by
  by_cases h : a < 0
  · go_enter Try.func40, Try.ntmps40
    go_wp2
    go_ret
    exact ⟨ret_int (by rw [absF_neg h]), rfl⟩
  · go_enter Try.func40, Try.ntmps40
    go_wp2
    go_ret
    exact ⟨ret_int (by rw [absF_pos (by omega)]), rfl⟩

theorem quo_lt (x y : Int) (hy : 1 ≤ y) : (9223372036854775807 / y < x) = (9223372036854775807 < x * y) := by
  rw [Int.ediv_lt_iff_lt_mul (by omega)]

theorem sign_or' (a : Int) : (a < 0 ∧ decide (heldF a < 0) = true) ∨ (¬ a < 0 ∧ decide (heldF a < 0) = false) := by
  by_cases h : a < 0
  · exact .inl ⟨h, decide_eq_true (by rw [heldF_sign]; exact h)⟩
  · exact .inr ⟨h, decide_eq_false (by rw [heldF_sign]; exact h)⟩

set_option maxHeartbeats 800000 in
theorem satMul_spec (a b : Int) (a0 : -9223372036854775808 ≤ a) (a1 : a ≤ 9223372036854775807) (b0 : -9223372036854775808 ≤ b) (b1 : b ≤ 9223372036854775807) (w : World) :
    Calls Try.prog 33 #[.int .i64 a, .int .i64 b] w fun e w' => e = .returned (.int .i64 (satMulF a b)) ∧ w' = w := by
  have ha := heldF_bd a1
  have hb := heldF_bd b1
  by_cases za : heldF a = 0
  · have HZ : Hid (0 = satMulF a b) := by show _ = _; unfold satMulF cutF; rw [za]; simp
    go_enter Try.func33, Try.ntmps33
    go_wp2_with (go_at_call 39; refine (l1in_any _ (by omega) (by omega) _).mono ?_; rintro e w' ⟨rfl, rfl⟩)
    go_ret
    exact ⟨ret_int HZ.out, rfl⟩
  by_cases zb : heldF b = 0
  · have HZ : Hid (0 = satMulF a b) := by show _ = _; unfold satMulF cutF; rw [zb]; simp
    go_enter Try.func33, Try.ntmps33
    go_wp2_with (go_at_call 39; refine (l1in_any _ (by omega) (by omega) _).mono ?_; rintro e w' ⟨rfl, rfl⟩)
    go_ret
    exact ⟨ret_int HZ.out, rfl⟩
  have za' : (heldF a == 0) = false := by simpa using za
  have zb' : (heldF b == 0) = false := by simpa using zb
  have va := absF_bd a1
  have vb := absF_bd b1
  have vb1 : 1 ≤ absF (heldF b) := by unfold absF; omega
  have hq : (9223372036854775807 / absF (heldF b) < absF (heldF a)) = (9223372036854775807 < absF (heldF a) * absF (heldF b)) := quo_lt _ _ vb1
  have hp : 0 ≤ absF (heldF a) * absF (heldF b) := Int.mul_nonneg va.1 vb.1
  have hs := satMul_same a b
  have ho := satMul_other a b
  have ms := mul_same a b
  have mo := mul_other a b
  by_cases hm : 9223372036854775807 < absF (heldF a) * absF (heldF b)
  · have hq' : 9223372036854775807 / absF (heldF b) < absF (heldF a) := by rw [hq]; exact hm
    clear hq ms mo
    simp only [if_neg (show ¬ absF (heldF a) * absF (heldF b) ≤ 9223372036854775807 by omega)] at hs ho
    have HS : Hid _ := hs
    have HO : Hid _ := ho
    clear hs ho
    rcases sign_or' a with ⟨c, hc⟩ | ⟨c, hc⟩ <;> rcases sign_or' b with ⟨d, hd⟩ | ⟨d, hd⟩
    all_goals
      go_enter Try.func33, Try.ntmps33
      go_wp2_with (first | (go_at_call 39; refine (l1in_any _ (by omega) (by omega) _).mono ?_; rintro e w' ⟨rfl, rfl⟩) | (go_at_call 40; refine (l1abs_any _ (by omega) (by omega) _).mono ?_; rintro e w' ⟨rfl, rfl⟩))
      go_ret
      exact ⟨ret_int (by first | exact HS.out (by omega) (by omega) | exact HO.out (by omega) (by omega)), rfl⟩
  · have hq' : ¬ 9223372036854775807 / absF (heldF b) < absF (heldF a) := by rw [hq]; exact hm
    clear hq
    simp only [if_pos (show absF (heldF a) * absF (heldF b) ≤ 9223372036854775807 by omega)] at hs ho
    have hw : -9223372036854775807 ≤ heldF a * heldF b ∧ heldF a * heldF b ≤ 9223372036854775807 ∧ heldF a * heldF b = satMulF a b := by
      by_cases h : (a < 0 ↔ b < 0)
      · rw [ms h]; exact ⟨by omega, by omega, hs h hp⟩
      · rw [mo h]; exact ⟨by omega, by omega, ho h hp⟩
    obtain ⟨p0, p1, p2⟩ := hw
    have HS : Hid _ := p2
    clear hs ho ms mo p2
    go_enter Try.func33, Try.ntmps33
    go_wp2_with (first | (go_at_call 39; refine (l1in_any _ (by omega) (by omega) _).mono ?_; rintro e w' ⟨rfl, rfl⟩) | (go_at_call 40; refine (l1abs_any _ (by omega) (by omega) _).mono ?_; rintro e w' ⟨rfl, rfl⟩))
    go_ret
    exact ⟨ret_int HS.out, rfl⟩

end Go.Proofs.Ytboomccnfnaboac
