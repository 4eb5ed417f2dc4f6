/-
  WHEN THE NEXT ONE IS HIT: the interval by the root of how many were: Control OF BOTH SIDES.
-/
import Derived.Test.YtlhiadehohikdaaRoots
import Derived.Test.YtlhiadehohikdaaPk
namespace Go.Proofs.Ytlhiadehohikdaa
open Go.RowKit
set_option linter.unusedVariables false

theorem invF_bd (n : Int) (h : 1 ≤ n) : 0 ≤ invF n ∧ invF n ≤ 65536 := by
  unfold invF
  by_cases h2 : n < 1 ∨ 4294967296 < n
  · rw [if_pos h2]; omega
  rw [if_neg h2]
  have q0 : 0 ≤ 4294967296 / n := Int.ediv_nonneg (by omega) (by omega)
  have q1 : 4294967296 / n ≤ 4294967296 := Int.ediv_le_self n (by omega)
  obtain ⟨r0, r1, r2⟩ := root2F_is q0
  refine ⟨r0, ?_⟩
  rcases (show root2F (4294967296 / n) ≤ 65536 ∨ 65537 ≤ root2F (4294967296 / n) by omega) with h | h
  · exact h
  · have := Int.mul_le_mul h h (by omega) r0; omega

theorem invF_anti (n : Int) (h : 1 ≤ n) : invF (n + 1) ≤ invF n := by
  by_cases h2 : 4294967296 < n + 1
  · have : invF (n + 1) = 0 := by unfold invF; rw [if_pos (by omega)]
    rw [this]; exact (invF_bd n h).1
  have e1 : invF (n + 1) = root2F (4294967296 / (n + 1)) := by unfold invF; rw [if_neg (by omega)]
  have e2 : invF n = root2F (4294967296 / n) := by unfold invF; rw [if_neg (by omega)]
  rw [e1, e2]
  have q0 : 0 ≤ 4294967296 / n := Int.ediv_nonneg (by omega) (by omega)
  have q1 : 0 ≤ 4294967296 / (n + 1) := Int.ediv_nonneg (by omega) (by omega)
  have q2 : 4294967296 / (n + 1) ≤ 4294967296 / n := by
    have a1 : (n + 1) * (4294967296 / (n + 1)) ≤ 4294967296 := by have := Int.mul_ediv_add_emod 4294967296 (n + 1); have := Int.emod_nonneg 4294967296 (show n + 1 ≠ 0 by omega); omega
    refine (Int.le_ediv_iff_mul_le (by omega)).2 ?_
    have a2 : (n + 1) * (4294967296 / (n + 1)) = n * (4294967296 / (n + 1)) + 4294967296 / (n + 1) := by rw [Int.add_mul, Int.one_mul]
    rw [Int.mul_comm]
    omega
  obtain ⟨r0, r1, r2⟩ := root2F_is q0
  obtain ⟨s0, s1, s2⟩ := root2F_is q1
  rcases (show root2F (4294967296 / (n + 1)) ≤ root2F (4294967296 / n) ∨ root2F (4294967296 / n) + 1 ≤ root2F (4294967296 / (n + 1)) by omega) with h | h
  · exact h
  · have := Int.mul_le_mul h h (by omega) s0; omega

theorem invF_1 : invF 1 = 65536 := by
  unfold invF
  rw [if_neg (by decide)]
  exact (root2F_only (by decide) (by decide) (by decide)).symm
theorem invF_4 : invF 4 = 32768 := by
  unfold invF
  rw [if_neg (by decide)]
  exact (root2F_only (by decide) (by decide) (by decide)).symm

/-- When the next one is hit. -/
def nextF (t iv n : Int) : Int := t + iv * invF (max n 1) / 65536
/-- What Control answers. -/
def conF (t iv n : Int) : Int := if inB t 0 1000000000000 && (inB iv 1 1000000000 && inB n 0 1073741824) then nextF t iv n else 0
theorem mul_inv_bd {iv v : Int} (h0 : 1 ≤ iv) (h1 : iv ≤ 1000000000) (v0 : 0 ≤ v) (v1 : v ≤ 65536) : 0 ≤ iv * v ∧ iv * v ≤ 65536000000000 := by
  have a := Int.mul_nonneg (show 0 ≤ iv by omega) v0
  have b := Int.mul_le_mul h1 v1 v0 (by omega : (0 : Int) ≤ 1000000000)
  omega

theorem nextF_bd {t iv n : Int} (h0 : 1 ≤ iv) (h1 : iv ≤ 1000000000) : t ≤ nextF t iv n ∧ nextF t iv n ≤ t + iv := by
  obtain ⟨v0, v1⟩ := invF_bd (max n 1) (by omega)
  have a := Int.mul_nonneg (show 0 ≤ iv by omega) v0
  have b := Int.mul_le_mul_of_nonneg_left v1 (show 0 ≤ iv by omega)
  unfold nextF
  omega

theorem nextF_anti {t iv n : Int} (h0 : 1 ≤ iv) : nextF t iv (n + 1) ≤ nextF t iv n := by
  unfold nextF
  have h : invF (max (n + 1) 1) ≤ invF (max n 1) := by
    rcases (show n ≤ 0 ∨ 1 ≤ n by omega) with h | h
    · rw [show max (n + 1) 1 = 1 by omega, show max n 1 = 1 by omega]; exact Int.le_refl _
    · rw [show max (n + 1) 1 = n + 1 by omega, show max n 1 = n by omega]; exact invF_anti n h
  have := Int.mul_le_mul_of_nonneg_left h (show 0 ≤ iv by omega)
  omega

set_option maxHeartbeats 1000000 in
theorem icontrol_any (t iv n : Int) (w : World) :
    Calls Try.prog 56 #[.int .i64 t, .int .i64 iv, .int .i64 n] w fun e w' => e = .returned (.int .i64 (conF t iv n)) ∧ Kept w w' := by
  cases h1 : inB t 0 1000000000000
  case false =>
    have HE : Hid (0 = conF t iv n) := by show _ = _; unfold conF; rw [h1]; rfl
    go_enter Try.func56, Try.ntmps56
    go_wp2_with (go_at_call 34; refine (within_any _ _ _ _).mono ?_; rintro e w' ⟨rfl, rfl⟩)
    go_ret
    exact ⟨ret_int HE.out, Kept.refl _⟩
  case true =>
  cases h2 : inB iv 1 1000000000
  case false =>
    have HE : Hid (0 = conF t iv n) := by show _ = _; unfold conF; rw [h1, h2]; rfl
    go_enter Try.func56, Try.ntmps56
    go_wp2_with (go_at_call 34; refine (within_any _ _ _ _).mono ?_; rintro e w' ⟨rfl, rfl⟩)
    go_ret
    exact ⟨ret_int HE.out, Kept.refl _⟩
  case true =>
  cases h3 : inB n 0 1073741824
  case false =>
    have HE : Hid (0 = conF t iv n) := by show _ = _; unfold conF; rw [h1, h2, h3]; rfl
    go_enter Try.func56, Try.ntmps56
    go_wp2_with (go_at_call 34; refine (within_any _ _ _ _).mono ?_; rintro e w' ⟨rfl, rfl⟩)
    go_ret
    exact ⟨ret_int HE.out, Kept.refl _⟩
  case true =>
    obtain ⟨t0, t1⟩ : 0 ≤ t ∧ t ≤ 1000000000000 := by simpa [inB] using h1
    obtain ⟨i0, i1⟩ : 1 ≤ iv ∧ iv ≤ 1000000000 := by simpa [inB] using h2
    obtain ⟨n0, n1⟩ : 0 ≤ n ∧ n ≤ 1073741824 := by simpa [inB] using h3
    obtain ⟨v, hv⟩ : ∃ v, invF (max n 1) = v := ⟨_, rfl⟩
    have HE : Hid (t + iv * v / 65536 = conF t iv n) := by show _ = _; unfold conF nextF; rw [h1, h2, h3, hv]; rfl
    obtain ⟨v0, v1⟩ : 0 ≤ v ∧ v ≤ 65536 := by rw [← hv]; exact invF_bd _ (by omega)
    obtain ⟨m0, m1⟩ := mul_inv_bd i0 i1 v0 v1
    have HV : Hid (invF (if n < 1 then 1 else n) = v) := by show _ = _; rw [← hv]; congr 1; split <;> omega
    clear hv
    go_enter Try.func56, Try.ntmps56
    go_wp2_with (first | (go_at_call 34; refine (within_any _ _ _ _).mono ?_; rintro e w' ⟨rfl, rfl⟩) | (go_at_call 57; refine (inv_impl _ (by omega) (by omega) _).mono ?_; rintro e w' ⟨rfl, hk⟩; rw [HV.out]))
    all_goals
      go_ret
      exact ⟨ret_int HE.out, hk⟩

set_option maxHeartbeats 1000000 in
theorem l5control_any (t iv n : Int) (t0 : 0 ≤ t) (t1 : t ≤ 1000000000000) (i0 : 1 ≤ iv) (i1 : iv ≤ 1000000000) (n0 : 0 ≤ n) (n1 : n ≤ 1073741824) (w : World) :
    Calls Try.prog 30 #[.int .i64 t, .int .i64 iv, .int .i64 n] w fun e w' => e = .returned (.int .i64 (nextF t iv n)) ∧ w' = w := by
  obtain ⟨v, hv⟩ : ∃ v, invF (max n 1) = v := ⟨_, rfl⟩
  have HE : Hid (t + iv * v / 65536 = nextF t iv n) := by show _ = _; unfold nextF; rw [hv]
  obtain ⟨v0, v1⟩ : 0 ≤ v ∧ v ≤ 65536 := by rw [← hv]; exact invF_bd _ (by omega)
  obtain ⟨m0, m1⟩ := mul_inv_bd i0 i1 v0 v1
  by_cases h : n < 1
  · have HV : Hid (invF 1 = v) := by show _ = _; rw [← hv]; congr 1; omega
    clear hv
    go_enter Try.func30, Try.ntmps30
    go_wp2_with (go_at_call 39; refine (inv_spec _ (by omega) (by omega) _).mono ?_; rintro e w' ⟨rfl, rfl⟩; rw [HV.out])
    go_ret
    exact ⟨ret_int HE.out, rfl⟩
  · have HV : Hid (invF n = v) := by show _ = _; rw [← hv]; congr 1; omega
    clear hv
    have h' : decide (n < 1) = false := by simpa using h
    go_enter Try.func30, Try.ntmps30
    go_wp2_with (go_at_call 39; refine (inv_spec _ (by omega) (by omega) _).mono ?_; rintro e w' ⟨rfl, rfl⟩; rw [HV.out])
    go_ret
    exact ⟨ret_int HE.out, rfl⟩

end Go.Proofs.Ytlhiadehohikdaa
