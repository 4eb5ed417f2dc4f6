/-
  RED's CHANCE: RedProb OF BOTH SIDES; the program's plain chance stands behind a sync.Once.
-/
import Derived.Test.YtboomccnfnaboacRed3
import Derived.Test.YtboomccnfnaboacSatMul
namespace Go.Proofs.Ytboomccnfnaboac
open Go.RowKit
set_option linter.unusedVariables false

/-- The quotient, the plain chance, the rest, the chance between both thresholds, the chance. -/
def quoF (r : Rd) : Int := (r.avg - r.mn * 65536) / (r.mx - r.mn)
def plainF (r : Rd) : Int := quoF r * r.mp / 65536
def restF (r : Rd) : Int := 65536 - satMulF r.cnt (plainF r)
def grownF (r : Rd) : Int := if restF r ≤ plainF r then 65536 else plainF r * 65536 / restF r
def probF (r : Rd) : Int := if r.good then (if r.avg < r.mn * 65536 then 0 else if r.mx * 65536 ≤ r.avg then 65536 else grownF r) else 0
/-- Between both thresholds. -/
def Rd.mid (r : Rd) : Prop := r.good = true ∧ ¬ r.avg < r.mn * 65536 ∧ ¬ r.mx * 65536 ≤ r.avg
theorem quoF_bd {r : Rd} (h : r.mid) : 0 ≤ quoF r ∧ quoF r ≤ 65535 := by
  obtain ⟨hg, h1, h2⟩ := h
  obtain ⟨g1, g2, g3, g4, g5, g6, g7, g8, g9⟩ := r.good_iff.1 hg
  unfold quoF
  refine ⟨Int.ediv_nonneg (by omega) (by omega), ?_⟩
  have : (r.avg - r.mn * 65536) / (r.mx - r.mn) < 65536 := Int.ediv_lt_of_lt_mul (by omega) (by omega)
  omega
theorem prod_bd {r : Rd} (h : r.mid) : 0 ≤ quoF r * r.mp ∧ quoF r * r.mp ≤ 4294901760 := by
  obtain ⟨q0, q1⟩ := quoF_bd h
  obtain ⟨g1, g2, g3, g4, g5, g6, g7, g8, g9⟩ := r.good_iff.1 h.1
  refine ⟨Int.mul_nonneg q0 (by omega), ?_⟩
  have := Int.mul_le_mul q1 g5 (by omega) (by omega)
  omega
theorem plainF_bd {r : Rd} (h : r.mid) : 0 ≤ plainF r ∧ plainF r ≤ 65535 := by
  have := prod_bd h
  unfold plainF; omega
theorem satMul_mid {r : Rd} (h : r.mid) : satMulF r.cnt (plainF r) = r.cnt * plainF r ∧ 0 ≤ r.cnt * plainF r ∧ r.cnt * plainF r ≤ 65535000000 := by
  obtain ⟨p0, p1⟩ := plainF_bd h
  obtain ⟨g1, g2, g3, g4, g5, g6, g7, g8, g9⟩ := r.good_iff.1 h.1
  have h0 : 0 ≤ r.cnt * plainF r := Int.mul_nonneg g8 p0
  have h1 := Int.mul_le_mul g9 p1 p0 (by omega)
  refine ⟨?_, h0, by omega⟩
  unfold satMulF cutF
  rw [heldF_hi (by omega), heldF_hi (by omega)]
  omega
theorem restF_bd {r : Rd} (h : r.mid) : -65535000000 ≤ restF r ∧ restF r ≤ 65536 := by
  obtain ⟨e, h0, h1⟩ := satMul_mid h
  unfold restF; rw [e]; omega

set_option maxHeartbeats 1000000 in
theorem l4prob_mid (r : Rd) (h : r.mid) (w : World) :
    Calls Try.prog 28 #[r.val] w fun e w' => e = .returned (.int .i64 (grownF r)) ∧ Below w.heap.size w w' := by
  obtain ⟨q0, q1⟩ := quoF_bd h
  obtain ⟨m0, m1⟩ := prod_bd h
  obtain ⟨p0, p1⟩ := plainF_bd h
  obtain ⟨r0, r1⟩ := restF_bd h
  obtain ⟨hg, h1, h2⟩ := h
  obtain ⟨g1, g2, g3, g4, g5, g6, g7, g8, g9⟩ := r.good_iff.1 hg
  have s0 := satMulF_bd r.cnt (plainF r)
  have hq : (r.avg - r.mn * 65536) / (r.mx - r.mn) = quoF r := rfl
  have hp : quoF r * r.mp / 65536 = plainF r := rfl
  have hr : 65536 - satMulF r.cnt (plainF r) = restF r := rfl
  have n0 : ¬ r.mx - r.mn = 0 := by omega
  have n1 : 0 ≤ r.avg - r.mn * 65536 := by omega
  have n2 : 0 ≤ r.mx - r.mn := by omega
  by_cases hc : restF r ≤ plainF r
  · have HE : Hid (grownF r = 65536) := by show _ = _; unfold grownF; rw [if_pos hc]
    go_enter Try.func28, Try.ntmps28
    go_wp2
    go_region
    go_wp2_with (go_at_call 33; refine (satMul_spec _ _ (by omega) (by omega) (by omega) (by omega) _).mono ?_; rintro e w' ⟨rfl, rfl⟩)
    go_ret
    exact ⟨ret_int HE.out.symm, by go_grown⟩
  · have HE : Hid (grownF r = plainF r * 65536 / restF r) := by show _ = _; unfold grownF; rw [if_neg hc]
    have n3 : ¬ restF r = 0 := by omega
    have n4 : 0 ≤ restF r := by omega
    go_enter Try.func28, Try.ntmps28
    go_wp2
    go_region
    go_wp2_with (go_at_call 33; refine (satMul_spec _ _ (by omega) (by omega) (by omega) (by omega) _).mono ?_; rintro e w' ⟨rfl, rfl⟩)
    go_ret
    exact ⟨ret_int HE.out.symm, by go_grown⟩

/-- The chance of one that is well. -/
def chanceF (r : Rd) : Int := if r.avg < r.mn * 65536 then 0 else if r.mx * 65536 ≤ r.avg then 65536 else grownF r
theorem chanceF_bd {r : Rd} (hg : r.good = true) : 0 ≤ chanceF r ∧ chanceF r ≤ 65536 := by
  unfold chanceF
  split
  · omega
  · split
    · omega
    · have hm : r.mid := ⟨hg, by assumption, by assumption⟩
      obtain ⟨p0, p1⟩ := plainF_bd hm
      unfold grownF
      split
      · omega
      · have hr : 0 < restF r := by omega
        refine ⟨Int.ediv_nonneg (by omega) (by omega), ?_⟩
        have : plainF r * 65536 / restF r < 65536 + 1 := Int.ediv_lt_of_lt_mul hr (by
          have := Int.mul_le_mul_of_nonneg_left (show plainF r ≤ restF r by omega) (show (0 : Int) ≤ 65536 by omega)
          rw [Int.add_mul]; omega)
        omega

theorem l4prob_any (r : Rd) (hg : r.good = true) (w : World) :
    Calls Try.prog 28 #[r.val] w fun e w' => e = .returned (.int .i64 (chanceF r)) ∧ Below w.heap.size w w' := by
  obtain ⟨g1, g2, g3, g4, g5, g6, g7, g8, g9⟩ := r.good_iff.1 hg
  by_cases h1 : r.avg < r.mn * 65536
  · have HE : Hid (chanceF r = 0) := by show _ = _; unfold chanceF; rw [if_pos h1]
    go_enter Try.func28, Try.ntmps28
    go_wp2
    go_ret
    exact ⟨ret_int HE.out.symm, by go_grown⟩
  by_cases h2 : r.mx * 65536 ≤ r.avg
  · have HE : Hid (chanceF r = 65536) := by show _ = _; unfold chanceF; rw [if_neg h1, if_pos h2]
    go_enter Try.func28, Try.ntmps28
    go_wp2
    go_ret
    exact ⟨ret_int HE.out.symm, by go_grown⟩
  · refine (l4prob_mid r ⟨hg, h1, h2⟩ w).mono ?_
    rintro e w' ⟨rfl, hb⟩
    exact ⟨ret_int (by unfold chanceF; rw [if_neg h1, if_neg h2]), hb⟩

end Go.Proofs.Ytboomccnfnaboac
