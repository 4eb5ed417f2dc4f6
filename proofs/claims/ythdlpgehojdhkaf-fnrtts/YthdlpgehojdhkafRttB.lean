/-
  RttOk, RttNew OF BOTH SIDES.
-/
import Derived.Test.YthdlpgehojdhkafRtt
namespace Go.Proofs.Ythdlpgehojdhkaf
open Go.RowKit
set_option linter.unusedVariables false

theorem rt_good_eq (r : Rt) : r.good = ((r.hs || (decide (r.mn = 0) && decide (r.vr = 0))) && (inB r.mn 0 60000000) && (inB r.vr 0 60000000) && (inB r.ro 1000000 60000000)) := by
  rw [Bool.eq_iff_iff, Rt.good_iff]
  cases h : r.hs <;> simp [inB] <;> omega

set_option maxRecDepth 20000 in
set_option maxHeartbeats 2000000 in
theorem irttOk_ex (r : Rt) (w : World) :
    Calls Try.prog 7 #[r.val] w fun e w' => e = .returned (.bool r.good) ∧ w' = w.alloc (.cells (rtCells r) 24) := by
  obtain ⟨G, hG⟩ : ∃ G, r.good = G := ⟨_, rfl⟩
  have HG : Hid (r.good = G) := hG
  rw [hG]
  clear hG
  obtain ⟨hs, mn, vr, ro⟩ := r
  cases hs
  all_goals
    go_enter Try.func7, Try.ntmps7
    go_wp2_with (go_at_call 13; refine (within_any _ _ _ _).mono ?_; rintro e w' ⟨rfl, rfl⟩)
    all_goals
      go_ret
      refine ⟨ret_bool ?_, by first | rfl | (simp_all; done)⟩
      rw [← HG.out, Bool.eq_iff_iff, Rt.good_iff]
      clear HG
      simp_all [inB]
      try omega

theorem irttOk_any (r : Rt) (w : World) :
    Calls Try.prog 7 #[r.val] w fun e w' => e = .returned (.bool r.good) ∧ Below w.heap.size w w' := by
  refine (irttOk_ex r w).mono ?_
  rintro e w' ⟨rfl, rfl⟩
  exact ⟨rfl, (Below.refl _ _).alloc (Nat.le_refl _) _⟩

theorem irttNew_any (w : World) :
    Calls Try.prog 6 #[] w fun e w' => e = .returned (Rt.mk false 0 0 1000000).val ∧ Below w.heap.size w w' := by
  go_enter Try.func6, Try.ntmps6
  go_wp2
  exact bodyPost_ret (v := (Rt.mk false 0 0 1000000).val) (by simp [results, Try.results6, go_sem]) rfl ⟨rfl, by go_grown⟩

theorem srttNew_any (w : World) :
    Calls Try.prog 19 #[] w fun e w' => e = .returned (Rt.mk false 0 0 1000000).val ∧ Below w.heap.size w w' := by
  go_enter Try.func19, Try.ntmps19
  go_wp2
  exact bodyPost_ret (v := (Rt.mk false 0 0 1000000).val) (by simp [results, Try.results19, go_sem]) rfl ⟨rfl, by go_grown⟩

end Go.Proofs.Ythdlpgehojdhkaf
