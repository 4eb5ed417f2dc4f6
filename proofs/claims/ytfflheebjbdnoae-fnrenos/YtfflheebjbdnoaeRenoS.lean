/-
  RenoOk OF THE SPECIFICATION.
-/
import Derived.Test.YtfflheebjbdnoaeReno
namespace Go.Proofs.Ytfflheebjbdnoae
open Go.RowKit
set_option linter.unusedVariables false

set_option maxRecDepth 20000 in
set_option maxHeartbeats 4000000 in
theorem srenoOk_ex (r : Rn) (w : World) :
    Calls Try.prog 10 #[r.val] w fun e w' => e = .returned (.bool r.good) ∧ w' = w.alloc (.cells (rnCells r) 24) := by
  obtain ⟨mss, cw, th, ac, una, nx, du, rc, inn, cut⟩ := r
  have HG : Hid ((Rn.mk mss cw th ac una nx du rc inn cut).good = decide (1 ≤ mss ∧ mss ≤ 10000 ∧ mss ≤ cw ∧ cw ≤ 100000000 ∧ 2 * mss ≤ th ∧ th ≤ 100000000 ∧ 0 ≤ ac ∧ ac ≤ 100000000 ∧ 0 ≤ una ∧ una ≤ nx ∧ nx ≤ 1000000000000 ∧ 0 ≤ du ∧ du ≤ 1000000 ∧ 0 ≤ rc ∧ rc ≤ nx ∧ 0 ≤ cut ∧ cut ≤ nx ∧ (inn = true → una < rc))) := rfl
  obtain ⟨G, hG⟩ : ∃ G, (Rn.mk mss cw th ac una nx du rc inn cut).good = G := ⟨_, rfl⟩
  rw [hG] at HG ⊢
  clear hG
  cases inn
  all_goals
    go_enter Try.func10, Try.ntmps10
    simp only [List.append_eq, List.cons_append, List.nil_append]
    go_wp2
    all_goals
      go_ret
      refine ⟨ret_bool ?_, rfl⟩
      rw [HG.out, Bool.eq_iff_iff]
      clear HG
      simp
      try omega

theorem srenoOk_any (r : Rn) (w : World) :
    Calls Try.prog 10 #[r.val] w fun e w' => e = .returned (.bool r.good) ∧ Below w.heap.size w w' := by
  refine (srenoOk_ex r w).mono ?_
  rintro e w' ⟨rfl, rfl⟩
  exact ⟨rfl, (Below.refl _ _).alloc (Nat.le_refl _) _⟩

end Go.Proofs.Ytfflheebjbdnoae
