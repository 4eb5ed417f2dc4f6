/-
  RenoOk OF THE PROGRAM.
-/
import Derived.Test.YtfflheebjbdnoaeReno
namespace Go.Proofs.Ytfflheebjbdnoae
open Go.RowKit
set_option linter.unusedVariables false

set_option maxRecDepth 20000 in
set_option maxHeartbeats 4000000 in
theorem irenoOk_ex (r : Rn) (w : World) :
    Calls Try.prog 12 #[r.val] w fun e w' => e = .returned (.bool r.good) ∧ w' = w.alloc (.cells (rnCells r) 24) := by
  have hg := rn_good_eq r
  obtain ⟨G, hG⟩ : ∃ G, r.good = G := ⟨_, rfl⟩
  rw [hG] at hg ⊢
  clear hG
  obtain ⟨mss, cw, th, ac, una, nx, du, rc, inn, cut⟩ := r
  dsimp only at hg
  cases b1 : inB mss 1 10000
  case false =>
    rw [b1] at hg
    simp only [Bool.false_and] at hg
    subst hg
    go_enter Try.func12, Try.ntmps12
    simp only [List.append_eq, List.cons_append, List.nil_append]
    go_wp2_with (go_at_call 28; refine (within_any _ _ _ _).mono ?_; rintro e w' ⟨rfl, rfl⟩)
    all_goals
      go_ret
      exact ⟨rfl, rfl⟩
  case true =>
    have m1 : 1 ≤ mss ∧ mss ≤ 10000 := by simpa [inB] using b1
    obtain ⟨m1, m2⟩ := m1
    obtain ⟨b2, e2⟩ : ∃ b, inB cw mss 100000000 = b := ⟨_, rfl⟩
    rw [e2] at hg
    obtain ⟨b3, e3⟩ : ∃ b, inB th (2 * mss) 100000000 = b := ⟨_, rfl⟩
    rw [e3] at hg
    obtain ⟨b4, e4⟩ : ∃ b, inB ac 0 100000000 = b := ⟨_, rfl⟩
    rw [e4] at hg
    obtain ⟨b5, e5⟩ : ∃ b, inB una 0 nx = b := ⟨_, rfl⟩
    rw [e5] at hg
    obtain ⟨b6, e6⟩ : ∃ b, decide (nx ≤ 1000000000000) = b := ⟨_, rfl⟩
    rw [e6] at hg
    obtain ⟨b7, e7⟩ : ∃ b, inB du 0 1000000 = b := ⟨_, rfl⟩
    rw [e7] at hg
    obtain ⟨b8, e8⟩ : ∃ b, inB rc 0 nx = b := ⟨_, rfl⟩
    rw [e8] at hg
    obtain ⟨b9, e9⟩ : ∃ b, inB cut 0 nx = b := ⟨_, rfl⟩
    rw [e9] at hg
    have HG : Hid _ := hg
    clear hg
    cases inn
    all_goals
      go_enter Try.func12, Try.ntmps12
      simp only [List.append_eq, List.cons_append, List.nil_append]
      go_wp2_with (go_at_call 28; refine (within_any _ _ _ _).mono ?_; rintro e w' ⟨rfl, rfl⟩)
      all_goals
        go_ret
        refine ⟨ret_bool ?_, rfl⟩
        rw [HG.out]
        clear HG
        simp_all

theorem irenoOk_any (r : Rn) (w : World) :
    Calls Try.prog 12 #[r.val] w fun e w' => e = .returned (.bool r.good) ∧ Below w.heap.size w w' := by
  refine (irenoOk_ex r w).mono ?_
  rintro e w' ⟨rfl, rfl⟩
  exact ⟨rfl, (Below.refl _ _).alloc (Nat.le_refl _) _⟩

end Go.Proofs.Ytfflheebjbdnoae
