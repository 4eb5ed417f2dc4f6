/-
  CubicOk OF BOTH SIDES.
-/
import Derived.Test.YtfflheebjbdnoafDoorCubic
namespace Go.Proofs.YtfflheebjbdnoafDoor
open Go.RowKit
set_option linter.unusedVariables false

theorem cb_good_eq (r : Cb) : r.good = ((inB r.wn 1 1048576) && (inB r.mx 0 1048576) && (inB r.kk 0 200000) && (inB r.st 0 1048576000) && (inB r.th 2 1048576)) := by
  rw [Bool.eq_iff_iff, Cb.good_iff]
  simp [inB]; omega

set_option maxRecDepth 20000 in
set_option maxHeartbeats 2000000 in
theorem icubicOk_ex (r : Cb) (w : World) :
    Calls Tryd.prog 8 #[r.val] w fun e w' => e = .returned (.bool r.good) ∧ w' = w.alloc (.cells (cbCells r) 24) := by
  have hg := cb_good_eq r
  obtain ⟨G, hG⟩ : ∃ G, r.good = G := ⟨_, rfl⟩
  rw [hG] at hg ⊢
  clear hG
  obtain ⟨wn, mx, kk, st, th, bg⟩ := r
  dsimp only at hg
  obtain ⟨b0, e0⟩ : ∃ b, inB wn 1 1048576 = b := ⟨_, rfl⟩
  rw [e0] at hg
  obtain ⟨b1, e1⟩ : ∃ b, inB mx 0 1048576 = b := ⟨_, rfl⟩
  rw [e1] at hg
  obtain ⟨b2, e2⟩ : ∃ b, inB kk 0 200000 = b := ⟨_, rfl⟩
  rw [e2] at hg
  obtain ⟨b3, e3⟩ : ∃ b, inB st 0 1048576000 = b := ⟨_, rfl⟩
  rw [e3] at hg
  obtain ⟨b4, e4⟩ : ∃ b, inB th 2 1048576 = b := ⟨_, rfl⟩
  rw [e4] at hg
  have HG : Hid _ := hg
  clear hg
  go_enter Tryd.func8, Tryd.ntmps8
  go_wp2_with (go_at_call 19; refine (within_any _ _ _ _).mono ?_; rintro e w' ⟨rfl, rfl⟩)
  all_goals
    go_ret
    refine ⟨ret_bool ?_, rfl⟩
    rw [HG.out]
    clear HG
    simp_all

theorem icubicOk_any (r : Cb) (w : World) :
    Calls Tryd.prog 8 #[r.val] w fun e w' => e = .returned (.bool r.good) ∧ Below w.heap.size w w' := by
  refine (icubicOk_ex r w).mono ?_
  rintro e w' ⟨rfl, rfl⟩
  exact ⟨rfl, (Below.refl _ _).alloc (Nat.le_refl _) _⟩

set_option maxRecDepth 20000 in
set_option maxHeartbeats 4000000 in
theorem scubicOk_ex (r : Cb) (w : World) :
    Calls Tryd.prog 32 #[r.val] w fun e w' => e = .returned (.bool r.good) ∧ w' = w.alloc (.cells (cbCells r) 24) := by
  obtain ⟨wn, mx, kk, st, th, bg⟩ := r
  have HG : Hid ((Cb.mk wn mx kk st th bg).good = decide (1 ≤ wn ∧ wn ≤ 1048576 ∧ 0 ≤ mx ∧ mx ≤ 1048576 ∧ 0 ≤ kk ∧ kk ≤ 200000 ∧ 0 ≤ st ∧ st ≤ 1048576000 ∧ 2 ≤ th ∧ th ≤ 1048576)) := rfl
  obtain ⟨G, hG⟩ : ∃ G, (Cb.mk wn mx kk st th bg).good = G := ⟨_, rfl⟩
  rw [hG] at HG ⊢
  clear hG
  go_enter Tryd.func32, Tryd.ntmps32
  go_wp2
  all_goals
    go_ret
    refine ⟨ret_bool ?_, rfl⟩
    rw [HG.out, Bool.eq_iff_iff]
    clear HG
    simp
    try omega

theorem scubicOk_any (r : Cb) (w : World) :
    Calls Tryd.prog 32 #[r.val] w fun e w' => e = .returned (.bool r.good) ∧ Below w.heap.size w w' := by
  refine (scubicOk_ex r w).mono ?_
  rintro e w' ⟨rfl, rfl⟩
  exact ⟨rfl, (Below.refl _ _).alloc (Nat.le_refl _) _⟩

end Go.Proofs.YtfflheebjbdnoafDoor
