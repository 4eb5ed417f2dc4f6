/-
  PieUpdate OF THE SPECIFICATION.
-/
import Derived.Test.YtkeccjomnmpcoanDoorPieUpS
namespace Go.Proofs.YtkeccjomnmpcoanDoor
open Go.RowKit
set_option linter.unusedVariables false

set_option maxHeartbeats 2000000 in
theorem spieUpdate_any (r : Pe) (d : Int) (w : World) :
    Calls Tryd.prog 7 #[r.val, .int .i64 d] w fun e w' => e = .returned (.tuple #[(r.upd d).val, .bool (r.may d)]) ∧ Below w.heap.size w w' := by
  cases hg : r.good
  case false =>
    have HE : r.upd d = Pe.zero ∧ r.may d = false := by unfold Pe.upd Pe.may; simp [hg]
    rw [HE.1, HE.2]; clear HE
    go_enter Tryd.func7, Tryd.ntmps7
    go_wp2_with (go_at_call 13; refine (spieOk_ex r _).mono ?_; rintro e w1 ⟨rfl, rfl⟩; rw [hg])
    refine bodyPost_ret (v := .tuple #[Pe.zero.val, .bool false]) (by simp [results, Tryd.results7, go_sem, Pe.zero]) rfl ⟨by simp, by go_grown⟩
  case true =>
  have hi : (d < 0) ∨ (¬ d < 0 ∧ 10000000000 < d) ∨ (¬ d < 0 ∧ ¬ 10000000000 < d) := by omega
  rcases hi with h0 | ⟨h0, h1⟩ | ⟨h0, h1⟩
  case inl =>
    have HE : r.upd d = Pe.zero ∧ r.may d = false := by
      have : inB d 0 10000000000 = false := by unfold inB; simp; omega
      unfold Pe.upd Pe.may; simp [this]
    rw [HE.1, HE.2]; clear HE
    go_enter Tryd.func7, Tryd.ntmps7
    go_wp2_with (go_at_call 13; refine (spieOk_ex r _).mono ?_; rintro e w1 ⟨rfl, rfl⟩; rw [hg])
    refine bodyPost_ret (v := .tuple #[Pe.zero.val, .bool false]) (by simp [results, Tryd.results7, go_sem, Pe.zero]) rfl ⟨by simp, by go_grown⟩
  case inr.inl =>
    have HE : r.upd d = Pe.zero ∧ r.may d = false := by
      have : inB d 0 10000000000 = false := by unfold inB; simp; omega
      unfold Pe.upd Pe.may; simp [this]
    rw [HE.1, HE.2]; clear HE
    go_enter Tryd.func7, Tryd.ntmps7
    go_wp2_with (go_at_call 13; refine (spieOk_ex r _).mono ?_; rintro e w1 ⟨rfl, rfl⟩; rw [hg])
    refine bodyPost_ret (v := .tuple #[Pe.zero.val, .bool false]) (by simp [results, Tryd.results7, go_sem, Pe.zero]) rfl ⟨by simp, by go_grown⟩
  case inr.inr =>
    have HE : r.upd d = r.next d ∧ r.may d = true := by
      have : inB d 0 10000000000 = true := by unfold inB; simp; omega
      unfold Pe.upd Pe.may; simp [this, hg]
    rw [HE.1, HE.2]; clear HE
    have HG : Hid (r.good = true) := hg
    obtain ⟨Nx, hN⟩ : ∃ N, r.next d = N := ⟨_, rfl⟩
    rw [hN]
    have HNx : Hid (r.next d = Nx) := hN
    clear hN
    have HW : Hid (∀ W, W = ((w.alloc (.cells (peCells r) 26)).alloc (.cells (peCells Pe.zero) 26)).alloc (.cells (peCells r) 26) → Sits W w.heap.size (peCells r) 26 ∧ Sits W (w.heap.size + 1) (peCells Pe.zero) 26 ∧ Below w.heap.size w W) := by
      rintro W rfl
      refine ⟨((Sits.new _ _ _).alloc _).alloc _, ?_, by go_grown⟩
      have h := (Sits.new (w.alloc (.cells (peCells r) 26)) (peCells Pe.zero) 26).alloc (.cells (peCells r) 26)
      simp only [World.size_alloc] at h
      exact h
    go_enter Tryd.func7, Tryd.ntmps7
    go_wp2_with (first | (go_at_call 13; refine (spieOk_ex r _).mono ?_; rintro e w1 ⟨rfl, rfl⟩; rw [hg]) | (go_at_call 14; refine (l6update_any w.heap.size r d 26 _ (HW.out _ rfl).1 HG.out (by omega) (by omega)).mono ?_; rintro e w2 ⟨rfl, s2, o2⟩; rw [HNx.out] at s2; obtain ⟨_, z0, bb⟩ := HW.out _ rfl; have z2 := z0.only o2 (by omega); have b2 := bb.trans (o2.below (Nat.le_refl _) bb.size); clear z0 bb o2; obtain ⟨q0, q1, q2, q3⟩ := pe_cells s2; have fz := z2.frozen; obtain ⟨y0, y1, y2, y3⟩ := pe_cells z2; have pl := z2.lt; have Z2 : Hid (Sits w2 (w.heap.size + 1) (peCells Pe.zero) 26) := z2; clear s2 z2; dsimp only [Pe.zero] at y0 y1 y2 y3))
    refine bodyPost_ret (ret_pb (q := Nx) (b := true) (t := 26) (B := w.heap.size + 1) Tryd.results7 rfl rfl ?_) rfl ⟨rfl, ?_⟩
    · exact ((((Sits.set Z2.out 0 _).set 1 _).set 2 _).set 3 _)
    · exact ((((b2.setCell (by simp) _).setCell (by simp) _).setCell (by simp) _).setCell (by simp) _)

end Go.Proofs.YtkeccjomnmpcoanDoor
