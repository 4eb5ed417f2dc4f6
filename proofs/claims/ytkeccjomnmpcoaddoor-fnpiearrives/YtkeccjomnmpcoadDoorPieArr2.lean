/-
  WHO COMES TO PIE: PieArrive OF BOTH SIDES, whole.
-/
import Derived.Test.YtkeccjomnmpcoadDoorPieArr
namespace Go.Proofs.YtkeccjomnmpcoadDoor
open Go.RowKit
set_option linter.unusedVariables false

theorem fit_cases (r : Pe) (a n e : Int) : (r.fit a n e = false ∧ (r.good = false ∨ (r.good = true ∧ inB a 0 2147483647 = false) ∨ (r.good = true ∧ inB a 0 2147483647 = true ∧ n < 0) ∨ (r.good = true ∧ inB a 0 2147483647 = true ∧ ¬ n < 0 ∧ inB e 0 3 = false))) ∨ (r.fit a n e = true ∧ r.good = true ∧ inB a 0 2147483647 = true ∧ ¬ n < 0 ∧ inB e 0 3 = true) := by
  unfold Pe.fit
  cases h1 : r.good <;> cases h2 : inB a 0 2147483647 <;> cases h3 : inB e 0 3 <;> by_cases h4 : n < 0 <;> simp [h4] <;> omega

set_option maxHeartbeats 2000000 in
theorem ipieArrive_any (r : Pe) (a n e : Int) (w : World) :
    Calls Tryd.prog 5 #[r.val, .int .i64 a, .int .i64 n, .int .i64 e] w fun o w' => o = .returned (.int .i64 (arrF r a n e)) ∧ Below w.heap.size w w' := by
  rcases fit_cases r a n e with ⟨hf, hc⟩ | ⟨hf, hg, h1, h2, h3⟩
  case inl =>
    have HE : Hid (arrF r a n e = -1) := by show _ = _; unfold arrF; rw [hf]; rfl
    clear hf
    rcases hc with hg | ⟨hg, h1⟩ | ⟨hg, h1, h2⟩ | ⟨hg, h1, h2, h3⟩
    · go_enter Tryd.func5, Tryd.ntmps5
      go_wp2_with (go_at_call 12; refine (ipieOk_ex r _).mono ?_; rintro o w1 ⟨rfl, rfl⟩; rw [hg])
      go_ret
      exact ⟨ret_int HE.out.symm, by go_grown⟩
    · go_enter Tryd.func5, Tryd.ntmps5
      go_wp2_with (first | (go_at_call 12; refine (ipieOk_ex r _).mono ?_; rintro o w1 ⟨rfl, rfl⟩; rw [hg]) | (go_at_call 13; refine (within_any _ _ _ _).mono ?_; rintro o w' ⟨rfl, rfl⟩))
      go_ret
      exact ⟨ret_int HE.out.symm, by go_grown⟩
    · go_enter Tryd.func5, Tryd.ntmps5
      go_wp2_with (first | (go_at_call 12; refine (ipieOk_ex r _).mono ?_; rintro o w1 ⟨rfl, rfl⟩; rw [hg]) | (go_at_call 13; refine (within_any _ _ _ _).mono ?_; rintro o w' ⟨rfl, rfl⟩))
      go_ret
      exact ⟨ret_int HE.out.symm, by go_grown⟩
    · go_enter Tryd.func5, Tryd.ntmps5
      go_wp2_with (first | (go_at_call 12; refine (ipieOk_ex r _).mono ?_; rintro o w1 ⟨rfl, rfl⟩; rw [hg]) | (go_at_call 13; refine (within_any _ _ _ _).mono ?_; rintro o w' ⟨rfl, rfl⟩))
      go_ret
      exact ⟨ret_int HE.out.symm, by go_grown⟩
  case inr =>
    obtain ⟨H, hH⟩ : ∃ H, hitsF r a n e = H := ⟨_, rfl⟩
    have HE : Hid (arrF r a n e = H) := by show _ = _; unfold arrF; rw [hf, ← hH]; rfl
    have HH : Hid (hitsF r a n e = H) := hH
    have HG : Hid (r.good = true) := hg
    clear hf hH
    have HW : Hid (∀ W, W = ((w.alloc (.cells (peCells r) 24)).alloc (.cells (peCells r) 24)).alloc (.cells (arCells r 0) 45) → Sits W (w.heap.size + 1 + 1) (arCells r 0) 45 ∧ Below w.heap.size w W) := by
      rintro W rfl
      refine ⟨?_, by go_grown⟩
      have h := Sits.new ((w.alloc (.cells (peCells r) 24)).alloc (.cells (peCells r) 24)) (arCells r 0) 45
      simp only [World.size_alloc] at h
      exact h
    go_enter Tryd.func5, Tryd.ntmps5
    go_wp2_with (first | (go_at_call 12; refine (ipieOk_ex r _).mono ?_; rintro o w1 ⟨rfl, rfl⟩; rw [hg]) | (go_at_call 13; refine (within_any _ _ _ _).mono ?_; rintro o w' ⟨rfl, h'⟩; replace h' := h'.symm; subst h') | (go_at_call 14; refine (come_any (w.heap.size + 1 + 1) r a n e 45 _ (HW.out _ rfl).1 HG.out).mono ?_; rintro o w2 ⟨rfl, s2, o2⟩; rw [HH.out] at s2; obtain ⟨_, bb⟩ := HW.out _ rfl; have b2 := bb.trans (o2.below (by omega) bb.size); clear bb o2; have pl := s2.lt; have S2 : Hid (Sits w2 (w.heap.size + 1 + 1) (arCells r H) 45) := s2; obtain ⟨q0, q1, q2, q3, q4⟩ := ar_cells s2; clear s2) | (go_at_call 15; refine (load_hits (w.heap.size + 1 + 1) r H 45 _ S2.out).mono ?_; rintro o w' ⟨rfl, h'⟩; replace h' := h'.symm; subst h'))
    go_ret
    exact ⟨ret_int HE.out.symm, b2⟩

end Go.Proofs.YtkeccjomnmpcoadDoor
