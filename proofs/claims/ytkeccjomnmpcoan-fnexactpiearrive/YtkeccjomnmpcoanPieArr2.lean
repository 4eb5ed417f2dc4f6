/-
  WHO COMES TO PIE: PieArrive OF BOTH SIDES, whole.
-/
import Derived.Test.YtkeccjomnmpcoanPieArr
namespace Go.Proofs.Ytkeccjomnmpcoan
open Go.RowKit
set_option linter.unusedVariables false

theorem fit_cases (r : Pe) (a n e : Int) : (r.fit a n e = false ∧ (r.good = false ∨ (r.good = true ∧ inB a 0 2147483647 = false) ∨ (r.good = true ∧ inB a 0 2147483647 = true ∧ n < 0) ∨ (r.good = true ∧ inB a 0 2147483647 = true ∧ ¬ n < 0 ∧ inB e 0 3 = false))) ∨ (r.fit a n e = true ∧ r.good = true ∧ inB a 0 2147483647 = true ∧ ¬ n < 0 ∧ inB e 0 3 = true) := by
  unfold Pe.fit
  cases h1 : r.good <;> cases h2 : inB a 0 2147483647 <;> cases h3 : inB e 0 3 <;> by_cases h4 : n < 0 <;> simp [h4] <;> omega

set_option maxHeartbeats 2000000 in
theorem ipieArrive_any (r : Pe) (a n e : Int) (w : World) :
    Calls Try.prog 11 #[r.val, .int .i64 a, .int .i64 n, .int .i64 e] w fun o w' => o = .returned (.int .i64 (arrF r a n e)) ∧ Below w.heap.size w w' := by
  rcases fit_cases r a n e with ⟨hf, hc⟩ | ⟨hf, hg, h1, h2, h3⟩
  case inl =>
    have HE : Hid (arrF r a n e = -1) := by show _ = _; unfold arrF; rw [hf]; rfl
    clear hf
    rcases hc with hg | ⟨hg, h1⟩ | ⟨hg, h1, h2⟩ | ⟨hg, h1, h2, h3⟩
    · go_enter Try.func11, Try.ntmps11
      go_wp2_with (go_at_call 18; refine (ipieOk_ex r _).mono ?_; rintro o w1 ⟨rfl, rfl⟩; rw [hg])
      go_ret
      exact ⟨ret_int HE.out.symm, by go_grown⟩
    · go_enter Try.func11, Try.ntmps11
      go_wp2_with (first | (go_at_call 18; refine (ipieOk_ex r _).mono ?_; rintro o w1 ⟨rfl, rfl⟩; rw [hg]) | (go_at_call 20; refine (within_any _ _ _ _).mono ?_; rintro o w' ⟨rfl, rfl⟩))
      go_ret
      exact ⟨ret_int HE.out.symm, by go_grown⟩
    · go_enter Try.func11, Try.ntmps11
      go_wp2_with (first | (go_at_call 18; refine (ipieOk_ex r _).mono ?_; rintro o w1 ⟨rfl, rfl⟩; rw [hg]) | (go_at_call 20; refine (within_any _ _ _ _).mono ?_; rintro o w' ⟨rfl, rfl⟩))
      go_ret
      exact ⟨ret_int HE.out.symm, by go_grown⟩
    · go_enter Try.func11, Try.ntmps11
      go_wp2_with (first | (go_at_call 18; refine (ipieOk_ex r _).mono ?_; rintro o w1 ⟨rfl, rfl⟩; rw [hg]) | (go_at_call 20; refine (within_any _ _ _ _).mono ?_; rintro o w' ⟨rfl, rfl⟩))
      go_ret
      exact ⟨ret_int HE.out.symm, by go_grown⟩
  case inr =>
    obtain ⟨H, hH⟩ : ∃ H, hitsF r a n e = H := ⟨_, rfl⟩
    have HE : Hid (arrF r a n e = H) := by show _ = _; unfold arrF; rw [hf, ← hH]; rfl
    have HH : Hid (hitsF r a n e = H) := hH
    have HG : Hid (r.good = true) := hg
    clear hf hH
    have HW : Hid (∀ W, W = ((w.alloc (.cells (peCells r) 23)).alloc (.cells (peCells r) 23)).alloc (.cells (arCells r 0) 53) → Sits W (w.heap.size + 1 + 1) (arCells r 0) 53 ∧ Below w.heap.size w W) := by
      rintro W rfl
      refine ⟨?_, by go_grown⟩
      have h := Sits.new ((w.alloc (.cells (peCells r) 23)).alloc (.cells (peCells r) 23)) (arCells r 0) 53
      simp only [World.size_alloc] at h
      exact h
    go_enter Try.func11, Try.ntmps11
    go_wp2_with (first | (go_at_call 18; refine (ipieOk_ex r _).mono ?_; rintro o w1 ⟨rfl, rfl⟩; rw [hg]) | (go_at_call 20; refine (within_any _ _ _ _).mono ?_; rintro o w' ⟨rfl, h'⟩; replace h' := h'.symm; subst h') | (go_at_call 21; refine (come_any (w.heap.size + 1 + 1) r a n e 53 _ (HW.out _ rfl).1 HG.out).mono ?_; rintro o w2 ⟨rfl, s2, o2⟩; rw [HH.out] at s2; obtain ⟨_, bb⟩ := HW.out _ rfl; have b2 := bb.trans (o2.below (by omega) bb.size); clear bb o2; have pl := s2.lt; have S2 : Hid (Sits w2 (w.heap.size + 1 + 1) (arCells r H) 53) := s2; obtain ⟨q0, q1, q2, q3, q4⟩ := ar_cells s2; clear s2) | (go_at_call 22; refine (load_hits (w.heap.size + 1 + 1) r H 53 _ S2.out).mono ?_; rintro o w' ⟨rfl, h'⟩; replace h' := h'.symm; subst h'))
    go_ret
    exact ⟨ret_int HE.out.symm, b2⟩

set_option maxHeartbeats 2000000 in
theorem l6arrive_any (r : Pe) (a n e : Int) (w : World) (hg : r.good = true) (he : 0 ≤ e ∧ e ≤ 3) :
    Calls Try.prog 19 #[r.val, .int .i64 a, .int .i64 n, .int .i64 e] w fun o w' => o = .returned (.int .i64 (hitsF r a n e)) ∧ Kept w w' := by
  obtain ⟨g1, g2, g3, g4, g5, g6, g7, g8⟩ := r.good_iff.1 hg
  obtain ⟨T, hT⟩ : ∃ T, r.tg.tdiv 2 = T := ⟨_, rfl⟩
  have hTb : 0 ≤ T ∧ T ≤ 1000000000 := by rw [← hT, Int.tdiv_eq_ediv_of_nonneg (by omega)]; omega
  have HE : Hid (hitsF r a n e = if (0 < r.bu ∨ (r.od < T ∧ r.pr < 429496729) ∨ n ≤ 3000 ∨ r.pr ≤ a) then 0 else if (¬ e = 0 ∧ r.pr ≤ 214748364) then 1 else 2) := by
    show _ = _; unfold hitsF spareB markB; rw [hT]; simp only [decide_eq_true_eq]
  obtain ⟨R, hR⟩ : ∃ R, hitsF r a n e = R := ⟨_, rfl⟩
  rw [hR]
  rw [hR] at HE
  clear hR hg
  have hcs : (0 < r.bu) ∨ (¬ 0 < r.bu ∧ ¬ r.od < T) ∨ (¬ 0 < r.bu ∧ r.od < T ∧ r.pr < 429496729) ∨ (¬ 0 < r.bu ∧ r.od < T ∧ ¬ r.pr < 429496729) := by omega
  have hc3 : (n ≤ 3000) ∨ (¬ n ≤ 3000 ∧ r.pr ≤ a) ∨ (¬ n ≤ 3000 ∧ ¬ r.pr ≤ a) := by omega
  have hc4 : (e ≠ 0 ∧ (e != 0) = true) ∨ (e = 0 ∧ (e != 0) = false) := by by_cases h : e = 0 <;> simp [h]
  have hc5 : (r.pr ≤ 214748364) ∨ ¬ r.pr ≤ 214748364 := by omega
  rcases hcs with c1 | ⟨c1, c2⟩ | ⟨c1, c2, c3⟩ | ⟨c1, c2, c3⟩
  case inl =>
    go_enter Try.func19, Try.ntmps19
    go_wp2
    go_ret
    exact ⟨ret_int (by rw [HE.out, if_pos (by omega)]), by constructor <;> go_grown⟩
  case inr.inr.inl =>
    go_enter Try.func19, Try.ntmps19
    go_wp2
    go_ret
    exact ⟨ret_int (by rw [HE.out, if_pos (by omega)]), by constructor <;> go_grown⟩
  all_goals
    rcases hc3 with c4 | ⟨c4, c5⟩ | ⟨c4, c5⟩
    · go_enter Try.func19, Try.ntmps19
      go_wp2
      go_ret
      exact ⟨ret_int (by rw [HE.out, if_pos (by omega)]), by constructor <;> go_grown⟩
    · go_enter Try.func19, Try.ntmps19
      go_wp2
      go_ret
      exact ⟨ret_int (by rw [HE.out, if_pos (by omega)]), by constructor <;> go_grown⟩
    · rcases hc4 with ⟨c6, c7⟩ | ⟨c6, c7⟩
      · have HC6 : Hid (e ≠ 0) := c6
        clear c6
        rcases hc5 with c8 | c8
        all_goals
          first
          | (exfalso; omega)
          | (go_enter Try.func19, Try.ntmps19
             go_wp2
             go_ret
             exact ⟨ret_int (by have c6 := HC6.out; rw [HE.out, if_neg (by omega)]; split <;> omega), by constructor <;> go_grown⟩)
      · have HC6 : Hid (e = 0) := c6
        clear c6
        go_enter Try.func19, Try.ntmps19
        go_wp2
        go_ret
        exact ⟨ret_int (by have c6 := HC6.out; rw [HE.out, if_neg (by omega), if_neg (by omega)]), by constructor <;> go_grown⟩

set_option maxHeartbeats 2000000 in
theorem spieArrive_any (r : Pe) (a n e : Int) (w : World) :
    Calls Try.prog 9 #[r.val, .int .i64 a, .int .i64 n, .int .i64 e] w fun o w' => o = .returned (.int .i64 (arrF r a n e)) ∧ Kept w w' := by
  rcases fit_cases r a n e with ⟨hf, hc⟩ | ⟨hf, hg, h1, h2, h3⟩
  case inl =>
    have HE : Hid (arrF r a n e = -1) := by show _ = _; unfold arrF; rw [hf]; rfl
    clear hf
    have hc' : r.good = false ∨ (r.good = true ∧ a < 0) ∨ (r.good = true ∧ ¬ a < 0 ∧ 2147483648 ≤ a) ∨ (r.good = true ∧ ¬ a < 0 ∧ ¬ 2147483648 ≤ a ∧ n < 0) ∨ (r.good = true ∧ ¬ a < 0 ∧ ¬ 2147483648 ≤ a ∧ ¬ n < 0 ∧ e < 0) ∨ (r.good = true ∧ ¬ a < 0 ∧ ¬ 2147483648 ≤ a ∧ ¬ n < 0 ∧ ¬ e < 0 ∧ 3 < e) := by
      rcases hc with hg | ⟨hg, h1⟩ | ⟨hg, h1, h2⟩ | ⟨hg, h1, h2, h3⟩ <;> simp [inB] at * <;> simp [hg] <;> omega
    clear hc
    rcases hc' with hg | ⟨hg, h1⟩ | ⟨hg, h0, h1⟩ | ⟨hg, h0, h1, h2⟩ | ⟨hg, h0, h1, h2, h3⟩ | ⟨hg, h0, h1, h2, h3, h4⟩
    all_goals
      go_enter Try.func9, Try.ntmps9
      go_wp2_with (go_at_call 17; refine (spieOk_ex r _).mono ?_; rintro o w1 ⟨rfl, rfl⟩; rw [hg])
      go_ret
      exact ⟨ret_int HE.out.symm, by constructor <;> go_grown⟩
  case inr =>
    obtain ⟨H, hH⟩ : ∃ H, hitsF r a n e = H := ⟨_, rfl⟩
    have HE : Hid (arrF r a n e = H) := by show _ = _; unfold arrF; rw [hf, ← hH]; rfl
    have HH : Hid (hitsF r a n e = H) := hH
    have HG : Hid (r.good = true) := hg
    clear hf hH
    have e1 : ¬ a < 0 ∧ ¬ 2147483648 ≤ a := by simp [inB] at h1; omega
    have e3 : ¬ e < 0 ∧ ¬ 3 < e := by simp [inB] at h3; omega
    obtain ⟨e1, e2⟩ := e1
    obtain ⟨e3, e4⟩ := e3
    clear h1 h3
    go_enter Try.func9, Try.ntmps9
    go_wp2_with (first | (go_at_call 17; refine (spieOk_ex r _).mono ?_; rintro o w1 ⟨rfl, rfl⟩; rw [hg]) | (go_at_call 19; refine (l6arrive_any r a n e _ HG.out (by omega)).mono ?_; rintro o w2 ⟨rfl, k2⟩; rw [HH.out]))
    go_ret
    exact ⟨ret_int HE.out.symm, Kept.trans (by constructor <;> go_grown) k2⟩

end Go.Proofs.Ytkeccjomnmpcoan
