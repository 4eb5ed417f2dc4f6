/-
  HOW A CHANCE OF PIE IS TURNED: PieUpdate OF BOTH SIDES, by numbers.
-/
import Derived.Test.YtkeccjomnmpcoacDoorScale
import Derived.Deep.RegionWith
namespace Go.Proofs.YtkeccjomnmpcoacDoor
open Go.RowKit
set_option linter.unusedVariables false

/-- How far the delay is above the target, and above the last one, weighted. -/
def quF (r : Pe) (d : Int) : Int := (268 * (d - r.tg + 10 * (d - r.od))).tdiv (1000 * scaleF r.pr)
/-- The change. -/
def chF (r : Pe) (d : Int) : Int := (if 214748364 ≤ r.pr ∧ 42949672 < quF r d then 42949672 else quF r d) + (if 250000000 < d then 42949672 else 0)
def p0F (r : Pe) (d : Int) : Int := if d = 0 ∧ r.od = 0 then r.pr + chF r d - (r.pr + chF r d).tdiv 64 else r.pr + chF r d
def clF (x : Int) : Int := if x < 0 then 0 else if 2147483648 < x then 2147483648 else x
/-- The chance behind it. -/
def prF (r : Pe) (d : Int) : Int := clF (p0F r d)
/-- The burst behind it. -/
def buF (r : Pe) (d : Int) : Int := if prF r d = 0 ∧ d < r.tg.tdiv 2 ∧ r.od < r.tg.tdiv 2 then 150000000 else if 15000000 < r.bu then r.bu - 15000000 else 0
def Pe.next (r : Pe) (d : Int) : Pe := ⟨r.tg, prF r d, d, buF r d⟩
/-- What PieUpdate wants. -/
def Pe.may (r : Pe) (d : Int) : Bool := r.good && inB d 0 10000000000
/-- What it answers. -/
def Pe.upd (r : Pe) (d : Int) : Pe := if r.may d then r.next d else Pe.zero

theorem tdiv_bd {a b : Int} (hb : 1 ≤ b) : -(if a < 0 then -a else a) ≤ a.tdiv b ∧ a.tdiv b ≤ (if a < 0 then -a else a) := by
  have h : (a.tdiv b).natAbs = a.natAbs / b.natAbs := Int.natAbs_tdiv a b
  have h2 : a.natAbs / b.natAbs ≤ a.natAbs := Nat.div_le_self _ _
  rw [← h] at h2
  split <;> omega
theorem quF_bd {r : Pe} {d : Int} (hg : r.good = true) (h0 : 0 ≤ d) (h1 : d ≤ 10000000000) : -30000000000000 ≤ quF r d ∧ quF r d ≤ 30000000000000 := by
  obtain ⟨g1, g2, g3, g4, g5, g6, g7, g8⟩ := r.good_iff.1 hg
  have hs := scaleF_bd r.pr
  have h := tdiv_bd (a := 268 * (d - r.tg + 10 * (d - r.od))) (b := 1000 * scaleF r.pr) (by omega)
  unfold quF
  split at h <;> omega
theorem chF_bd {r : Pe} {d : Int} (hg : r.good = true) (h0 : 0 ≤ d) (h1 : d ≤ 10000000000) : -40000000000000 ≤ chF r d ∧ chF r d ≤ 40000000000000 := by
  have := quF_bd hg h0 h1
  unfold chF
  split <;> split <;> omega
theorem clF_bd (x : Int) : 0 ≤ clF x ∧ clF x ≤ 2147483648 := by unfold clF; split <;> (try split) <;> omega
theorem prF_bd (r : Pe) (d : Int) : 0 ≤ prF r d ∧ prF r d ≤ 2147483648 := clF_bd _
theorem buF_bd {r : Pe} {d : Int} (hg : r.good = true) : 0 ≤ buF r d ∧ buF r d ≤ 150000000 := by
  obtain ⟨g1, g2, g3, g4, g5, g6, g7, g8⟩ := r.good_iff.1 hg
  unfold buF; split <;> (try split) <;> omega
theorem next_good {r : Pe} {d : Int} (hg : r.good = true) (h0 : 0 ≤ d) (h1 : d ≤ 10000000000) : (r.next d).good = true := by
  obtain ⟨g1, g2, g3, g4, g5, g6, g7, g8⟩ := r.good_iff.1 hg
  have h2 := prF_bd r d
  have h3 := buF_bd (d := d) hg
  exact (Pe.good_iff _).2 ⟨g1, g2, h2.1, h2.2, h0, h1, h3.1, h3.2⟩

set_option maxHeartbeats 2000000 in
theorem pieChanged_any (r : Pe) (d : Int) (w : World) (hs : Steps w) (hg : r.good = true) (h0 : 0 ≤ d) (h1 : d ≤ 10000000000) :
    Calls Tryd.prog 20 #[r.val, .int .i64 d] w fun e w' => e = .returned (.int .i64 (chF r d)) ∧ Below w.heap.size w w' := by
  have hq := quF_bd hg h0 h1
  have hsb := scaleF_bd r.pr
  have HC : Hid (chF r d = (if 214748364 ≤ r.pr ∧ 42949672 < quF r d then 42949672 else quF r d) + (if 250000000 < d then 42949672 else 0)) := rfl
  obtain ⟨g1, g2, g3, g4, g5, g6, g7, g8⟩ := r.good_iff.1 hg
  have hB : Hid (scaleB r.pr = scaleF r.pr) := by show _ = _; unfold scaleB inB; rw [if_pos (by simp; omega)]
  obtain ⟨S, hS⟩ : ∃ S, scaleF r.pr = S := ⟨_, rfl⟩
  have hSB := hB.out.trans hS
  clear hB
  obtain ⟨Q, hQ⟩ : ∃ Q, quF r d = Q := ⟨_, rfl⟩
  have hQ' : (268 * (d - r.tg + 10 * (d - r.od))).tdiv (1000 * S) = Q := by rw [← hS, ← hQ]; rfl
  rw [hQ] at hq HC
  rw [hS] at hsb
  clear hS hQ
  obtain ⟨C, hC⟩ : ∃ C, chF r d = C := ⟨_, rfl⟩
  rw [hC]
  rw [hC] at HC
  clear hC hg
  have hst : Steps (w.alloc (.cells (peCells r) 24)) := hs.below ((Below.refl w.heap.size w).alloc (Nat.le_refl _) _) hs.lt
  have HST : Hid (Steps (w.alloc (.cells (peCells r) 24))) := hst
  have HB : Hid (Below w.heap.size w (w.alloc (.cells (peCells r) 24))) := (Below.refl w.heap.size w).alloc (Nat.le_refl _) _
  have sr : Sits (w.alloc (.cells (peCells r) 24)) w.heap.size (peCells r) 24 := Sits.new _ _ _
  have SR : Hid (Sits (w.alloc (.cells (peCells r) 24)) w.heap.size (peCells r) 24) := sr
  clear sr hst hs
  by_cases c1 : 214748364 ≤ r.pr <;> by_cases c2 : 42949672 < Q <;> by_cases c3 : 250000000 < d
  all_goals
    go_enter Tryd.func20, Tryd.ntmps20
    go_wp2_with (go_at_call 8; refine (ipieScale_any r.pr _ HST.out).mono ?_; rintro e w1 ⟨rfl, b1⟩; rw [hSB]; obtain ⟨q0, q1, q2, q3⟩ := pe_cells (Sits.below SR.out b1 (by simp)); replace b1 := HB.out.trans (b1.mono (by simp)))
    go_ret
    refine ⟨ret_int ?_, b1⟩
    have hc := HC.out
    rw [hc]
    clear HC hc HST HB SR b1 q0 q1 q2 q3 hQ'
    (repeat' split) <;> omega

set_option maxHeartbeats 2000000 in
theorem pieProb_any (r : Pe) (d : Int) (w : World) (hs : Steps w) (hg : r.good = true) (h0 : 0 ≤ d) (h1 : d ≤ 10000000000) :
    Calls Tryd.prog 15 #[r.val, .int .i64 d] w fun e w' => e = .returned (.int .i64 (prF r d)) ∧ Below w.heap.size w w' := by
  have hc := chF_bd hg h0 h1
  have HG : Hid (r.good = true) := hg
  obtain ⟨g1, g2, g3, g4, g5, g6, g7, g8⟩ := r.good_iff.1 hg
  obtain ⟨C, hC⟩ : ∃ C, chF r d = C := ⟨_, rfl⟩
  have HP : Hid (prF r d = clF (if d = 0 ∧ r.od = 0 then r.pr + C - (r.pr + C).tdiv 64 else r.pr + C)) := by show _ = _; rw [← hC]; rfl
  have HC : Hid (chF r d = C) := hC
  rw [hC] at hc
  clear hC hg
  obtain ⟨R, hR⟩ : ∃ R, prF r d = R := ⟨_, rfl⟩
  rw [hR]
  rw [hR] at HP
  clear hR
  have HST : Hid (Steps (w.alloc (.cells (peCells r) 24))) := hs.below ((Below.refl w.heap.size w).alloc (Nat.le_refl _) _) hs.lt
  have HB : Hid (Below w.heap.size w (w.alloc (.cells (peCells r) 24))) := (Below.refl w.heap.size w).alloc (Nat.le_refl _) _
  have SR : Hid (Sits (w.alloc (.cells (peCells r) 24)) w.heap.size (peCells r) 24) := Sits.new _ _ _
  clear hs
  obtain ⟨D, hD⟩ : ∃ D, (r.pr + C).tdiv 64 = D := ⟨_, rfl⟩
  have hDb := tdiv_bd (a := r.pr + C) (b := 64) (by omega)
  rw [hD] at hDb
  have hDb' : -50000000000000 ≤ D ∧ D ≤ 50000000000000 := by split at hDb <;> omega
  clear hDb
  rw [hD] at HP
  have HQ : ∀ (x : Int), (d = 0 ∧ r.od = 0 → x = r.pr + C - D) → (¬ (d = 0 ∧ r.od = 0) → x = r.pr + C) → R = clF x := fun x hx hy => by
    rw [HP.out]
    by_cases c : d = 0 ∧ r.od = 0
    · rw [if_pos c, hx c]
    · rw [if_neg c, hy c]
  have HQ' : Hid _ := HQ
  clear HQ HP
  by_cases c1 : d = 0
  · have e1 : (d == 0) = true := by simpa using c1
    by_cases c2 : r.od = 0
    · have e2 : (r.od == 0) = true := by simpa using c2
      have hR := HQ'.out (r.pr + C - D) (fun _ => rfl) (fun h => absurd ⟨c1, c2⟩ h)
      have HR : Hid (R = clF (r.pr + C - D)) := hR
      clear hR c1 c2 HQ'
      have hcs : (r.pr + C - D < 0) ∨ (¬ r.pr + C - D < 0 ∧ 2147483648 < r.pr + C - D) ∨ (¬ r.pr + C - D < 0 ∧ ¬ 2147483648 < r.pr + C - D) := by omega
      rcases hcs with c3 | ⟨c3, c4⟩ | ⟨c3, c4⟩
      all_goals
        go_enter Tryd.func15, Tryd.ntmps15
        go_wp2
        go_region_with (go_at_call 20; refine (pieChanged_any r d _ (Steps.drew HST.out) HG.out h0 h1).mono ?_; rintro e w1 ⟨rfl, b1⟩; rw [HC.out]; obtain ⟨q0, q1, q2, q3⟩ := pe_cells (Sits.below (Sits.drew SR.out) b1 (by simp)); replace b1 := (Below.drew HB.out).trans (b1.mono (by simp)))
        all_goals
          go_wp2
          go_ret
          refine ⟨ret_int ?_, b1⟩
          rw [HR.out]
          clear HST HB SR HG HC HR b1 q0 q1 q2 q3 hD
          unfold clF
          (repeat' split) <;> omega
    · have e2 : (r.od == 0) = false := by simpa using c2
      have hR := HQ'.out (r.pr + C) (fun h => absurd h.2 c2) (fun _ => rfl)
      have HR : Hid (R = clF (r.pr + C)) := hR
      clear hR c1 c2 HQ'
      have hcs : (r.pr + C < 0) ∨ (¬ r.pr + C < 0 ∧ 2147483648 < r.pr + C) ∨ (¬ r.pr + C < 0 ∧ ¬ 2147483648 < r.pr + C) := by omega
      rcases hcs with c3 | ⟨c3, c4⟩ | ⟨c3, c4⟩
      all_goals
        go_enter Tryd.func15, Tryd.ntmps15
        go_wp2
        go_region_with (go_at_call 20; refine (pieChanged_any r d _ (Steps.drew HST.out) HG.out h0 h1).mono ?_; rintro e w1 ⟨rfl, b1⟩; rw [HC.out]; obtain ⟨q0, q1, q2, q3⟩ := pe_cells (Sits.below (Sits.drew SR.out) b1 (by simp)); replace b1 := (Below.drew HB.out).trans (b1.mono (by simp)))
        all_goals
          go_wp2
          go_ret
          refine ⟨ret_int ?_, b1⟩
          rw [HR.out]
          clear HST HB SR HG HC HR b1 q0 q1 q2 q3 hD
          unfold clF
          (repeat' split) <;> omega
  · have e1 : (d == 0) = false := by simpa using c1
    have hR := HQ'.out (r.pr + C) (fun h => absurd h.1 c1) (fun _ => rfl)
    have HR : Hid (R = clF (r.pr + C)) := hR
    clear hR c1 HQ'
    have hcs : (r.pr + C < 0) ∨ (¬ r.pr + C < 0 ∧ 2147483648 < r.pr + C) ∨ (¬ r.pr + C < 0 ∧ ¬ 2147483648 < r.pr + C) := by omega
    rcases hcs with c3 | ⟨c3, c4⟩ | ⟨c3, c4⟩
    all_goals
      go_enter Tryd.func15, Tryd.ntmps15
      go_wp2
      go_region_with (go_at_call 20; refine (pieChanged_any r d _ (Steps.drew HST.out) HG.out h0 h1).mono ?_; rintro e w1 ⟨rfl, b1⟩; rw [HC.out]; obtain ⟨q0, q1, q2, q3⟩ := pe_cells (Sits.below (Sits.drew SR.out) b1 (by simp)); replace b1 := (Below.drew HB.out).trans (b1.mono (by simp)))
      all_goals
        go_wp2
        go_ret
        refine ⟨ret_int ?_, b1⟩
        rw [HR.out]
        clear HST HB SR HG HC HR b1 q0 q1 q2 q3 hD
        unfold clF
        (repeat' split) <;> omega

set_option maxHeartbeats 2000000 in
theorem pieBurst_any (r : Pe) (d : Int) (w : World) (hg : r.good = true) (h0 : 0 ≤ d) (h1 : d ≤ 10000000000) :
    Calls Tryd.prog 16 #[r.val, .int .i64 (prF r d), .int .i64 d] w fun e w' => e = .returned (.int .i64 (buF r d)) ∧ Kept w w' := by
  obtain ⟨g1, g2, g3, g4, g5, g6, g7, g8⟩ := r.good_iff.1 hg
  obtain ⟨P, hP⟩ : ∃ P, prF r d = P := ⟨_, rfl⟩
  have HE : Hid (buF r d = if P = 0 ∧ d < r.tg.tdiv 2 ∧ r.od < r.tg.tdiv 2 then 150000000 else if 15000000 < r.bu then r.bu - 15000000 else 0) := by show _ = _; rw [← hP]; rfl
  rw [hP]
  clear hP hg
  obtain ⟨R, hR⟩ : ∃ R, buF r d = R := ⟨_, rfl⟩
  rw [hR]
  rw [hR] at HE
  clear hR
  obtain ⟨T, hT⟩ : ∃ T, r.tg.tdiv 2 = T := ⟨_, rfl⟩
  rw [hT] at HE
  have hTb : 0 ≤ T ∧ T ≤ 1000000000 := by rw [← hT, Int.tdiv_eq_ediv_of_nonneg (by omega)]; omega
  by_cases c1 : P = 0
  · have e1 : (P == 0) = true := by simpa using c1
    by_cases c2 : d < r.od
    · by_cases c3 : r.od < T
      · go_enter Tryd.func16, Tryd.ntmps16
        go_wp2
        go_ret
        refine ⟨ret_int ?_, by constructor <;> go_grown⟩
        rw [HE.out, if_pos (by omega)]
      · by_cases c4 : r.bu - 15000000 < 0
        all_goals
          go_enter Tryd.func16, Tryd.ntmps16
          go_wp2
          go_ret
          refine ⟨ret_int ?_, by constructor <;> go_grown⟩
          rw [HE.out, if_neg (by omega)]
          split <;> omega
    · by_cases c3 : d < T
      · go_enter Tryd.func16, Tryd.ntmps16
        go_wp2
        go_ret
        refine ⟨ret_int ?_, by constructor <;> go_grown⟩
        rw [HE.out, if_pos (by omega)]
      · by_cases c4 : r.bu - 15000000 < 0
        all_goals
          go_enter Tryd.func16, Tryd.ntmps16
          go_wp2
          go_ret
          refine ⟨ret_int ?_, by constructor <;> go_grown⟩
          rw [HE.out, if_neg (by omega)]
          split <;> omega
  · have e1 : (P == 0) = false := by simpa using c1
    by_cases c4 : r.bu - 15000000 < 0
    all_goals
      go_enter Tryd.func16, Tryd.ntmps16
      go_wp2
      go_ret
      refine ⟨ret_int ?_, by constructor <;> go_grown⟩
      rw [HE.out, if_neg (by omega)]
      split <;> omega

/-- A Pie and a bool, handed back. -/
theorem ret_pb {fn : Func} {tmps : Array Value} {W : World} {i j B : Nat} {q : Pe} {b : Bool} {t : TypeId} (hr : fn.results = #[.cell i 24, .tmp j]) (hi : tmps[i]?.getD undef = .pointer (some ⟨B, 0, none⟩)) (hj : tmps[j]?.getD undef = .bool b) (hs : Sits W B (peCells q) t) : (results fn tmps).run Tryd.prog W = .ok (.tuple #[q.val, .bool b]) W := by
  obtain ⟨c0, c1, c2, c3⟩ := pe_cells hs
  simp [results, hr, hi, hj, go_sem, c0, c1, c2, c3]

set_option maxHeartbeats 2000000 in
theorem ipieUpdate_any (r : Pe) (d : Int) (w : World) (hs : Steps w) :
    Calls Tryd.prog 6 #[r.val, .int .i64 d] w fun e w' => e = .returned (.tuple #[(r.upd d).val, .bool (r.may d)]) ∧ Below w.heap.size w w' := by
  cases hg : r.good
  case false =>
    have HE : r.upd d = Pe.zero ∧ r.may d = false := by unfold Pe.upd Pe.may; simp [hg]
    rw [HE.1, HE.2]; clear HE
    go_enter Tryd.func6, Tryd.ntmps6
    go_wp2_with (go_at_call 9; refine (ipieOk_ex r _).mono ?_; rintro e w1 ⟨rfl, rfl⟩; rw [hg])
    refine bodyPost_ret (v := .tuple #[Pe.zero.val, .bool false]) (by simp [results, Tryd.results6, go_sem, Pe.zero]) rfl ⟨by simp, by go_grown⟩
  case true =>
  cases hi : inB d 0 10000000000
  case false =>
    have HE : r.upd d = Pe.zero ∧ r.may d = false := by unfold Pe.upd Pe.may; simp [hi]
    rw [HE.1, HE.2]; clear HE
    go_enter Tryd.func6, Tryd.ntmps6
    go_wp2_with (first | (go_at_call 9; refine (ipieOk_ex r _).mono ?_; rintro e w1 ⟨rfl, rfl⟩; rw [hg]) | (go_at_call 14; refine (within_any _ _ _ _).mono ?_; rintro e w' ⟨rfl, rfl⟩; rw [hi]))
    refine bodyPost_ret (v := .tuple #[Pe.zero.val, .bool false]) (by simp [results, Tryd.results6, go_sem, Pe.zero]) rfl ⟨by simp, by go_grown⟩
  case true =>
    have HE : r.upd d = r.next d ∧ r.may d = true := by unfold Pe.upd Pe.may; simp [hi, hg]
    rw [HE.1, HE.2]; clear HE
    have hd : 0 ≤ d ∧ d ≤ 10000000000 := by simpa [inB] using hi
    have HG : Hid (r.good = true) := hg
    have HST : Hid (∀ W, Below w.heap.size w W → Steps W) := fun W hb => hs.below hb hs.lt
    clear hs
    have HW : Hid (∀ W, W = ((w.alloc (.cells (peCells r) 24)).alloc (.cells (peCells Pe.zero) 24)).alloc (.cells (peCells r) 24) → Sits W w.heap.size (peCells r) 24 ∧ Sits W (w.heap.size + 1) (peCells Pe.zero) 24 ∧ Below w.heap.size w W) := by
      rintro W rfl
      refine ⟨((Sits.new _ _ _).alloc _).alloc _, ?_, by go_grown⟩
      have h := (Sits.new (w.alloc (.cells (peCells r) 24)) (peCells Pe.zero) 24).alloc (.cells (peCells r) 24)
      simp only [World.size_alloc] at h
      exact h
    go_enter Tryd.func6, Tryd.ntmps6
    go_wp2_with (first | (go_at_call 9; refine (ipieOk_ex r _).mono ?_; rintro e w1 ⟨rfl, rfl⟩; rw [hg]) | (go_at_call 14; refine (within_any _ _ _ _).mono ?_; rintro e w' ⟨rfl, h'⟩; replace h' := h'.symm; subst h'; rw [hi]) | (go_at_call 15; refine (pieProb_any r d _ (HST.out _ (by go_grown)) HG.out hd.1 hd.2).mono ?_; rintro e w2 ⟨rfl, b2⟩; obtain ⟨s0, z0, bb⟩ := HW.out _ rfl; have s2 := s0.below b2 s0.lt; have z2 := z0.below b2 z0.lt; replace b2 := bb.trans (b2.mono bb.size); clear s0 z0 bb; obtain ⟨q0, q1, q2, q3⟩ := pe_cells s2; have Z2 : Hid (Sits w2 (w.heap.size + 1) (peCells Pe.zero) 24) := z2; have S2 : Hid (Sits w2 w.heap.size (peCells r) 24) := s2; clear z2 s2) | (go_at_call 16; refine (pieBurst_any r d _ HG.out hd.1 hd.2).mono ?_; rintro e w3 ⟨rfl, k3⟩; have s3 := Sits.kept S2.out k3; have z3 := Sits.kept Z2.out k3; have b3 := b2.trans (k3.1.mono b2.size); clear q0 q1 q2 q3 b2 k3; obtain ⟨q0, q1, q2, q3⟩ := pe_cells s3; have fz := z3.frozen; obtain ⟨y0, y1, y2, y3⟩ := pe_cells z3; have pl := z3.lt; have Z3 : Hid (Sits w3 (w.heap.size + 1) (peCells Pe.zero) 24) := z3; clear s3 z3; dsimp only [Pe.zero] at y0 y1 y2 y3))
    refine bodyPost_ret (ret_pb (q := r.next d) (b := true) (t := 24) (B := w.heap.size + 1) Tryd.results6 rfl rfl ?_) rfl ⟨rfl, ?_⟩
    · exact ((((Sits.set Z3.out 0 _).set 1 _).set 2 _).set 3 _)
    · exact ((((b3.setCell (by simp) _).setCell (by simp) _).setCell (by simp) _).setCell (by simp) _)

end Go.Proofs.YtkeccjomnmpcoacDoor
