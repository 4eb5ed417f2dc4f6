/-
  HOW A CHANCE OF PIE IS TURNED, the specification's side: l6toward, l6update through a pointer, PieUpdate.
-/
import Derived.Test.YtkeccjomnmpcoacDoorPieUp
import Derived.Test.YtkeccjomnmpcoacDoorDrawR0
import Derived.Deep.RegionWith
import Derived.Deep.Cut
namespace Go.Proofs.YtkeccjomnmpcoacDoor
open Go.RowKit
set_option linter.unusedVariables false

theorem Only.of_below {B : Nat} {w w' : World} (h : Below w.heap.size w w') : Only B w w' := ⟨h.os, h.tape, h.output, h.size, fun k hk _ => h.block k hk⟩

theorem l6toward_any (a b : Int) (w : World) (ha : -40000000000000 ≤ a ∧ a ≤ 40000000000000) (hb : 1 ≤ b ∧ b ≤ 4000000) :
    Calls Tryd.prog 23 #[.int .i64 a, .int .i64 b] w fun e w' => e = .returned (.int .i64 (a.tdiv b)) ∧ w' = w := by
  by_cases h : a < 0
  · have h2 : (-a).tdiv b = -(a.tdiv b) := Int.neg_tdiv _ _
    have hq := tdiv_bd (a := a) (b := b) hb.1
    rw [if_pos h] at hq
    obtain ⟨q, hq'⟩ : ∃ q, a.tdiv b = q := ⟨_, rfl⟩
    rw [hq'] at hq h2 ⊢
    go_enter Tryd.func23, Tryd.ntmps23
    go_wp2
    go_ret
    exact ⟨ret_int (by omega), rfl⟩
  · have hq := tdiv_bd (a := a) (b := b) hb.1
    rw [if_neg h] at hq
    obtain ⟨q, hq'⟩ : ∃ q, a.tdiv b = q := ⟨_, rfl⟩
    rw [hq'] at hq ⊢
    go_enter Tryd.func23, Tryd.ntmps23
    go_wp2
    go_ret
    exact ⟨rfl, rfl⟩

/-- One field stored. -/
theorem pe_s1 {W : World} {B : Nat} {r : Pe} {t : TypeId} (h : Sits W B (peCells r) t) (x : Int) : Sits (W.setCell ⟨B, 1, none⟩ (.int .i64 x)) B (peCells ⟨r.tg, x, r.od, r.bu⟩) t := Sits.set h 1 _
theorem pe_s2 {W : World} {B : Nat} {r : Pe} {t : TypeId} (h : Sits W B (peCells r) t) (x : Int) : Sits (W.setCell ⟨B, 2, none⟩ (.int .i64 x)) B (peCells ⟨r.tg, r.pr, x, r.bu⟩) t := Sits.set h 2 _
theorem pe_s3 {W : World} {B : Nat} {r : Pe} {t : TypeId} (h : Sits W B (peCells r) t) (x : Int) : Sits (W.setCell ⟨B, 3, none⟩ (.int .i64 x)) B (peCells ⟨r.tg, r.pr, r.od, x⟩) t := Sits.set h 3 _

set_option maxRecDepth 100000 in
set_option maxHeartbeats 4000000 in
theorem l6update_any (B : Nat) (r : Pe) (d : Int) (t : TypeId) (w : World) (hS : Sits w B (peCells r) t) (hg : r.good = true) (h0 : 0 ≤ d) (h1 : d ≤ 10000000000) :
    Calls Tryd.prog 21 #[.pointer (some ⟨B, 0, none⟩), .int .i64 d] w fun e w' => e = .returned (.tuple #[]) ∧ Sits w' B (peCells (r.next d)) t ∧ Only B w w' := by
  have hq := quF_bd hg h0 h1
  have hsb := scaleF_bd r.pr
  have hcb := chF_bd hg h0 h1
  obtain ⟨g1, g2, g3, g4, g5, g6, g7, g8⟩ := r.good_iff.1 hg
  obtain ⟨S, hSc⟩ : ∃ S, scaleF r.pr = S := ⟨_, rfl⟩
  obtain ⟨Q, hQ⟩ : ∃ Q, quF r d = Q := ⟨_, rfl⟩
  have hQ' : (268 * (d - r.tg + 10 * (d - r.od))).tdiv (1000 * S) = Q := by rw [← hSc, ← hQ]; rfl
  have HN : Hid (r.next d = ⟨r.tg, prF r d, d, buF r d⟩) := rfl
  have HC : Hid (chF r d = (if 214748364 ≤ r.pr ∧ 42949672 < Q then 42949672 else Q) + (if 250000000 < d then 42949672 else 0)) := by show _ = _; rw [← hQ]; rfl
  have HP0 : Hid (p0F r d = if d = 0 ∧ r.od = 0 then r.pr + chF r d - (r.pr + chF r d).tdiv 64 else r.pr + chF r d) := rfl
  have HP : Hid (prF r d = clF (p0F r d)) := rfl
  have HBu : Hid (buF r d = if prF r d = 0 ∧ d < r.tg.tdiv 2 ∧ r.od < r.tg.tdiv 2 then 150000000 else if 15000000 < r.bu then r.bu - 15000000 else 0) := rfl
  obtain ⟨N, hN⟩ : ∃ N, r.next d = N := ⟨_, rfl⟩
  rw [hN]
  rw [hN] at HN
  obtain ⟨C, hC⟩ : ∃ C, chF r d = C := ⟨_, rfl⟩
  obtain ⟨P0, hP0⟩ : ∃ P, p0F r d = P := ⟨_, rfl⟩
  obtain ⟨P, hP⟩ : ∃ P, prF r d = P := ⟨_, rfl⟩
  obtain ⟨U, hU⟩ : ∃ P, buF r d = P := ⟨_, rfl⟩
  rw [hU] at HBu HN
  rw [hP] at HBu HN HP
  rw [hP0] at HP HP0
  rw [hC] at HP0 HC hcb
  rw [hQ] at hq
  rw [hSc] at hsb
  have HSc : Hid (scaleF r.pr = S) := hSc
  clear hN hC hP0 hP hU hQ hSc hg
  obtain ⟨q0, q1, q2, q3⟩ := pe_cells hS
  have HS : Hid (Sits w B (peCells r) t) := hS
  clear hS
  obtain ⟨Q1, hQ1⟩ : ∃ Q1, (if 214748364 ≤ r.pr ∧ 42949672 < Q then 42949672 else Q) = Q1 := ⟨_, rfl⟩
  rw [hQ1] at HC
  have HQ1 : Hid ((if 214748364 ≤ r.pr ∧ 42949672 < Q then 42949672 else Q) = Q1) := hQ1
  have hq1 : -30000000000000 ≤ Q1 ∧ Q1 ≤ 30000000000000 := by rw [← hQ1]; split <;> omega
  clear hQ1
  have hcm : (d - r.tg + (d - r.od) * 10) * 268 = 268 * (d - r.tg + 10 * (d - r.od)) := by omega
  have hcm2 : IntKind.i64.wrap ((d - r.od) * 10) = (d - r.od) * 10 := wrap_in (by omega) (by omega)
  go_enter Tryd.func21, Tryd.ntmps21
  go_wp2_with fail
  go_region
  go_upto_region 2 with (first | (go_at_call 24; refine (l6scale_any r.pr _).mono ?_; rintro e w1 ⟨rfl, k1⟩; rw [HSc.out]; have s1 := Sits.kept (Sits.drew HS.out) k1; clear q0 q1 q2 q3; obtain ⟨q0, q1, q2, q3⟩ := pe_cells s1; have S1 : Hid (Sits w1 B (peCells r) t) := s1; have o1 : Only B w w1 := (Only.refl B w).drew.trans (Only.of_below k1.1); clear s1 k1) | (go_at_call 23; refine (l6toward_any _ _ _ (by omega) (by omega)).mono ?_; rintro e w' ⟨rfl, h'⟩; replace h' := h'.symm; subst h'; rw [hQ']))
  go_cut [37] from 6 (fun s wx => s = .bool (decide (214748364 ≤ r.pr ∧ 42949672 < Q)) ∧ wx = w1)
  case first =>
    by_cases c1 : 214748364 ≤ r.pr <;> by_cases c2 : 42949672 < Q
    all_goals
      go_wp2_with fail
      go_meet
      case rel => exact ⟨congrArg Value.bool (by simp <;> omega), rfl⟩
  case rest =>
  obtain ⟨rfl, rfl⟩ := hcut
  go_upto_if 37 with fail
  go_cut [5] from 6 (fun s5 wx => s5 = .int .i64 Q1 ∧ wx = wc)
  case first =>
    cases cc : decide (214748364 ≤ r.pr ∧ 42949672 < Q)
    all_goals
      have hh := HQ1.out
      have HH : Hid (Q1 = if 214748364 ≤ r.pr ∧ 42949672 < Q then 42949672 else Q) := hh.symm
      clear hh HQ1
      go_wp2_with fail
      go_meet
      case rel => refine ⟨?_, rfl⟩; rw [HH.out]; simp at cc; congr 1; split <;> omega
  case rest =>
  obtain ⟨rfl, rfl⟩ := hcut
  clear HQ1 hQ' hq
  go_upto_if 39 with fail
  go_cut [5] from 6 (fun s5 wx => s5 = .int .i64 C ∧ wx = wc)
  case first =>
    by_cases c1 : 250000000 < d
    all_goals
      go_wp2_with fail
      go_meet
      case rel => refine ⟨?_, rfl⟩; rw [HC.out]; congr 1; split <;> omega
  case rest =>
  obtain ⟨rfl, rfl⟩ := hcut
  clear HC hq1
  obtain ⟨D, hD⟩ : ∃ D, (r.pr + C).tdiv 64 = D := ⟨_, rfl⟩
  have hDb := tdiv_bd (a := r.pr + C) (b := 64) (by omega)
  rw [hD] at hDb HP0
  have hDb' : -50000000000000 ≤ D ∧ D ≤ 50000000000000 := by split at hDb <;> omega
  clear hDb
  have fz := (Sits.frozen S1.out)
  go_upto_region 7 with fail
  obtain ⟨W2, hW2⟩ : ∃ W, wc.setCell ⟨B, 1, none⟩ (.int .i64 (r.pr + C)) = W := ⟨_, rfl⟩
  rw [hW2]
  have s2 : Sits W2 B (peCells ⟨r.tg, r.pr + C, r.od, r.bu⟩) t := hW2 ▸ pe_s1 S1.out (r.pr + C)
  have o2 : Only B w W2 := hW2 ▸ o1.set 1 _
  clear q0 q1 q2 q3 fz o1 S1 hW2
  obtain ⟨q0, q1, q2, q3⟩ := pe_cells s2
  have fz := s2.frozen
  have S2 : Hid _ := s2
  clear s2
  go_cut [59] from 6 (fun s wx => s = .bool (decide (d = 0 ∧ r.od = 0)) ∧ wx = W2)
  case first =>
    have hcs : (Hid (¬ (d = 0 ∧ r.od = 0)) ∧ (d == 0) = false) ∨ (Hid (d = 0 ∧ r.od = 0) ∧ (d == 0) = true ∧ (r.od == 0) = true) ∨ (Hid (¬ (d = 0 ∧ r.od = 0)) ∧ (d == 0) = true ∧ (r.od == 0) = false) := by
      by_cases c1 : d = 0
      · by_cases c2 : r.od = 0
        · exact .inr (.inl ⟨⟨c1, c2⟩, by simpa using c1, by simpa using c2⟩)
        · exact .inr (.inr ⟨fun h => c2 h.2, by simpa using c1, by simpa using c2⟩)
      · exact .inl ⟨fun h => c1 h.1, by simpa using c1⟩
    rcases hcs with ⟨c1, e1⟩ | ⟨c1, e1, e2⟩ | ⟨c1, e1, e2⟩
    all_goals
      go_wp2_with fail
      go_meet
      case rel => first | exact ⟨congrArg Value.bool (decide_eq_true c1.out).symm, rfl⟩ | exact ⟨congrArg Value.bool (decide_eq_false c1.out).symm, rfl⟩
  case rest =>
  obtain ⟨rfl, rfl⟩ := hcut
  go_upto_if 59 with fail
  go_cut [] from 6 (fun wx => Sits wx B (peCells ⟨r.tg, P0, r.od, r.bu⟩) t ∧ Only B w wx)
  case first =>
    cases cc : decide (d = 0 ∧ r.od = 0)
    case false =>
      have hp : Hid (P0 = r.pr + C) := by have h := HP0.out; rw [if_neg (by simpa using cc)] at h; exact h
      go_wp2_with fail
      go_meet
      case rel => rw [hp.out]; exact ⟨S2.out, o2⟩
    case true =>
      have hp : Hid (P0 = r.pr + C - D) := by have h := HP0.out; rw [if_pos (by simpa using cc)] at h; exact h
      go_wp2_with fail
      go_region
      go_wp2_with fail
      go_meet
      case rel => rw [hp.out]; exact ⟨(pe_s1 S2.out _).drew, (o2.set 1 _).drew⟩
  case rest =>
  obtain ⟨s3, o3⟩ := hcut
  clear HP0 hD hDb' q0 q1 q2 q3 fz o2 S2
  obtain ⟨q0, q1, q2, q3⟩ := pe_cells s3
  have fz := s3.frozen
  have S3 : Hid _ := s3
  clear s3
  have hp := HP.out
  have HP' : Hid (P = if P0 < 0 then 0 else if 2147483648 < P0 then 2147483648 else P0) := hp
  clear hp HP
  go_upto_if 77 with fail
  go_cut [] from 6 (fun wx => Sits wx B (peCells ⟨r.tg, if P0 < 0 then 0 else P0, r.od, r.bu⟩) t ∧ Only B w wx)
  case first =>
    by_cases c1 : P0 < 0
    · go_wp2_with fail
      go_meet
      case rel => rw [if_pos c1]; exact ⟨pe_s1 S3.out _, o3.set 1 _⟩
    · go_wp2_with fail
      go_meet
      case rel => rw [if_neg (by omega)]; exact ⟨S3.out, o3⟩
  case rest =>
  obtain ⟨s4, o4⟩ := hcut
  clear q0 q1 q2 q3 fz o3 S3
  obtain ⟨P1, hP1⟩ : ∃ P1, (if P0 < 0 then 0 else P0) = P1 := ⟨_, rfl⟩
  rw [hP1] at s4
  have hPP : Hid (P = if 2147483648 < P1 then 2147483648 else P1) := by show _ = _; rw [HP'.out, ← hP1]; (repeat' split) <;> omega
  clear hP1 HP'
  obtain ⟨q0, q1, q2, q3⟩ := pe_cells s4
  have fz := s4.frozen
  have S4 : Hid _ := s4
  clear s4
  go_upto_if 85 with fail
  go_cut [] from 6 (fun wx => Sits wx B (peCells ⟨r.tg, P, r.od, r.bu⟩) t ∧ Only B w wx)
  case first =>
    by_cases c1 : 2147483648 < P1
    · go_wp2_with fail
      go_meet
      case rel => rw [hPP.out, if_pos c1]; exact ⟨pe_s1 S4.out _, o4.set 1 _⟩
    · go_wp2_with fail
      go_meet
      case rel => rw [hPP.out, if_neg (by omega)]; exact ⟨S4.out, o4⟩
  case rest =>
  obtain ⟨s5, o5⟩ := hcut
  clear q0 q1 q2 q3 fz o4 S4 hPP
  obtain ⟨q0, q1, q2, q3⟩ := pe_cells s5
  have fz := s5.frozen
  have S5 : Hid _ := s5
  clear s5
  go_upto_if 93 with fail
  go_cut [] from 6 (fun wx => Sits wx B (peCells ⟨r.tg, P, r.od, if 15000000 < r.bu then r.bu - 15000000 else 0⟩) t ∧ Only B w wx)
  case first =>
    by_cases c1 : 15000000 < r.bu
    · go_wp2_with fail
      go_meet
      case rel => rw [if_pos c1]; exact ⟨pe_s3 S5.out _, o5.set 3 _⟩
    · go_wp2_with fail
      go_meet
      case rel => rw [if_neg (by omega)]; exact ⟨pe_s3 S5.out _, o5.set 3 _⟩
  case rest =>
  obtain ⟨s6, o6⟩ := hcut
  clear q0 q1 q2 q3 fz o5 S5
  obtain ⟨b, hb⟩ : ∃ b, (if 15000000 < r.bu then r.bu - 15000000 else 0) = b := ⟨_, rfl⟩
  rw [hb] at s6 HBu
  clear hb
  obtain ⟨T, hT⟩ : ∃ T, r.tg.tdiv 2 = T := ⟨_, rfl⟩
  rw [hT] at HBu
  have hTb : 0 ≤ T ∧ T ≤ 1000000000 := by rw [← hT, Int.tdiv_eq_ediv_of_nonneg (by omega)]; omega
  obtain ⟨q0, q1, q2, q3⟩ := pe_cells s6
  have fz := s6.frozen
  have S6 : Hid _ := s6
  clear s6
  go_upto_region 16 with fail
  go_cut [130] from 6 (fun s wx => s = .bool (decide (P = 0 ∧ d < T ∧ r.od < T)) ∧ Sits wx B (peCells ⟨r.tg, P, r.od, b⟩) t ∧ Only B w wx)
  case first =>
    have hcs : (Hid (¬ (P = 0 ∧ d < T ∧ r.od < T)) ∧ (P == 0) = false) ∨ (Hid (¬ (P = 0 ∧ d < T ∧ r.od < T)) ∧ (P == 0) = true ∧ decide (d < T) = false) ∨ (Hid (¬ (P = 0 ∧ d < T ∧ r.od < T)) ∧ (P == 0) = true ∧ decide (d < T) = true ∧ decide (r.od < T) = false) ∨ (Hid (P = 0 ∧ d < T ∧ r.od < T) ∧ (P == 0) = true ∧ decide (d < T) = true ∧ decide (r.od < T) = true) := by
      by_cases c1 : P = 0
      · by_cases c2 : d < T
        · by_cases c3 : r.od < T
          · exact .inr (.inr (.inr ⟨⟨c1, c2, c3⟩, by simpa using c1, by simpa using c2, by simpa using c3⟩))
          · exact .inr (.inr (.inl ⟨fun h => c3 h.2.2, by simpa using c1, by simpa using c2, by simpa using c3⟩))
        · exact .inr (.inl ⟨fun h => c2 h.2.1, by simpa using c1, by simpa using c2⟩)
      · exact .inl ⟨fun h => c1 h.1, by simpa using c1⟩
    rcases hcs with ⟨c1, e1⟩ | ⟨c1, e1, e2⟩ | ⟨c1, e1, e2, e3⟩ | ⟨c1, e1, e2, e3⟩
    all_goals
      go_region
      go_wp2_with fail
      go_meet
      case rel => first | exact ⟨congrArg Value.bool (decide_eq_true c1.out).symm, Sits.drew S6.out, o6.drew⟩ | exact ⟨congrArg Value.bool (decide_eq_false c1.out).symm, Sits.drew S6.out, o6.drew⟩
  case rest =>
  obtain ⟨rfl, s7, o7⟩ := hcut
  clear q0 q1 q2 q3 fz o6 S6
  obtain ⟨q0, q1, q2, q3⟩ := pe_cells s7
  have fz := s7.frozen
  have S7 : Hid _ := s7
  clear s7
  cases cc : decide (P = 0 ∧ d < T ∧ r.od < T)
  case false =>
    have hu : Hid (N = ⟨r.tg, P, d, b⟩) := by show _ = _; rw [HN.out, HBu.out, if_neg (by simpa using cc)]
    go_wp2_with fail
    go_end0
    exact ⟨rfl, by rw [hu.out]; exact pe_s2 S7.out _, o7.set 2 _⟩
  case true =>
    have hu : Hid (N = ⟨r.tg, P, d, 150000000⟩) := by show _ = _; rw [HN.out, HBu.out, if_pos (by simpa using cc)]
    go_wp2_with fail
    go_end0
    exact ⟨rfl, by rw [hu.out]; exact pe_s2 (pe_s3 S7.out _) _, (o7.set 3 _).set 2 _⟩

end Go.Proofs.YtkeccjomnmpcoacDoor
