/-
  THE SPECIFICATION's l5pop, where Dropping begins.
-/
import Derived.Test.YtlhiadehohikdaaHitS
import Derived.Test.YtlhiadehohikdaaCPopL
import Derived.Deep.RegionHeld3
namespace Go.Proofs.Ytlhiadehohikdaa
open Go.RowKit
set_option linter.unusedVariables false

theorem Save.mono {B H H' : Nat} {w w' : World} (h : Save B H w w') (hH : H' ≤ H) : Save B H' w w' := ⟨h.os, h.tape, h.output, h.size, fun k hk hn => h.block k (by omega) hn⟩
theorem saveN {B H : Nat} {w w' : World} (h : Save B H w w') (k : Nat) : Save B H w (w'.drewN k) := ⟨h.os, h.tape, h.output, h.size, h.block⟩

set_option maxRecDepth 100000 in
set_option maxHeartbeats 8000000 in
theorem l5pop_begin (c : Cd) (B : Nat) (t : TypeId) (a : Option Addr) (n cap : Nat) (f : Nat → Pk) (lim now : Int) (w : World) (hs : Sits w B (cdCells c) t) (hnc : n ≤ cap) (hP : PR w.heap.size w a n f) (Pb : Nat → Prop) (hPb : ∀ b, Pb b → b ≠ B) (hPn : ∀ b, w.heap.size ≤ b → Pb b) (hab : ∀ b off, a = some ⟨b, off, none⟩ → Pb b) (hl : lookB c f n lim now = true) (hb : lateB c f n now = true) (hd : c.dr = false) (R : Res) (hR : popR f n now c = R) :
    Calls Try.prog 21 #[.pointer (some ⟨B, 0, none⟩), .slice a n cap, .int .i64 now] w fun e w' => ∃ (a' : Option Addr) (k : Nat) (y : Option Addr) (l : Nat), e = .returned (.tuple #[.slice a' (n - R.m) k, .slice y R.m l]) ∧ Sits w' B (cdCells R.c) t ∧ PR w'.heap.size w' a' (n - R.m) (outF f R) ∧ (∀ b off, a' = some ⟨b, off, none⟩ → Pb b) ∧ n - R.m ≤ k ∧ PO w.heap.size w' y R.m l f ∧ Save B w.heap.size w w' := by
  have HS : Hid (Sits w B (cdCells c) t) := hs
  have hBl := hs.lt
  have HP : Hid (PR w.heap.size w a n f) := hP
  have HAB : Hid (∀ b off, a = some ⟨b, off, none⟩ → Pb b) := hab
  clear hs hP hab
  obtain ⟨hg, hf, hi, _⟩ := look_parts hl
  obtain ⟨n0, n1⟩ : 0 ≤ now ∧ now ≤ 1000000000000 := by simpa [inB] using hi
  obtain ⟨f1, f2, f3, f4⟩ := fifo_nums hf
  have HA : Hid (∀ j, j < n → (f j).good = true) := fun j hj => (f4 j hj).1
  have hn40 : n ≤ 40 := by omega
  have hdr := (lateC_nx c f n now).2.2.2.2.1
  have hgq := lateC_good (f := f) (n := n) hg n0 n1
  have hnz := late_pos hb
  obtain ⟨q, hq⟩ : ∃ q, lateC c f n now = q := ⟨_, rfl⟩
  have HQ : Hid (lateC c f n now = q) := hq
  have hRq : begR f n now q = R := by
    unfold popR at hR
    rw [if_neg (by rw [hb]; decide), hd, hq] at hR
    simpa using hR
  rw [hq] at hgq
  rw [hq, hd] at hdr
  clear hq f4 hf hi hR hl
  have hz' : ((n : Int) == 0) = false := by simp; omega
  by_cases he : (f 0).ecn = 0
  · have hR2 : Res.mk (begC (lateC q (shiftF f 1) (n - 1) now) now) 1 false = R := by unfold begR at hRq; rw [if_neg (by simpa using he)] at hRq; exact hRq
    obtain ⟨p, hp⟩ : ∃ p, lateC q (shiftF f 1) (n - 1) now = p := ⟨_, rfl⟩
    rw [hp] at hR2
    have HR2 : Hid (Res.mk (begC p now) 1 false = R) := hR2
    have hgp : p.good = true := by rw [← hp]; exact lateC_good hgq n0 n1
    have HDrop : Hid (∀ W2, Sits W2 B (cdCells q) t → PR w.heap.size W2 a n f → w.heap.size ≤ W2.heap.size → Calls Try.prog 29 #[.pointer (some ⟨B, 0, none⟩), .slice a n cap, .slice none 0 0, .int .i64 now] W2 fun e w' => ∃ (a' : Option Addr) (y' : Option Addr) (l' : Nat) (b' : Bool), e = .returned (.tuple #[.slice a' (n - 1) (cap - 1), .slice y' 1 l', .bool b', .bool false]) ∧ Sits w' B (cdCells p) t ∧ PR w.heap.size w' a' (n - 1) (shiftF f 1) ∧ (∀ b off, a' = some ⟨b, off, none⟩ → Pb b) ∧ PO w.heap.size w' y' 1 l' f ∧ Save B w.heap.size W2 w') := fun W2 q1 q2 q4 => by
      have h := l5hit_drop q B w.heap.size t a n cap f none 0 0 f now W2 q1 hBl q4 hn40 hnz hnc (by omega) q2 Pb hPb HAB.out (PO.nil _ _ _) he HA.out hgq n0 n1
      have e1 : putAt f 0 (f 0) = f := by have := putAt_self f 0; rwa [shiftF_0] at this
      have e2 : popF f = shiftF f 1 := by have := popF_shift f 0; rwa [shiftF_0] at this
      rw [e1, e2, hp, Nat.zero_add] at h
      refine h.mono ?_
      rintro e w' ⟨a', y', l', rfl, r1, r2, r3, r4, r5⟩
      exact ⟨a', y', l', _, rfl, r1, r2, r3, r4, r5⟩
    clear hRq hR2 hp hgq
    obtain ⟨g1, g2, g3, g4, g5, g6, g7, g8, g9, g10, g11⟩ := p.good_iff.1 hgp
    go_enter Try.func21, Try.ntmps21
    go_wp2_with (first | (go_at_call 28; refine (l5late_any c B t a n cap f now w HS.out hn40 HP.out HA.out hg n0 n1).mono ?_; rintro e w1 ⟨rfl, s1, o1⟩; rw [hb]; rw [HQ.out] at s1; obtain ⟨c0, c1, c2, c3, c4, c5, c6⟩ := cd_cells s1; rw [hdr] at c6; have fz := s1.frozen; have S1 : Hid _ := s1; clear s1) | (go_at_call 29; refine (HDrop.out w1 S1.out (PR.save HP.out (Save.of_only o1 (Nat.le_refl _)) (fun b o e => hPb b (HAB.out b o e))) o1.size).mono ?_; rintro e w3 ⟨a3, y3, l3, b3, rfl, s3, p3, hb3, q3, v3⟩; clear c0 c1 c2 c3 c4 c5 c6 fz; obtain ⟨c0, c1, c2, c3, c4, c5, c6⟩ := cd_cells s3; have fz := s3.frozen; have S3 : Hid _ := s3; have P3 : Hid _ := p3; have Q3 : Hid _ := q3; have V3 : Hid _ := v3; clear s3 p3 q3 v3))
    have hMb := moreF_bd (now := now) g8 g9 g10 g11
    obtain ⟨u, hu⟩ : ∃ u, moreF p now = u := ⟨_, rfl⟩
    rw [hu] at hMb
    obtain ⟨u0, u1⟩ := hMb
    have hcs : (p.ct - p.la ≤ 1 ∧ u = 1) ∨ (¬ p.ct - p.la ≤ 1 ∧ 16 * p.iv ≤ now - p.nx ∧ u = 1) ∨ (¬ p.ct - p.la ≤ 1 ∧ ¬ 16 * p.iv ≤ now - p.nx ∧ u = p.ct - p.la) := by rw [← hu]; unfold moreF; split <;> omega
    have g3i : 1 ≤ p.iv := by omega
    have HU : Hid (moreF p now = u) := hu
    clear hu
    rcases hcs with ⟨e1, e3⟩ | ⟨e1, e2, e3⟩ | ⟨e1, e2, e3⟩
    · subst e3
      have e1' : decide (1 < p.ct - p.la) = false := by simp; omega
      go_quiet (fail)
      revert nq; intro q1
      go_wp2
      go_quiet (fail)
      revert nq; intro q2
      go_wp2
      obtain ⟨W5, hW5⟩ : ∃ W5, ((w3.setCell ⟨B, 6, none⟩ (.bool true)).drewN (q1 + q2)).setCell ⟨B, 4, none⟩ (.int .i64 (1)) = W5 := ⟨_, rfl⟩
      have s5 : Sits W5 B (cdCells ⟨p.tg, p.iv, p.fi, p.nx, 1, p.la, true⟩) t := by rw [← hW5]; exact cd_s4 (W := (w3.setCell ⟨B, 6, none⟩ (.bool true)).drewN (q1 + q2)) (cd_s6 S3.out true) _
      have v5 : Save B w3.heap.size w3 W5 := by rw [← hW5]; exact Save.set (w' := (w3.setCell ⟨B, 6, none⟩ (.bool true)).drewN (q1 + q2)) (saveN ((Save.refl B w3.heap.size w3).set 6 _) _) 4 _
      have h5 : W5.heap.size = w3.heap.size := by rw [← hW5]; simp [World.drewN]
      rw [hW5]
      clear hW5 c0 c1 c2 c3 c4 c5 c6 fz
      obtain ⟨c0, c1, c2, c3, c4, c5, c6⟩ := cd_cells s5
      have fz := s5.frozen
      have S5 : Hid _ := s5
      have V5 : Hid _ := v5
      clear s5 v5
      dsimp only at c0 c1 c2 c3 c4 c5 c6
      go_region_held3 (fun w' => w'.cell? ⟨B, 1, none⟩ = some (.int .i64 p.iv) ∧ w'.cell? ⟨B, 4, none⟩ = some (.int .i64 (1))) (first | exact ⟨c1, c4⟩ | exact ⟨(cd_cells (Sits.drew (cd_s3 S5.out _))).2.1, (cd_cells (Sits.drew (cd_s3 S5.out _))).2.2.2.2.1⟩) (first | (go_at_call 30; refine (l5control_any now p.iv (1) n0 n1 g3i g3 (by omega) (by omega) _).mono ?_; rintro e w4 ⟨rfl, rfl⟩))
      all_goals
        go_wp2
        have hRR := HR2.out
        subst hRR
        have sv : Save B w3.heap.size w3 ((W5.setCell ⟨B, 3, none⟩ (.int .i64 (nextF now p.iv (1)))).setCell ⟨B, 5, none⟩ (.int .i64 (1))).drew := Save.drew (Save.set (Save.set V5.out 3 _) 5 _)
        have hs3 := V3.out.size
        have hs1 := o1.size
        refine bodyPost_ret (v := .tuple #[.slice a3 (n - 1) (cap - 1), .slice y3 1 l3]) (by simp [results, Try.results21, go_sem]) rfl ⟨a3, cap - 1, y3, l3, rfl, ?_, ?_, hb3, (by show n - 1 ≤ cap - 1; omega), ?_, ?_⟩
        · show Sits _ B (cdCells (begC p now)) t
          unfold begC
          rw [HU.out]
          exact Sits.drew (cd_s5 (cd_s3 S5.out _) _)
        · refine PR.mono (n₀ := w.heap.size) ?_ (by rw [size_drew]; simp [h5]; omega)
          show PR w.heap.size _ a3 (n - 1) (shiftF f 1)
          exact PR.save P3.out (sv.mono (by omega)) (fun b o e => hPb b (hb3 b o e))
        · exact PO.keep Q3.out fun i hi hi2 => sv.block i hi2 (by omega)
        · exact (Save.of_only o1 (Nat.le_refl _)).trans (V3.out.trans (sv.mono (by omega)))
    · subst e3
      have e1' : 1 < p.ct - p.la := by omega
      have e2' : decide (now - p.nx < 16 * p.iv) = false := by simp; omega
      go_quiet (fail)
      revert nq; intro q1
      go_wp2
      go_quiet (fail)
      revert nq; intro q2
      go_wp2
      obtain ⟨W5, hW5⟩ : ∃ W5, ((w3.setCell ⟨B, 6, none⟩ (.bool true)).drewN (q1 + q2)).setCell ⟨B, 4, none⟩ (.int .i64 (1)) = W5 := ⟨_, rfl⟩
      have s5 : Sits W5 B (cdCells ⟨p.tg, p.iv, p.fi, p.nx, 1, p.la, true⟩) t := by rw [← hW5]; exact cd_s4 (W := (w3.setCell ⟨B, 6, none⟩ (.bool true)).drewN (q1 + q2)) (cd_s6 S3.out true) _
      have v5 : Save B w3.heap.size w3 W5 := by rw [← hW5]; exact Save.set (w' := (w3.setCell ⟨B, 6, none⟩ (.bool true)).drewN (q1 + q2)) (saveN ((Save.refl B w3.heap.size w3).set 6 _) _) 4 _
      have h5 : W5.heap.size = w3.heap.size := by rw [← hW5]; simp [World.drewN]
      rw [hW5]
      clear hW5 c0 c1 c2 c3 c4 c5 c6 fz
      obtain ⟨c0, c1, c2, c3, c4, c5, c6⟩ := cd_cells s5
      have fz := s5.frozen
      have S5 : Hid _ := s5
      have V5 : Hid _ := v5
      clear s5 v5
      dsimp only at c0 c1 c2 c3 c4 c5 c6
      go_region_held3 (fun w' => w'.cell? ⟨B, 1, none⟩ = some (.int .i64 p.iv) ∧ w'.cell? ⟨B, 4, none⟩ = some (.int .i64 (1))) (first | exact ⟨c1, c4⟩ | exact ⟨(cd_cells (Sits.drew (cd_s3 S5.out _))).2.1, (cd_cells (Sits.drew (cd_s3 S5.out _))).2.2.2.2.1⟩) (first | (go_at_call 30; refine (l5control_any now p.iv (1) n0 n1 g3i g3 (by omega) (by omega) _).mono ?_; rintro e w4 ⟨rfl, rfl⟩))
      all_goals
        go_wp2
        have hRR := HR2.out
        subst hRR
        have sv : Save B w3.heap.size w3 ((W5.setCell ⟨B, 3, none⟩ (.int .i64 (nextF now p.iv (1)))).setCell ⟨B, 5, none⟩ (.int .i64 (1))).drew := Save.drew (Save.set (Save.set V5.out 3 _) 5 _)
        have hs3 := V3.out.size
        have hs1 := o1.size
        refine bodyPost_ret (v := .tuple #[.slice a3 (n - 1) (cap - 1), .slice y3 1 l3]) (by simp [results, Try.results21, go_sem]) rfl ⟨a3, cap - 1, y3, l3, rfl, ?_, ?_, hb3, (by show n - 1 ≤ cap - 1; omega), ?_, ?_⟩
        · show Sits _ B (cdCells (begC p now)) t
          unfold begC
          rw [HU.out]
          exact Sits.drew (cd_s5 (cd_s3 S5.out _) _)
        · refine PR.mono (n₀ := w.heap.size) ?_ (by rw [size_drew]; simp [h5]; omega)
          show PR w.heap.size _ a3 (n - 1) (shiftF f 1)
          exact PR.save P3.out (sv.mono (by omega)) (fun b o e => hPb b (hb3 b o e))
        · exact PO.keep Q3.out fun i hi hi2 => sv.block i hi2 (by omega)
        · exact (Save.of_only o1 (Nat.le_refl _)).trans (V3.out.trans (sv.mono (by omega)))
    · subst e3
      have e1' : 1 < p.ct - p.la := by omega
      have e2' : now - p.nx < 16 * p.iv := by omega
      go_quiet (fail)
      revert nq; intro q1
      go_wp2
      go_quiet (fail)
      revert nq; intro q2
      go_wp2
      obtain ⟨W5, hW5⟩ : ∃ W5, ((w3.setCell ⟨B, 6, none⟩ (.bool true)).drewN (q1 + q2)).setCell ⟨B, 4, none⟩ (.int .i64 (p.ct - p.la)) = W5 := ⟨_, rfl⟩
      have s5 : Sits W5 B (cdCells ⟨p.tg, p.iv, p.fi, p.nx, p.ct - p.la, p.la, true⟩) t := by rw [← hW5]; exact cd_s4 (W := (w3.setCell ⟨B, 6, none⟩ (.bool true)).drewN (q1 + q2)) (cd_s6 S3.out true) _
      have v5 : Save B w3.heap.size w3 W5 := by rw [← hW5]; exact Save.set (w' := (w3.setCell ⟨B, 6, none⟩ (.bool true)).drewN (q1 + q2)) (saveN ((Save.refl B w3.heap.size w3).set 6 _) _) 4 _
      have h5 : W5.heap.size = w3.heap.size := by rw [← hW5]; simp [World.drewN]
      rw [hW5]
      clear hW5 c0 c1 c2 c3 c4 c5 c6 fz
      obtain ⟨c0, c1, c2, c3, c4, c5, c6⟩ := cd_cells s5
      have fz := s5.frozen
      have S5 : Hid _ := s5
      have V5 : Hid _ := v5
      clear s5 v5
      dsimp only at c0 c1 c2 c3 c4 c5 c6
      go_region_held3 (fun w' => w'.cell? ⟨B, 1, none⟩ = some (.int .i64 p.iv) ∧ w'.cell? ⟨B, 4, none⟩ = some (.int .i64 (p.ct - p.la))) (first | exact ⟨c1, c4⟩ | exact ⟨(cd_cells (Sits.drew (cd_s3 S5.out _))).2.1, (cd_cells (Sits.drew (cd_s3 S5.out _))).2.2.2.2.1⟩) (first | (go_at_call 30; refine (l5control_any now p.iv (p.ct - p.la) n0 n1 g3i g3 (by omega) (by omega) _).mono ?_; rintro e w4 ⟨rfl, rfl⟩))
      all_goals
        go_wp2
        have hRR := HR2.out
        subst hRR
        have sv : Save B w3.heap.size w3 ((W5.setCell ⟨B, 3, none⟩ (.int .i64 (nextF now p.iv (p.ct - p.la)))).setCell ⟨B, 5, none⟩ (.int .i64 (p.ct - p.la))).drew := Save.drew (Save.set (Save.set V5.out 3 _) 5 _)
        have hs3 := V3.out.size
        have hs1 := o1.size
        refine bodyPost_ret (v := .tuple #[.slice a3 (n - 1) (cap - 1), .slice y3 1 l3]) (by simp [results, Try.results21, go_sem]) rfl ⟨a3, cap - 1, y3, l3, rfl, ?_, ?_, hb3, (by show n - 1 ≤ cap - 1; omega), ?_, ?_⟩
        · show Sits _ B (cdCells (begC p now)) t
          unfold begC
          rw [HU.out]
          exact Sits.drew (cd_s5 (cd_s3 S5.out _) _)
        · refine PR.mono (n₀ := w.heap.size) ?_ (by rw [size_drew]; simp [h5]; omega)
          show PR w.heap.size _ a3 (n - 1) (shiftF f 1)
          exact PR.save P3.out (sv.mono (by omega)) (fun b o e => hPb b (hb3 b o e))
        · exact PO.keep Q3.out fun i hi hi2 => sv.block i hi2 (by omega)
        · exact (Save.of_only o1 (Nat.le_refl _)).trans (V3.out.trans (sv.mono (by omega)))
  · have hR2 : Res.mk (begC q now) 0 true = R := by unfold begR at hRq; rw [if_pos he] at hRq; exact hRq
    have HR2 : Hid (Res.mk (begC q now) 0 true = R) := hR2
    clear hRq hR2
    obtain ⟨g1, g2, g3, g4, g5, g6, g7, g8, g9, g10, g11⟩ := q.good_iff.1 hgq
    go_enter Try.func21, Try.ntmps21
    go_wp2_with (first | (go_at_call 28; refine (l5late_any c B t a n cap f now w HS.out hn40 HP.out HA.out hg n0 n1).mono ?_; rintro e w1 ⟨rfl, s1, o1⟩; rw [hb]; rw [HQ.out] at s1; obtain ⟨c0, c1, c2, c3, c4, c5, c6⟩ := cd_cells s1; rw [hdr] at c6; have fz := s1.frozen; have S1 : Hid _ := s1; clear s1) | (go_at_call 29; refine (l5hit_mark B w.heap.size a n cap f _ now w1 hn40 hnz (PR.save HP.out (Save.of_only o1 (Nat.le_refl _)) (fun b o e => hPb b (HAB.out b o e))) o1.size he).mono ?_; rintro e w3 ⟨x3, k3, rfl, p3, hk3, hg3, b3⟩; have s3 := Sits.below S1.out b3 (Sits.lt S1.out); clear c0 c1 c2 c3 c4 c5 c6 fz; obtain ⟨c0, c1, c2, c3, c4, c5, c6⟩ := cd_cells s3; have fz := s3.frozen; have S3 : Hid _ := s3; have P3 : Hid _ := p3; clear s3 p3))
    have hMb := moreF_bd (now := now) g8 g9 g10 g11
    obtain ⟨u, hu⟩ : ∃ u, moreF q now = u := ⟨_, rfl⟩
    rw [hu] at hMb
    obtain ⟨u0, u1⟩ := hMb
    have hcs : (q.ct - q.la ≤ 1 ∧ u = 1) ∨ (¬ q.ct - q.la ≤ 1 ∧ 16 * q.iv ≤ now - q.nx ∧ u = 1) ∨ (¬ q.ct - q.la ≤ 1 ∧ ¬ 16 * q.iv ≤ now - q.nx ∧ u = q.ct - q.la) := by rw [← hu]; unfold moreF; split <;> omega
    have g3i : 1 ≤ q.iv := by omega
    have HU : Hid (moreF q now = u) := hu
    clear hu
    rcases hcs with ⟨e1, e3⟩ | ⟨e1, e2, e3⟩ | ⟨e1, e2, e3⟩
    · subst e3
      have e1' : decide (1 < q.ct - q.la) = false := by simp; omega
      go_quiet (fail)
      revert nq; intro q1
      go_wp2
      go_quiet (fail)
      revert nq; intro q2
      go_wp2
      obtain ⟨W5, hW5⟩ : ∃ W5, ((w3.setCell ⟨B, 6, none⟩ (.bool true)).drewN (q1 + q2)).setCell ⟨B, 4, none⟩ (.int .i64 (1)) = W5 := ⟨_, rfl⟩
      have s5 : Sits W5 B (cdCells ⟨q.tg, q.iv, q.fi, q.nx, 1, q.la, true⟩) t := by rw [← hW5]; exact cd_s4 (W := (w3.setCell ⟨B, 6, none⟩ (.bool true)).drewN (q1 + q2)) (cd_s6 S3.out true) _
      have v5 : Save B w3.heap.size w3 W5 := by rw [← hW5]; exact Save.set (w' := (w3.setCell ⟨B, 6, none⟩ (.bool true)).drewN (q1 + q2)) (saveN ((Save.refl B w3.heap.size w3).set 6 _) _) 4 _
      have h5 : W5.heap.size = w3.heap.size := by rw [← hW5]; simp [World.drewN]
      rw [hW5]
      clear hW5 c0 c1 c2 c3 c4 c5 c6 fz
      obtain ⟨c0, c1, c2, c3, c4, c5, c6⟩ := cd_cells s5
      have fz := s5.frozen
      have S5 : Hid _ := s5
      have V5 : Hid _ := v5
      clear s5 v5
      dsimp only at c0 c1 c2 c3 c4 c5 c6
      go_region_held3 (fun w' => w'.cell? ⟨B, 1, none⟩ = some (.int .i64 q.iv) ∧ w'.cell? ⟨B, 4, none⟩ = some (.int .i64 (1))) (first | exact ⟨c1, c4⟩ | exact ⟨(cd_cells (Sits.drew (cd_s3 S5.out _))).2.1, (cd_cells (Sits.drew (cd_s3 S5.out _))).2.2.2.2.1⟩) (first | (go_at_call 30; refine (l5control_any now q.iv (1) n0 n1 g3i g3 (by omega) (by omega) _).mono ?_; rintro e w4 ⟨rfl, rfl⟩))
      all_goals
        go_wp2
        have hRR := HR2.out
        subst hRR
        have sv : Save B w3.heap.size w3 ((W5.setCell ⟨B, 3, none⟩ (.int .i64 (nextF now q.iv (1)))).setCell ⟨B, 5, none⟩ (.int .i64 (1))).drew := Save.drew (Save.set (Save.set V5.out 3 _) 5 _)
        have hs3 := b3.size
        have hs1 := o1.size
        refine bodyPost_ret (v := .tuple #[.slice x3 n k3, .slice none 0 0]) (by simp [results, Try.results21, go_sem]) rfl ⟨x3, k3, none, 0, rfl, ?_, ?_, (fun b' o' e => hPn b' (Nat.le_trans o1.size (hg3 b' o' e))), hk3, PO.nil _ _ _, ?_⟩
        · show Sits _ B (cdCells (begC q now)) t
          unfold begC
          rw [HU.out]
          exact Sits.drew (cd_s5 (cd_s3 S5.out _) _)
        · refine PR.mono (n₀ := w3.heap.size) ?_ (by rw [size_drew]; simp [h5])
          show PR w3.heap.size _ x3 n (markF (shiftF f 0))
          rw [shiftF_0]
          exact PR.save P3.out sv (fun b' o' e => by have := hg3 b' o' e; omega)
        · exact (Save.of_only o1 (Nat.le_refl _)).trans ((Save.of_below (b3.mono hs1)).trans (sv.mono (by omega)))
    · subst e3
      have e1' : 1 < q.ct - q.la := by omega
      have e2' : decide (now - q.nx < 16 * q.iv) = false := by simp; omega
      go_quiet (fail)
      revert nq; intro q1
      go_wp2
      go_quiet (fail)
      revert nq; intro q2
      go_wp2
      obtain ⟨W5, hW5⟩ : ∃ W5, ((w3.setCell ⟨B, 6, none⟩ (.bool true)).drewN (q1 + q2)).setCell ⟨B, 4, none⟩ (.int .i64 (1)) = W5 := ⟨_, rfl⟩
      have s5 : Sits W5 B (cdCells ⟨q.tg, q.iv, q.fi, q.nx, 1, q.la, true⟩) t := by rw [← hW5]; exact cd_s4 (W := (w3.setCell ⟨B, 6, none⟩ (.bool true)).drewN (q1 + q2)) (cd_s6 S3.out true) _
      have v5 : Save B w3.heap.size w3 W5 := by rw [← hW5]; exact Save.set (w' := (w3.setCell ⟨B, 6, none⟩ (.bool true)).drewN (q1 + q2)) (saveN ((Save.refl B w3.heap.size w3).set 6 _) _) 4 _
      have h5 : W5.heap.size = w3.heap.size := by rw [← hW5]; simp [World.drewN]
      rw [hW5]
      clear hW5 c0 c1 c2 c3 c4 c5 c6 fz
      obtain ⟨c0, c1, c2, c3, c4, c5, c6⟩ := cd_cells s5
      have fz := s5.frozen
      have S5 : Hid _ := s5
      have V5 : Hid _ := v5
      clear s5 v5
      dsimp only at c0 c1 c2 c3 c4 c5 c6
      go_region_held3 (fun w' => w'.cell? ⟨B, 1, none⟩ = some (.int .i64 q.iv) ∧ w'.cell? ⟨B, 4, none⟩ = some (.int .i64 (1))) (first | exact ⟨c1, c4⟩ | exact ⟨(cd_cells (Sits.drew (cd_s3 S5.out _))).2.1, (cd_cells (Sits.drew (cd_s3 S5.out _))).2.2.2.2.1⟩) (first | (go_at_call 30; refine (l5control_any now q.iv (1) n0 n1 g3i g3 (by omega) (by omega) _).mono ?_; rintro e w4 ⟨rfl, rfl⟩))
      all_goals
        go_wp2
        have hRR := HR2.out
        subst hRR
        have sv : Save B w3.heap.size w3 ((W5.setCell ⟨B, 3, none⟩ (.int .i64 (nextF now q.iv (1)))).setCell ⟨B, 5, none⟩ (.int .i64 (1))).drew := Save.drew (Save.set (Save.set V5.out 3 _) 5 _)
        have hs3 := b3.size
        have hs1 := o1.size
        refine bodyPost_ret (v := .tuple #[.slice x3 n k3, .slice none 0 0]) (by simp [results, Try.results21, go_sem]) rfl ⟨x3, k3, none, 0, rfl, ?_, ?_, (fun b' o' e => hPn b' (Nat.le_trans o1.size (hg3 b' o' e))), hk3, PO.nil _ _ _, ?_⟩
        · show Sits _ B (cdCells (begC q now)) t
          unfold begC
          rw [HU.out]
          exact Sits.drew (cd_s5 (cd_s3 S5.out _) _)
        · refine PR.mono (n₀ := w3.heap.size) ?_ (by rw [size_drew]; simp [h5])
          show PR w3.heap.size _ x3 n (markF (shiftF f 0))
          rw [shiftF_0]
          exact PR.save P3.out sv (fun b' o' e => by have := hg3 b' o' e; omega)
        · exact (Save.of_only o1 (Nat.le_refl _)).trans ((Save.of_below (b3.mono hs1)).trans (sv.mono (by omega)))
    · subst e3
      have e1' : 1 < q.ct - q.la := by omega
      have e2' : now - q.nx < 16 * q.iv := by omega
      go_quiet (fail)
      revert nq; intro q1
      go_wp2
      go_quiet (fail)
      revert nq; intro q2
      go_wp2
      obtain ⟨W5, hW5⟩ : ∃ W5, ((w3.setCell ⟨B, 6, none⟩ (.bool true)).drewN (q1 + q2)).setCell ⟨B, 4, none⟩ (.int .i64 (q.ct - q.la)) = W5 := ⟨_, rfl⟩
      have s5 : Sits W5 B (cdCells ⟨q.tg, q.iv, q.fi, q.nx, q.ct - q.la, q.la, true⟩) t := by rw [← hW5]; exact cd_s4 (W := (w3.setCell ⟨B, 6, none⟩ (.bool true)).drewN (q1 + q2)) (cd_s6 S3.out true) _
      have v5 : Save B w3.heap.size w3 W5 := by rw [← hW5]; exact Save.set (w' := (w3.setCell ⟨B, 6, none⟩ (.bool true)).drewN (q1 + q2)) (saveN ((Save.refl B w3.heap.size w3).set 6 _) _) 4 _
      have h5 : W5.heap.size = w3.heap.size := by rw [← hW5]; simp [World.drewN]
      rw [hW5]
      clear hW5 c0 c1 c2 c3 c4 c5 c6 fz
      obtain ⟨c0, c1, c2, c3, c4, c5, c6⟩ := cd_cells s5
      have fz := s5.frozen
      have S5 : Hid _ := s5
      have V5 : Hid _ := v5
      clear s5 v5
      dsimp only at c0 c1 c2 c3 c4 c5 c6
      go_region_held3 (fun w' => w'.cell? ⟨B, 1, none⟩ = some (.int .i64 q.iv) ∧ w'.cell? ⟨B, 4, none⟩ = some (.int .i64 (q.ct - q.la))) (first | exact ⟨c1, c4⟩ | exact ⟨(cd_cells (Sits.drew (cd_s3 S5.out _))).2.1, (cd_cells (Sits.drew (cd_s3 S5.out _))).2.2.2.2.1⟩) (first | (go_at_call 30; refine (l5control_any now q.iv (q.ct - q.la) n0 n1 g3i g3 (by omega) (by omega) _).mono ?_; rintro e w4 ⟨rfl, rfl⟩))
      all_goals
        go_wp2
        have hRR := HR2.out
        subst hRR
        have sv : Save B w3.heap.size w3 ((W5.setCell ⟨B, 3, none⟩ (.int .i64 (nextF now q.iv (q.ct - q.la)))).setCell ⟨B, 5, none⟩ (.int .i64 (q.ct - q.la))).drew := Save.drew (Save.set (Save.set V5.out 3 _) 5 _)
        have hs3 := b3.size
        have hs1 := o1.size
        refine bodyPost_ret (v := .tuple #[.slice x3 n k3, .slice none 0 0]) (by simp [results, Try.results21, go_sem]) rfl ⟨x3, k3, none, 0, rfl, ?_, ?_, (fun b' o' e => hPn b' (Nat.le_trans o1.size (hg3 b' o' e))), hk3, PO.nil _ _ _, ?_⟩
        · show Sits _ B (cdCells (begC q now)) t
          unfold begC
          rw [HU.out]
          exact Sits.drew (cd_s5 (cd_s3 S5.out _) _)
        · refine PR.mono (n₀ := w3.heap.size) ?_ (by rw [size_drew]; simp [h5])
          show PR w3.heap.size _ x3 n (markF (shiftF f 0))
          rw [shiftF_0]
          exact PR.save P3.out sv (fun b' o' e => by have := hg3 b' o' e; omega)
        · exact (Save.of_only o1 (Nat.le_refl _)).trans ((Save.of_below (b3.mono hs1)).trans (sv.mono (by omega)))

end Go.Proofs.Ytlhiadehohikdaa
