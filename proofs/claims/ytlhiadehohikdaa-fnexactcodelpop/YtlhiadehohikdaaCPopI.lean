/-
  THE PROGRAM's CodelPop.
-/
import Derived.Test.YtlhiadehohikdaaCPopL
namespace Go.Proofs.Ytlhiadehohikdaa
open Go.RowKit
set_option linter.unusedVariables false

set_option maxHeartbeats 4000000 in
theorem icodelPop_cap (c : Cd) (a : Option Addr) (n cap : Nat) (f : Nat → Pk) (lim now : Int) (w : World) (hn : n ≤ 1048576) (hnc : n ≤ cap) (hP : PR w.heap.size w a n f) (h0 : -9223372036854775808 ≤ now) (h1 : now ≤ 9223372036854775807) :
    Calls Try.prog 8 #[c.val, fiVal a n cap lim, .int .i64 now] w fun e w' => ∃ (x : Option Addr) (k : Nat) (y : Option Addr) (l : Nat), e = .returned (.tuple #[(popC c f n lim now).val, fiVal x (popK c f n lim now) k (popT c f n lim now), .slice y (popM c f n lim now) l, (popU c f n lim now).val, .bool (popO c f n lim now)]) ∧ (∃ M : Nat, w.heap.size ≤ M ∧ M ≤ w'.heap.size ∧ ZI w.heap.size M w' y (popM c f n lim now * 6) (flat f) ∧ ZI M w'.heap.size w' x (popK c f n lim now * 6) (flat (popQ c f n lim now))) ∧ Below w.heap.size w w' ∧ popK c f n lim now ≤ k ∧ popM c f n lim now ≤ l := by
  have HP : Hid (PR w.heap.size w a n f) := hP
  clear hP
  obtain ⟨W0, hW0⟩ : ∃ W0, ((((w.alloc (.cells #[.int .i64 c.tg, .int .i64 c.iv, .int .i64 c.fi, .int .i64 c.nx, .int .i64 c.ct, .int .i64 c.la, .bool c.dr] 28)).alloc (.cells #[.slice a n cap, .int .i64 lim] 31)).alloc (.cells #[.int .i64 0, .int .i64 0, .int .i64 0, .int .i64 0, .int .i64 0, .int .i64 0, .bool false] 28)).alloc (.cells #[.slice none 0 0, .int .i64 0] 31)).alloc (.cells #[.int .i64 0, .int .i64 0, .int .i64 0, .int .i64 0, .int .i64 0, .int .i64 0] 33) = W0 := ⟨_, rfl⟩
  have B0 : Below w.heap.size w W0 := by rw [← hW0]; go_grown
  have lC : Sits W0 w.heap.size (cdCells c) 28 := by rw [← hW0]; exact ((((Sits.new _ _ _).alloc _).alloc _).alloc _).alloc _
  have lF : Sits W0 (w.heap.size + 1) #[.slice a n cap, .int .i64 lim] 31 := by rw [← hW0]; exact (((Sits.new' (by simp)).alloc _).alloc _).alloc _
  have lR : Sits W0 (w.heap.size + 1 + 1) (cdCells ⟨0, 0, 0, 0, 0, 0, false⟩) 28 := by rw [← hW0]; exact ((Sits.new' (by simp)).alloc _).alloc _
  have lQ : Sits W0 (w.heap.size + 1 + 1 + 1) #[.slice none 0 0, .int .i64 0] 31 := by rw [← hW0]; exact (Sits.new' (by simp)).alloc _
  have lP : Sits W0 (w.heap.size + 1 + 1 + 1 + 1) (pkCells ⟨0, 0, 0, 0, 0, 0⟩) 33 := by rw [← hW0]; exact Sits.new' (by simp)
  have H0 : Hid (PR W0.heap.size W0 a n f) := (PR.below HP.out B0).mono B0.size
  have LC : Hid (Sits W0 w.heap.size (cdCells c) 28) := lC
  have LF : Hid (Sits W0 (w.heap.size + 1) #[.slice a n cap, .int .i64 lim] 31) := lF
  have LR : Hid (Sits W0 (w.heap.size + 1 + 1) (cdCells ⟨0, 0, 0, 0, 0, 0, false⟩) 28) := lR
  have LQ : Hid (Sits W0 (w.heap.size + 1 + 1 + 1) #[.slice none 0 0, .int .i64 0] 31) := lQ
  have LP : Hid (Sits W0 (w.heap.size + 1 + 1 + 1 + 1) (pkCells ⟨0, 0, 0, 0, 0, 0⟩) 33) := lP
  have hs0 : w.heap.size + 1 + 1 + 1 + 1 < W0.heap.size := lP.lt
  obtain ⟨c0, c1, c2, c3, c4, c5, c6⟩ := cd_cells lC
  have x0 : W0.cell? ⟨w.heap.size + 1, 0, none⟩ = some (.slice a n cap) := lF.cell 0
  have x1 : W0.cell? ⟨w.heap.size + 1, 1, none⟩ = some (.int .i64 lim) := lF.cell 1
  clear lC lF lR lQ lP
  cases hl : lookB c f n lim now
  case false =>
    have HE : Hid ((popC c f n lim now = Cd.zero ∧ popK c f n lim now = 0 ∧ popT c f n lim now = 0) ∧ popM c f n lim now = 0 ∧ popU c f n lim now = ⟨0, 0, 0, 0, 0, 0⟩ ∧ popO c f n lim now = false) := by
      have hO : popO c f n lim now = false := by unfold popO; rw [hl]; rfl
      exact ⟨⟨by unfold popC; rw [hl]; rfl, by unfold popK; rw [hl]; rfl, by unfold popT; rw [hl]; rfl⟩, by unfold popM; rw [hl]; rfl, by unfold popU; rw [hO]; rfl, hO⟩
    go_enter Try.func8, Try.ntmps8
    go_wp2_with (go_at_call 23; refine (ilook_any c a n cap f lim now _ hn hnc H0.out h0 h1).mono ?_; rintro e w1 ⟨rfl, b1⟩; rw [hl]; have sR := Sits.below LR.out b1 LR.out.lt; have sQ := Sits.below LQ.out b1 LQ.out.lt; have sP := Sits.below LP.out b1 LP.out.lt; obtain ⟨r0, r1, r2, r3, r4, r5, r6⟩ := cd_cells sR; have fr := sR.frozen; have fq := sQ.frozen; have fo := sP.frozen; have q0 : w1.cell? ⟨w.heap.size + 1 + 1 + 1, 0, none⟩ = some (.slice none 0 0) := sQ.cell 0; have q1 : w1.cell? ⟨w.heap.size + 1 + 1 + 1, 1, none⟩ = some (.int .i64 0) := sQ.cell 1; have o0 : w1.cell? ⟨w.heap.size + 1 + 1 + 1 + 1, 0, none⟩ = some (.int .i64 0) := sP.cell 0; have o1 : w1.cell? ⟨w.heap.size + 1 + 1 + 1 + 1, 1, none⟩ = some (.int .i64 0) := sP.cell 1; have o2 : w1.cell? ⟨w.heap.size + 1 + 1 + 1 + 1, 2, none⟩ = some (.int .i64 0) := sP.cell 2; have o3 : w1.cell? ⟨w.heap.size + 1 + 1 + 1 + 1, 3, none⟩ = some (.int .i64 0) := sP.cell 3; have o4 : w1.cell? ⟨w.heap.size + 1 + 1 + 1 + 1, 4, none⟩ = some (.int .i64 0) := sP.cell 4; have o5 : w1.cell? ⟨w.heap.size + 1 + 1 + 1 + 1, 5, none⟩ = some (.int .i64 0) := sP.cell 5; have SR5 : Hid (Sits w1 (w.heap.size + 1 + 1) (cdCells ⟨0, 0, 0, 0, 0, 0, false⟩) 28) := sR; have SQ5 : Hid (Sits w1 (w.heap.size + 1 + 1 + 1) #[.slice none 0 0, .int .i64 0] 31) := sQ; have SP5 : Hid (Sits w1 (w.heap.size + 1 + 1 + 1 + 1) (pkCells ⟨0, 0, 0, 0, 0, 0⟩) 33) := sP; clear sR sQ sP; dsimp only at *)
    have b5 := B0.trans (b1.mono B0.size)
    have bs := b1.size
    refine bodyPost_ret (ret_pop (q := Cd.zero) (p := ⟨0, 0, 0, 0, 0, 0⟩) (v := .slice none 0 0) (u := .int .i64 0) (L := .slice none 0 0) (b := false) (t1 := 28) (t2 := 31) (t3 := 33) (B1 := w.heap.size + 1 + 1) (B2 := w.heap.size + 1 + 1 + 1) (B3 := w.heap.size + 1 + 1 + 1 + 1) Try.results8 rfl rfl rfl rfl rfl ?_ ?_ ?_) rfl ⟨none, 0, none, 0, ?_, ⟨w.heap.size, ?_, ?_, ?_, ?_⟩, ?_, by rw [HE.out.1.2.1]; exact Nat.le_refl _, by rw [HE.out.2.1]; exact Nat.le_refl _⟩
    · exact laid_1 (W := w1) (B := w.heap.size + 1 + 1) (q := Cd.zero) (v := .slice none 0 0) (u := .int .i64 0) (p := ⟨0, 0, 0, 0, 0, 0⟩) SR5.out
    · exact laid_2 (W := w1) (B := w.heap.size + 1 + 1) (q := Cd.zero) (v := .slice none 0 0) (u := .int .i64 0) (p := ⟨0, 0, 0, 0, 0, 0⟩) SQ5.out
    · exact laid_3 (W := w1) (B := w.heap.size + 1 + 1) (q := Cd.zero) (v := .slice none 0 0) (u := .int .i64 0) (p := ⟨0, 0, 0, 0, 0, 0⟩) SP5.out
    · rw [HE.out.1.1, HE.out.1.2.1, HE.out.1.2.2, HE.out.2.1, HE.out.2.2.1, HE.out.2.2.2]
    · omega
    · have h := laid_s w1 (w.heap.size + 1 + 1) Cd.zero (.slice none 0 0) (.int .i64 0) ⟨0, 0, 0, 0, 0, 0⟩; exact Nat.le_trans (by omega) (Nat.le_of_eq h.symm)
    · rw [HE.out.2.1]; exact .inl (by omega)
    · rw [HE.out.1.2.1]; exact .inl (by omega)
    · exact laid_b (W := w1) (B := w.heap.size + 1 + 1) (q := Cd.zero) (v := .slice none 0 0) (u := .int .i64 0) (p := ⟨0, 0, 0, 0, 0, 0⟩) b5 (by omega)
  case true =>
    obtain ⟨hg, hf, hi, hlast⟩ := look_parts hl
    obtain ⟨R, hR⟩ : ∃ R, popR f n now c = R := ⟨_, rfl⟩
    have hRm : R.m ≤ n := by rw [← hR]; exact popR_le f n now c
    have hfo := fifo_out hf R hRm
    obtain ⟨N, hN⟩ : ∃ N, popN (outF f R) (n - R.m) lim = N := ⟨_, rfl⟩
    obtain ⟨L, hL⟩ : ∃ L, popL (outF f R) (n - R.m) lim = L := ⟨_, rfl⟩
    obtain ⟨P, hPk⟩ : ∃ P, popP (outF f R) (n - R.m) lim = P := ⟨_, rfl⟩
    obtain ⟨ok, hok⟩ : ∃ b, popB (outF f R) (n - R.m) lim = b := ⟨_, rfl⟩
    have hO : popO c f n lim now = ok := by unfold popO; rw [hl, hR, ← hok]; unfold popB; rw [hfo, Bool.eq_iff_iff]; simp; omega
    have HE : Hid ((popC c f n lim now = R.c ∧ popK c f n lim now = N ∧ popT c f n lim now = L) ∧ popM c f n lim now = R.m ∧ popU c f n lim now = P ∧ popO c f n lim now = ok ∧ popQ c f n lim now = popF (outF f R)) := by
      refine ⟨⟨?_, ?_, ?_⟩, ?_, ?_, hO, ?_⟩
      · unfold popC; rw [hl, hR]; try rfl
      · unfold popK; rw [hl, hR, ← hN]; unfold popN; rw [hfo]; try rfl
      · unfold popT; rw [hl, ← hL]; unfold popL; rw [hfo]; try rfl
      · unfold popM; rw [hl, hR]; try rfl
      · unfold popU; rw [hO, hR, ← hPk]; unfold popP; rw [hok]
      · unfold popQ; rw [hR]
    have HZ : Hid (popN (outF f R) (n - R.m) lim = N ∧ popL (outF f R) (n - R.m) lim = L ∧ popP (outF f R) (n - R.m) lim = P ∧ popB (outF f R) (n - R.m) lim = ok) := ⟨hN, hL, hPk, hok⟩
    clear hN hL hPk hok hO hfo hlast
    go_enter Try.func8, Try.ntmps8
    go_wp2_with (first | (go_at_call 23; refine (ilook_any c a n cap f lim now _ hn hnc H0.out h0 h1).mono ?_; rintro e w1 ⟨rfl, b1⟩; rw [hl]; clear c0 c1 c2 c3 c4 c5 c6 x0 x1; obtain ⟨c0, c1, c2, c3, c4, c5, c6⟩ := cd_cells (Sits.below LC.out b1 LC.out.lt); have x0 : w1.cell? ⟨w.heap.size + 1, 0, none⟩ = some (.slice a n cap) := (Sits.below LF.out b1 LF.out.lt).cell 0; have x1 : w1.cell? ⟨w.heap.size + 1, 1, none⟩ = some (.int .i64 lim) := (Sits.below LF.out b1 LF.out.lt).cell 1) | (go_at_call 24; refine (visitOf_any c a n cap f lim now _ hn ((PR.below H0.out b1).mono b1.size)).mono ?_; rintro e w2 ⟨V, rfl, v2, b2⟩) | (go_at_call 25; refine (run_vst v2 hl R hR).mono ?_; rintro e w3 ⟨rfl, ⟨st3, lt3, v3⟩, b3⟩; obtain ⟨a3, cap3, x3, cp3, s3, q3, p3, le3⟩ := v3; obtain ⟨⟨z0, z1, z2, z3, z4, z5, z6⟩, ⟨z7, z8⟩, z9, z10, z11, z12, z13⟩ := vs_cells s3; dsimp only at z0 z1 z2 z3 z4 z5 z6 z7 z8 z9 z10 z11 z12 z13; have S3 : Hid _ := s3; clear s3) | (go_at_call 26; refine (ipop_any a3 (n - R.m) cap3 (outF f R) lim _ (by omega) q3.1 q3.pr).mono ?_; rintro e w4 ⟨x4, k4, rfl, p4, b4⟩; rw [HZ.out.1] at p4; rw [HZ.out.1, HZ.out.2.1, HZ.out.2.2.1, HZ.out.2.2.2]))
    obtain ⟨P0, P1, P2, P3, P4, P5⟩ := P
    have hle3 : w1.heap.size ≤ V := le3
    have lV3 : V < w3.heap.size := Sits.lt S3.out
    have bs1 := b1.size
    have bs4 := b4.size
    have bH : Below w1.heap.size w1 w3 := b2.trans b3
    have b14 : Below w1.heap.size w1 w4 := bH.trans (b4.mono (by have := bH.size; omega))
    have b5w : Below w.heap.size w w4 := (B0.trans (b1.mono B0.size)).trans (b14.mono (by omega))
    obtain ⟨W5, hW5⟩ : ∃ W5, (w4.alloc (.cells #[.slice x4 N k4, .int .i64 L] 31)).alloc (.cells #[.int .i64 P0, .int .i64 P1, .int .i64 P2, .int .i64 P3, .int .i64 P4, .int .i64 P5] 33) = W5 := ⟨_, rfl⟩
    have b45 : Below w4.heap.size w4 W5 := by rw [← hW5]; go_grown
    have sBr : Sits W5 w4.heap.size #[.slice x4 N k4, .int .i64 L] 31 := by rw [← hW5]; exact (Sits.new _ _ _).alloc _
    have sBp : Sits W5 (w4.heap.size + 1) (pkCells ⟨P0, P1, P2, P3, P4, P5⟩) 33 := by rw [← hW5]; exact Sits.new' (by simp)
    have b15 : Below w1.heap.size w1 W5 := b14.trans (b45.mono (by have := b14.size; omega))
    have b05 : Below W0.heap.size W0 W5 := b1.trans (b15.mono (by omega))
    have b5 : Below w.heap.size w W5 := B0.trans (b05.mono B0.size)
    have b35 : Below w3.heap.size w3 W5 := b4.trans (b45.mono bs4)
    have sV : Sits W5 V (vsCells ⟨R.c, a3, n - R.m, cap3, lim, now, st3, lt3, R.mk', x3, R.m, cp3⟩) 59 := Sits.below S3.out b35 lV3
    have sR := Sits.below LR.out b05 LR.out.lt
    have sQ := Sits.below LQ.out b05 LQ.out.lt
    have sP := Sits.below LP.out b05 LP.out.lt
    have HK4 : Hid (N ≤ k4) := PO.cap p4
    have HK3 : Hid (R.m ≤ cp3) := PO.cap p3
    have zD : ZI (V + 1) w3.heap.size W5 x3 (R.m * 6) (flat f) := (PO.zi p3).below b35
    have zQ : ZI w3.heap.size w4.heap.size W5 x4 (N * 6) (flat (popF (outF f R))) := (PO.zi p4).below b45
    have hs5 : w4.heap.size ≤ W5.heap.size := b45.size
    rw [hW5]
    clear hW5 z0 z1 z2 z3 z4 z5 z6 z7 z8 z9 z10 z11 z12 z13 b45 b35 b14 b15 c0 c1 c2 c3 c4 c5 c6 x0 x1
    have hS0 : SE V R.c (.slice x3 R.m cp3) w4.heap.size (.slice x4 N k4) (.int .i64 L) (w4.heap.size + 1) ⟨P0, P1, P2, P3, P4, P5⟩ W5 := ⟨⟨(vs_cells sV).1, (vs_cells sV).2.2.2.2.2.2⟩, ⟨sBr.cell 0, sBr.cell 1⟩, sBp.cell 0, sBp.cell 1, sBp.cell 2, sBp.cell 3, sBp.cell 4, sBp.cell 5⟩
    obtain ⟨r0, r1, r2, r3, r4, r5, r6⟩ := cd_cells sR
    have fr := sR.frozen
    have q0 : W5.cell? ⟨w.heap.size + 1 + 1 + 1, 0, none⟩ = some (.slice none 0 0) := sQ.cell 0
    have q1 : W5.cell? ⟨w.heap.size + 1 + 1 + 1, 1, none⟩ = some (.int .i64 0) := sQ.cell 1
    have fq := sQ.frozen
    have o0 : W5.cell? ⟨w.heap.size + 1 + 1 + 1 + 1, 0, none⟩ = some (.int .i64 0) := sP.cell 0
    have o1 : W5.cell? ⟨w.heap.size + 1 + 1 + 1 + 1, 1, none⟩ = some (.int .i64 0) := sP.cell 1
    have o2 : W5.cell? ⟨w.heap.size + 1 + 1 + 1 + 1, 2, none⟩ = some (.int .i64 0) := sP.cell 2
    have o3 : W5.cell? ⟨w.heap.size + 1 + 1 + 1 + 1, 3, none⟩ = some (.int .i64 0) := sP.cell 3
    have o4 : W5.cell? ⟨w.heap.size + 1 + 1 + 1 + 1, 4, none⟩ = some (.int .i64 0) := sP.cell 4
    have o5 : W5.cell? ⟨w.heap.size + 1 + 1 + 1 + 1, 5, none⟩ = some (.int .i64 0) := sP.cell 5
    have fo := sP.frozen
    have SR5 : Hid (Sits W5 (w.heap.size + 1 + 1) (cdCells ⟨0, 0, 0, 0, 0, 0, false⟩) 28) := sR
    have SQ5 : Hid (Sits W5 (w.heap.size + 1 + 1 + 1) #[.slice none 0 0, .int .i64 0] 31) := sQ
    have SP5 : Hid (Sits W5 (w.heap.size + 1 + 1 + 1 + 1) (pkCells ⟨0, 0, 0, 0, 0, 0⟩) 33) := sP
    have ZD : Hid _ := zD
    have ZQ : Hid _ := zQ
    clear sR sQ sP sV sBr sBp zD zQ
    dsimp only at *
    set_option maxRecDepth 100000 in go_region_held3 (fun w' => SE V R.c (.slice x3 R.m cp3) w4.heap.size (.slice x4 N k4) (.int .i64 L) (w4.heap.size + 1) ⟨P0, P1, P2, P3, P4, P5⟩ w') (first | (repeat first | (with_reducible exact hS0) | (with_reducible refine SE.drew ?_) | (with_reducible refine SE.set ?_ (by omega) (by omega) (by omega)))) (fail)
    go_wp2
    refine bodyPost_ret (ret_pop (q := R.c) (p := ⟨P0, P1, P2, P3, P4, P5⟩) (v := .slice x4 N k4) (u := .int .i64 L) (L := .slice x3 R.m cp3) (b := ok) (t1 := 28) (t2 := 31) (t3 := 33) (B1 := w.heap.size + 1 + 1) (B2 := w.heap.size + 1 + 1 + 1) (B3 := w.heap.size + 1 + 1 + 1 + 1) Try.results8 rfl rfl rfl rfl rfl ?_ ?_ ?_) rfl ⟨x4, k4, x3, cp3, ?_, ⟨w3.heap.size, ?_, ?_, ?_, ?_⟩, ?_, by rw [HE.out.1.2.1]; exact HK4.out, by rw [HE.out.2.1]; exact HK3.out⟩
    · exact Sits.drew (laid_1 (W := W5) (B := w.heap.size + 1 + 1) (q := R.c) (v := .slice x4 N k4) (u := .int .i64 L) (p := ⟨P0, P1, P2, P3, P4, P5⟩) SR5.out)
    · exact Sits.drew (laid_2 (W := W5) (B := w.heap.size + 1 + 1) (q := R.c) (v := .slice x4 N k4) (u := .int .i64 L) (p := ⟨P0, P1, P2, P3, P4, P5⟩) SQ5.out)
    · exact Sits.drew (laid_3 (W := W5) (B := w.heap.size + 1 + 1) (q := R.c) (v := .slice x4 N k4) (u := .int .i64 L) (p := ⟨P0, P1, P2, P3, P4, P5⟩) SP5.out)
    · rw [HE.out.1.1, HE.out.1.2.1, HE.out.1.2.2, HE.out.2.1, HE.out.2.2.1, HE.out.2.2.2.1]
    · omega
    · have h := laid_s W5 (w.heap.size + 1 + 1) R.c (.slice x4 N k4) (.int .i64 L) ⟨P0, P1, P2, P3, P4, P5⟩; rw [size_drew]; exact Nat.le_trans (Nat.le_trans bs4 hs5) (Nat.le_of_eq h.symm)
    · rw [HE.out.2.1]; exact ZI.wide (zi_drew (laid_z (W := W5) (B := w.heap.size + 1 + 1) (q := R.c) (v := .slice x4 N k4) (u := .int .i64 L) (p := ⟨P0, P1, P2, P3, P4, P5⟩) ZD.out (by omega))) (by omega) (Nat.le_refl _)
    · rw [HE.out.1.2.1, HE.out.2.2.2.2]; have h := laid_s W5 (w.heap.size + 1 + 1) R.c (.slice x4 N k4) (.int .i64 L) ⟨P0, P1, P2, P3, P4, P5⟩; exact ZI.wide (zi_drew (laid_z (W := W5) (B := w.heap.size + 1 + 1) (q := R.c) (v := .slice x4 N k4) (u := .int .i64 L) (p := ⟨P0, P1, P2, P3, P4, P5⟩) ZQ.out (by omega))) (Nat.le_refl _) (by rw [size_drew]; exact Nat.le_trans hs5 (Nat.le_of_eq h.symm))
    · exact (laid_b (W := W5) (B := w.heap.size + 1 + 1) (q := R.c) (v := .slice x4 N k4) (u := .int .i64 L) (p := ⟨P0, P1, P2, P3, P4, P5⟩) b5 (by omega)).drew

theorem icodelPop_any (c : Cd) (a : Option Addr) (n cap : Nat) (f : Nat → Pk) (lim now : Int) (w : World) (hn : n ≤ 1048576) (hnc : n ≤ cap) (hP : PR w.heap.size w a n f) (h0 : -9223372036854775808 ≤ now) (h1 : now ≤ 9223372036854775807) :
    Calls Try.prog 8 #[c.val, fiVal a n cap lim, .int .i64 now] w fun e w' => ∃ (x : Option Addr) (k : Nat) (y : Option Addr) (l : Nat), e = .returned (.tuple #[(popC c f n lim now).val, fiVal x (popK c f n lim now) k (popT c f n lim now), .slice y (popM c f n lim now) l, (popU c f n lim now).val, .bool (popO c f n lim now)]) ∧ (∃ M : Nat, w.heap.size ≤ M ∧ M ≤ w'.heap.size ∧ ZI w.heap.size M w' y (popM c f n lim now * 6) (flat f) ∧ ZI M w'.heap.size w' x (popK c f n lim now * 6) (flat (popQ c f n lim now))) ∧ Below w.heap.size w w' := by
  refine (icodelPop_cap c a n cap f lim now w hn hnc hP h0 h1).mono ?_
  rintro e w' ⟨x, k, y, l, he, hz, hb, -, -⟩
  exact ⟨x, k, y, l, he, hz, hb⟩

end Go.Proofs.Ytlhiadehohikdaa
