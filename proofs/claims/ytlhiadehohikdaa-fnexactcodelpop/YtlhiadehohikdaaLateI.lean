/-
  IS A QUEUE LATE: the program's Late.
-/
import Derived.Test.YtlhiadehohikdaaLate
namespace Go.Proofs.Ytlhiadehohikdaa
open Go.RowKit
set_option linter.unusedVariables false

/-- What Late answers. -/
def lateQ (c : Cd) (f : Nat → Pk) (n : Nat) (lim now : Int) : Cd := if lookB c f n lim now then lateC c f n now else Cd.zero

set_option maxHeartbeats 4000000 in
theorem ilate_any (c : Cd) (a : Option Addr) (n cap : Nat) (f : Nat → Pk) (lim now : Int) (w : World) (hn : n ≤ 1048576) (hnc : n ≤ cap) (hP : PR w.heap.size w a n f) (h0 : -9223372036854775808 ≤ now) (h1 : now ≤ 9223372036854775807) :
    Calls Try.prog 41 #[c.val, fiVal a n cap lim, .int .i64 now] w fun e w' => e = .returned (.tuple #[(lateQ c f n lim now).val, .bool (lookB c f n lim now && lateB c f n now)]) ∧ Below w.heap.size w w' := by
  have HP : Hid (PR w.heap.size w a n f) := hP
  clear hP
  obtain ⟨W0, hW0⟩ : ∃ W0, ((w.alloc (.cells #[.int .i64 c.tg, .int .i64 c.iv, .int .i64 c.fi, .int .i64 c.nx, .int .i64 c.ct, .int .i64 c.la, .bool c.dr] 28)).alloc (.cells #[.slice a n cap, .int .i64 lim] 31)).alloc (.cells #[.int .i64 0, .int .i64 0, .int .i64 0, .int .i64 0, .int .i64 0, .int .i64 0, .bool false] 28) = W0 := ⟨_, rfl⟩
  have B0 : Below w.heap.size w W0 := by rw [← hW0]; exact (((Below.refl _ w).alloc (Nat.le_refl _) _).alloc (by simp) _).alloc (by simp; omega) _
  have lC : Sits W0 w.heap.size (cdCells c) 28 := by rw [← hW0]; exact ((Sits.new _ _ _).alloc _).alloc _
  have lF : Lies W0 (w.heap.size + 1) #[.slice a n cap, .int .i64 lim] 31 := by rw [← hW0]; have := (Lies.new (w.alloc (.cells (cdCells c) 28)) #[.slice a n cap, .int .i64 lim] 31).alloc (.cells (cdCells Cd.zero) 28); simp only [World.size_alloc] at this; exact this
  have lR : Sits W0 (w.heap.size + 1 + 1) (cdCells Cd.zero) 28 := by rw [← hW0]; have := Sits.new ((w.alloc (.cells (cdCells c) 28)).alloc (.cells #[.slice a n cap, .int .i64 lim] 31)) (cdCells Cd.zero) 28; simp only [World.size_alloc] at this; exact this
  have H0 : Hid (PR W0.heap.size W0 a n f) := (PR.below HP.out B0).mono B0.size
  have LC : Hid (Sits W0 w.heap.size (cdCells c) 28) := lC
  have LF : Hid (Lies W0 (w.heap.size + 1) #[.slice a n cap, .int .i64 lim] 31) := lF
  have LR : Hid (Sits W0 (w.heap.size + 1 + 1) (cdCells Cd.zero) 28) := lR
  obtain ⟨c0, c1, c2, c3, c4, c5, c6⟩ := cd_cells lC
  obtain ⟨x0, x1⟩ := fi2_cells lF
  clear lC lF lR
  cases hl : lookB c f n lim now
  case false =>
    have HE : Hid (lateQ c f n lim now = Cd.zero) := by show _ = _; unfold lateQ; rw [hl]; rfl
    rw [HE.out]
    go_enter Try.func41, Try.ntmps41
    go_wp2_with (go_at_call 23; refine (ilook_any c a n cap f lim now _ hn hnc H0.out h0 h1).mono ?_; rintro e w1 ⟨rfl, b1⟩; rw [hl]; have sr := Sits.below LR.out b1 LR.out.lt; obtain ⟨d0, d1, d2, d3, d4, d5, d6⟩ := cd_cells sr; have fz := sr.frozen; replace b1 := B0.trans (b1.mono B0.size); dsimp only [Cd.zero] at d0 d1 d2 d3 d4 d5 d6; have SR : Hid (Sits w1 (w.heap.size + 1 + 1) (cdCells Cd.zero) 28) := sr; clear sr)
    refine bodyPost_ret (ret_cb (q := Cd.zero) (b := false) (t := 28) (B := w.heap.size + 1 + 1) Try.results41 rfl rfl ?_) rfl ⟨by simp, ?_⟩
    · exact (((((((Sits.set SR.out 0 _).set 1 _).set 2 _).set 3 _).set 4 _).set 5 _).set 6 _)
    · exact (((((((b1.setCell (by show w.heap.size ≤ w.heap.size + 1 + 1; omega) _).setCell (by show w.heap.size ≤ w.heap.size + 1 + 1; omega) _).setCell (by show w.heap.size ≤ w.heap.size + 1 + 1; omega) _).setCell (by show w.heap.size ≤ w.heap.size + 1 + 1; omega) _).setCell (by show w.heap.size ≤ w.heap.size + 1 + 1; omega) _).setCell (by show w.heap.size ≤ w.heap.size + 1 + 1; omega) _).setCell (by show w.heap.size ≤ w.heap.size + 1 + 1; omega) _)
  case true =>
    obtain ⟨hg, hf, hi, hlast⟩ := look_parts hl
    obtain ⟨n0, n1⟩ : 0 ≤ now ∧ now ≤ 1000000000000 := by simpa [inB] using hi
    obtain ⟨g1, g2, g3, g4, g5, g6, g7, g8, g9, g10, g11⟩ := c.good_iff.1 hg
    by_cases hz : n = 0
    · subst hz
      have HE : Hid (lateQ c f 0 lim now = ⟨c.tg, c.iv, 0, c.nx, c.ct, c.la, c.dr⟩ ∧ (true && lateB c f 0 now) = false) := by
        have h : calmB c f 0 now = true := by unfold calmB; simp
        exact ⟨by unfold lateQ lateC; rw [hl, h]; rfl, by unfold lateB; rw [h]; rfl⟩
      go_enter Try.func41, Try.ntmps41
      go_wp2_with (go_at_call 23; refine (ilook_any c a 0 cap f lim now _ hn hnc H0.out h0 h1).mono ?_; rintro e w1 ⟨rfl, b1⟩; rw [hl]; clear c0 c1 c2 c3 c4 c5 c6 x0 x1; obtain ⟨c0, c1, c2, c3, c4, c5, c6⟩ := cd_cells (Sits.below LC.out b1 LC.out.lt); obtain ⟨x0, x1⟩ := fi2_cells (Lies.below LF.out b1 LF.out.lt); have hs1 : w.heap.size + 1 + 1 < w1.heap.size := (Sits.below LR.out b1 LR.out.lt).lt)
      have H1 : Hid (PR w1.heap.size w1 a 0 f) := (PR.below H0.out b1).mono b1.size
      refine wp_region_quiet (C := fun w' => Below w1.heap.size w1 w') (by kernel_rfl) (by kernel_rfl) ((Below.refl _ _).drew) ?_
      simp only []
      repeat (first
        | go_big_quiet_skip
        | (go_big_quiet_want
           unfold Oper.quiet
           apply Exists.intro
           refine ⟨fun w' hw' => ?_, ?_⟩
           (have z0 := (hw'.cell (p := ⟨w.heap.size + 1, 0, none⟩) (by show w.heap.size + 1 < _; omega)).trans x0
            have z1 := (hw'.cell (p := ⟨w.heap.size + 1, 1, none⟩) (by show w.heap.size + 1 < _; omega)).trans x1
            have y0 := (hw'.cell (p := ⟨w.heap.size, 0, none⟩) (by show w.heap.size < _; omega)).trans c0
            go_simp
            first
              | exact rfl)
           simp only [Act.put, List.setIfInBounds_toArray, List.set_cons_zero, List.set_cons_succ]
           go_big_quiet_on))
      refine wpQuiet_nil ?_
      intro w2 hw2
      clear c0 c1 c2 c3 c4 c5 c6 x0 x1
      have b2 := b1.trans (hw2.mono b1.size)
      obtain ⟨c0, c1, c2, c3, c4, c5, c6⟩ := cd_cells (Sits.below LC.out b2 LC.out.lt)
      have fz := (Sits.below LC.out b2 LC.out.lt).frozen
      have fr := (Sits.below LR.out b2 LR.out.lt).frozen
      obtain ⟨d0, d1, d2, d3, d4, d5, d6⟩ := cd_cells (Sits.below LR.out b2 LR.out.lt)
      dsimp only [Cd.zero] at d0 d1 d2 d3 d4 d5 d6
      have SR := Sits.below LR.out b2 LR.out.lt
      have SR' : Hid (Sits w2 (w.heap.size + 1 + 1) (cdCells Cd.zero) 28) := SR
      have BB := B0.trans (b2.mono B0.size)
      clear SR
      go_wp2
      refine bodyPost_ret (ret_cb (q := ⟨c.tg, c.iv, 0, c.nx, c.ct, c.la, c.dr⟩) (b := false) (t := 28) (B := w.heap.size + 1 + 1) Try.results41 rfl rfl ?_) rfl ⟨by rw [HE.out.1, HE.out.2], ?_⟩
      · exact (((((((Sits.set (Sits.other SR'.out (by omega) _) 0 _).set 1 _).set 2 _).set 3 _).set 4 _).set 5 _).set 6 _)
      · exact ((((((((BB.setCell (Nat.le_refl _) _).setCell (by show w.heap.size ≤ w.heap.size + 1 + 1; omega) _).setCell (by show w.heap.size ≤ w.heap.size + 1 + 1; omega) _).setCell (by show w.heap.size ≤ w.heap.size + 1 + 1; omega) _).setCell (by show w.heap.size ≤ w.heap.size + 1 + 1; omega) _).setCell (by show w.heap.size ≤ w.heap.size + 1 + 1; omega) _).setCell (by show w.heap.size ≤ w.heap.size + 1 + 1; omega) _).setCell (by show w.heap.size ≤ w.heap.size + 1 + 1; omega) _)
    have hz' : ((n : Int) == 0) = false := by simpa using hz
    obtain ⟨wt, hwt⟩ : ∃ x, now - (f 0).tm = x := ⟨_, rfl⟩
    obtain ⟨s, hs⟩ : ∃ x, sumF f n = x := ⟨_, rfl⟩
    have HW : Hid (waitsF f n lim now = wt) := by
      show _ = _
      unfold waitsF
      have := first_le hf (show 0 < n by omega)
      rw [if_pos ⟨hf, by omega, by omega, n1⟩, hwt]
    have HY : Hid (bytesF f n lim = s) := by show _ = _; unfold bytesF; rw [if_pos hf, hs]
    by_cases h2 : wt < c.tg
    · have HE : Hid (lateQ c f n lim now = ⟨c.tg, c.iv, 0, c.nx, c.ct, c.la, c.dr⟩ ∧ (true && lateB c f n now) = false) := by
        have h : calmB c f n now = true := by unfold calmB; rw [hwt]; simp [h2]
        exact ⟨by unfold lateQ lateC; rw [hl, h]; rfl, by unfold lateB; rw [h]; rfl⟩
      clear hwt hs hlast
      go_enter Try.func41, Try.ntmps41
      go_wp2_with (go_at_call 23; refine (ilook_any c a n cap f lim now _ hn hnc H0.out h0 h1).mono ?_; rintro e w1 ⟨rfl, b1⟩; rw [hl]; clear c0 c1 c2 c3 c4 c5 c6 x0 x1; obtain ⟨c0, c1, c2, c3, c4, c5, c6⟩ := cd_cells (Sits.below LC.out b1 LC.out.lt); obtain ⟨x0, x1⟩ := fi2_cells (Lies.below LF.out b1 LF.out.lt); have hs1 : w.heap.size + 1 + 1 < w1.heap.size := (Sits.below LR.out b1 LR.out.lt).lt)
      have H1 : Hid (PR w1.heap.size w1 a n f) := (PR.below H0.out b1).mono b1.size
      refine wp_region_quiet (C := fun w' => Below w1.heap.size w1 w') (by kernel_rfl) (by kernel_rfl) ((Below.refl _ _).drew) ?_
      simp only []
      repeat (first
        | go_big_quiet_skip
        | (go_big_quiet_want
           unfold Oper.quiet
           apply Exists.intro
           refine ⟨fun w' hw' => ?_, ?_⟩
           (have z0 := (hw'.cell (p := ⟨w.heap.size + 1, 0, none⟩) (by show w.heap.size + 1 < _; omega)).trans x0
            have z1 := (hw'.cell (p := ⟨w.heap.size + 1, 1, none⟩) (by show w.heap.size + 1 < _; omega)).trans x1
            have y0 := (hw'.cell (p := ⟨w.heap.size, 0, none⟩) (by show w.heap.size < _; omega)).trans c0
            go_simp
            first
              | (go_at_call 48; refine (iwaits_any a n cap f lim now _ hn hnc ((PR.below H1.out hw').mono hw'.size) h0 h1).mono ?_; rintro e w2 ⟨rfl, bb⟩; exact ⟨by rw [HW.out], hw'.trans (bb.mono hw'.size)⟩)
              | (go_at_call 49; refine (ibytes_any a n cap f lim _ hn hnc ((PR.below H1.out hw').mono hw'.size)).mono ?_; rintro e w2 ⟨rfl, bb⟩; exact ⟨by rw [HY.out], hw'.trans (bb.mono hw'.size)⟩)
              | exact rfl)
           simp only [Act.put, List.setIfInBounds_toArray, List.set_cons_zero, List.set_cons_succ]
           go_big_quiet_on))
      refine wpQuiet_nil ?_
      intro w2 hw2
      clear c0 c1 c2 c3 c4 c5 c6 x0 x1
      have b2 := b1.trans (hw2.mono b1.size)
      obtain ⟨c0, c1, c2, c3, c4, c5, c6⟩ := cd_cells (Sits.below LC.out b2 LC.out.lt)
      have fz := (Sits.below LC.out b2 LC.out.lt).frozen
      have fr := (Sits.below LR.out b2 LR.out.lt).frozen
      obtain ⟨d0, d1, d2, d3, d4, d5, d6⟩ := cd_cells (Sits.below LR.out b2 LR.out.lt)
      dsimp only [Cd.zero] at d0 d1 d2 d3 d4 d5 d6
      have SR := Sits.below LR.out b2 LR.out.lt
      have SR' : Hid (Sits w2 (w.heap.size + 1 + 1) (cdCells Cd.zero) 28) := SR
      have BB := B0.trans (b2.mono B0.size)
      clear SR
      go_wp2
      refine bodyPost_ret (ret_cb (q := ⟨c.tg, c.iv, 0, c.nx, c.ct, c.la, c.dr⟩) (b := false) (t := 28) (B := w.heap.size + 1 + 1) Try.results41 rfl rfl ?_) rfl ⟨by rw [HE.out.1, HE.out.2], ?_⟩
      · exact (((((((Sits.set (Sits.other SR'.out (by omega) _) 0 _).set 1 _).set 2 _).set 3 _).set 4 _).set 5 _).set 6 _)
      · exact ((((((((BB.setCell (Nat.le_refl _) _).setCell (by show w.heap.size ≤ w.heap.size + 1 + 1; omega) _).setCell (by show w.heap.size ≤ w.heap.size + 1 + 1; omega) _).setCell (by show w.heap.size ≤ w.heap.size + 1 + 1; omega) _).setCell (by show w.heap.size ≤ w.heap.size + 1 + 1; omega) _).setCell (by show w.heap.size ≤ w.heap.size + 1 + 1; omega) _).setCell (by show w.heap.size ≤ w.heap.size + 1 + 1; omega) _).setCell (by show w.heap.size ≤ w.heap.size + 1 + 1; omega) _)
    have h2' : decide (wt < c.tg) = false := by simpa using h2
    by_cases h3 : s ≤ 1500
    · have HE : Hid (lateQ c f n lim now = ⟨c.tg, c.iv, 0, c.nx, c.ct, c.la, c.dr⟩ ∧ (true && lateB c f n now) = false) := by
        have h : calmB c f n now = true := by unfold calmB; rw [hs]; simp [h3]
        exact ⟨by unfold lateQ lateC; rw [hl, h]; rfl, by unfold lateB; rw [h]; rfl⟩
      clear hwt hs hlast
      go_enter Try.func41, Try.ntmps41
      go_wp2_with (go_at_call 23; refine (ilook_any c a n cap f lim now _ hn hnc H0.out h0 h1).mono ?_; rintro e w1 ⟨rfl, b1⟩; rw [hl]; clear c0 c1 c2 c3 c4 c5 c6 x0 x1; obtain ⟨c0, c1, c2, c3, c4, c5, c6⟩ := cd_cells (Sits.below LC.out b1 LC.out.lt); obtain ⟨x0, x1⟩ := fi2_cells (Lies.below LF.out b1 LF.out.lt); have hs1 : w.heap.size + 1 + 1 < w1.heap.size := (Sits.below LR.out b1 LR.out.lt).lt)
      have H1 : Hid (PR w1.heap.size w1 a n f) := (PR.below H0.out b1).mono b1.size
      refine wp_region_quiet (C := fun w' => Below w1.heap.size w1 w') (by kernel_rfl) (by kernel_rfl) ((Below.refl _ _).drew) ?_
      simp only []
      repeat (first
        | go_big_quiet_skip
        | (go_big_quiet_want
           unfold Oper.quiet
           apply Exists.intro
           refine ⟨fun w' hw' => ?_, ?_⟩
           (have z0 := (hw'.cell (p := ⟨w.heap.size + 1, 0, none⟩) (by show w.heap.size + 1 < _; omega)).trans x0
            have z1 := (hw'.cell (p := ⟨w.heap.size + 1, 1, none⟩) (by show w.heap.size + 1 < _; omega)).trans x1
            have y0 := (hw'.cell (p := ⟨w.heap.size, 0, none⟩) (by show w.heap.size < _; omega)).trans c0
            go_simp
            first
              | (go_at_call 48; refine (iwaits_any a n cap f lim now _ hn hnc ((PR.below H1.out hw').mono hw'.size) h0 h1).mono ?_; rintro e w2 ⟨rfl, bb⟩; exact ⟨by rw [HW.out], hw'.trans (bb.mono hw'.size)⟩)
              | (go_at_call 49; refine (ibytes_any a n cap f lim _ hn hnc ((PR.below H1.out hw').mono hw'.size)).mono ?_; rintro e w2 ⟨rfl, bb⟩; exact ⟨by rw [HY.out], hw'.trans (bb.mono hw'.size)⟩)
              | exact rfl)
           simp only [Act.put, List.setIfInBounds_toArray, List.set_cons_zero, List.set_cons_succ]
           go_big_quiet_on))
      refine wpQuiet_nil ?_
      intro w2 hw2
      clear c0 c1 c2 c3 c4 c5 c6 x0 x1
      have b2 := b1.trans (hw2.mono b1.size)
      obtain ⟨c0, c1, c2, c3, c4, c5, c6⟩ := cd_cells (Sits.below LC.out b2 LC.out.lt)
      have fz := (Sits.below LC.out b2 LC.out.lt).frozen
      have fr := (Sits.below LR.out b2 LR.out.lt).frozen
      obtain ⟨d0, d1, d2, d3, d4, d5, d6⟩ := cd_cells (Sits.below LR.out b2 LR.out.lt)
      dsimp only [Cd.zero] at d0 d1 d2 d3 d4 d5 d6
      have SR := Sits.below LR.out b2 LR.out.lt
      have SR' : Hid (Sits w2 (w.heap.size + 1 + 1) (cdCells Cd.zero) 28) := SR
      have BB := B0.trans (b2.mono B0.size)
      clear SR
      go_wp2
      refine bodyPost_ret (ret_cb (q := ⟨c.tg, c.iv, 0, c.nx, c.ct, c.la, c.dr⟩) (b := false) (t := 28) (B := w.heap.size + 1 + 1) Try.results41 rfl rfl ?_) rfl ⟨by rw [HE.out.1, HE.out.2], ?_⟩
      · exact (((((((Sits.set (Sits.other SR'.out (by omega) _) 0 _).set 1 _).set 2 _).set 3 _).set 4 _).set 5 _).set 6 _)
      · exact ((((((((BB.setCell (Nat.le_refl _) _).setCell (by show w.heap.size ≤ w.heap.size + 1 + 1; omega) _).setCell (by show w.heap.size ≤ w.heap.size + 1 + 1; omega) _).setCell (by show w.heap.size ≤ w.heap.size + 1 + 1; omega) _).setCell (by show w.heap.size ≤ w.heap.size + 1 + 1; omega) _).setCell (by show w.heap.size ≤ w.heap.size + 1 + 1; omega) _).setCell (by show w.heap.size ≤ w.heap.size + 1 + 1; omega) _).setCell (by show w.heap.size ≤ w.heap.size + 1 + 1; omega) _)
    have h3' : decide (s ≤ 1500) = false := by simpa using h3
    have hcalm : calmB c f n now = false := by unfold calmB; rw [hwt, hs]; simp; omega
    by_cases h4 : c.fi = 0
    · have h4' : (c.fi == 0) = true := by simpa using h4
      have HE : Hid (lateQ c f n lim now = ⟨c.tg, c.iv, now + c.iv, c.nx, c.ct, c.la, c.dr⟩ ∧ (true && lateB c f n now) = false) :=
        ⟨by unfold lateQ lateC; rw [hl, hcalm]; simp [h4], by unfold lateB; rw [hcalm]; simp [h4]⟩
      clear hwt hs hlast h4 hcalm
      go_enter Try.func41, Try.ntmps41
      go_wp2_with (go_at_call 23; refine (ilook_any c a n cap f lim now _ hn hnc H0.out h0 h1).mono ?_; rintro e w1 ⟨rfl, b1⟩; rw [hl]; clear c0 c1 c2 c3 c4 c5 c6 x0 x1; obtain ⟨c0, c1, c2, c3, c4, c5, c6⟩ := cd_cells (Sits.below LC.out b1 LC.out.lt); obtain ⟨x0, x1⟩ := fi2_cells (Lies.below LF.out b1 LF.out.lt); have hs1 : w.heap.size + 1 + 1 < w1.heap.size := (Sits.below LR.out b1 LR.out.lt).lt)
      have H1 : Hid (PR w1.heap.size w1 a n f) := (PR.below H0.out b1).mono b1.size
      refine wp_region_quiet (C := fun w' => Below w1.heap.size w1 w') (by kernel_rfl) (by kernel_rfl) ((Below.refl _ _).drew) ?_
      simp only []
      repeat (first
        | go_big_quiet_skip
        | (go_big_quiet_want
           unfold Oper.quiet
           apply Exists.intro
           refine ⟨fun w' hw' => ?_, ?_⟩
           (have z0 := (hw'.cell (p := ⟨w.heap.size + 1, 0, none⟩) (by show w.heap.size + 1 < _; omega)).trans x0
            have z1 := (hw'.cell (p := ⟨w.heap.size + 1, 1, none⟩) (by show w.heap.size + 1 < _; omega)).trans x1
            have y0 := (hw'.cell (p := ⟨w.heap.size, 0, none⟩) (by show w.heap.size < _; omega)).trans c0
            go_simp
            first
              | (go_at_call 48; refine (iwaits_any a n cap f lim now _ hn hnc ((PR.below H1.out hw').mono hw'.size) h0 h1).mono ?_; rintro e w2 ⟨rfl, bb⟩; exact ⟨by rw [HW.out], hw'.trans (bb.mono hw'.size)⟩)
              | (go_at_call 49; refine (ibytes_any a n cap f lim _ hn hnc ((PR.below H1.out hw').mono hw'.size)).mono ?_; rintro e w2 ⟨rfl, bb⟩; exact ⟨by rw [HY.out], hw'.trans (bb.mono hw'.size)⟩)
              | exact rfl)
           simp only [Act.put, List.setIfInBounds_toArray, List.set_cons_zero, List.set_cons_succ]
           go_big_quiet_on))
      refine wpQuiet_nil ?_
      intro w2 hw2
      clear c0 c1 c2 c3 c4 c5 c6 x0 x1
      have b2 := b1.trans (hw2.mono b1.size)
      obtain ⟨c0, c1, c2, c3, c4, c5, c6⟩ := cd_cells (Sits.below LC.out b2 LC.out.lt)
      have fz := (Sits.below LC.out b2 LC.out.lt).frozen
      have fr := (Sits.below LR.out b2 LR.out.lt).frozen
      obtain ⟨d0, d1, d2, d3, d4, d5, d6⟩ := cd_cells (Sits.below LR.out b2 LR.out.lt)
      dsimp only [Cd.zero] at d0 d1 d2 d3 d4 d5 d6
      have SR := Sits.below LR.out b2 LR.out.lt
      have SR' : Hid (Sits w2 (w.heap.size + 1 + 1) (cdCells Cd.zero) 28) := SR
      have BB := B0.trans (b2.mono B0.size)
      clear SR
      go_wp2
      refine bodyPost_ret (ret_cb (q := ⟨c.tg, c.iv, now + c.iv, c.nx, c.ct, c.la, c.dr⟩) (b := false) (t := 28) (B := w.heap.size + 1 + 1) Try.results41 rfl rfl ?_) rfl ⟨by rw [HE.out.1, HE.out.2], ?_⟩
      · exact (((((((Sits.set (Sits.other SR'.out (by omega) _) 0 _).set 1 _).set 2 _).set 3 _).set 4 _).set 5 _).set 6 _)
      · exact ((((((((BB.setCell (Nat.le_refl _) _).setCell (by show w.heap.size ≤ w.heap.size + 1 + 1; omega) _).setCell (by show w.heap.size ≤ w.heap.size + 1 + 1; omega) _).setCell (by show w.heap.size ≤ w.heap.size + 1 + 1; omega) _).setCell (by show w.heap.size ≤ w.heap.size + 1 + 1; omega) _).setCell (by show w.heap.size ≤ w.heap.size + 1 + 1; omega) _).setCell (by show w.heap.size ≤ w.heap.size + 1 + 1; omega) _).setCell (by show w.heap.size ≤ w.heap.size + 1 + 1; omega) _)
    · have h4' : (c.fi == 0) = false := by simpa using h4
      have HE : Hid (lateQ c f n lim now = c ∧ (true && lateB c f n now) = decide (c.fi ≤ now)) :=
        ⟨by unfold lateQ lateC; rw [hl, hcalm]; simp [h4], by unfold lateB; rw [hcalm]; simp [h4]⟩
      clear hwt hs hlast h4 hcalm
      go_enter Try.func41, Try.ntmps41
      go_wp2_with (go_at_call 23; refine (ilook_any c a n cap f lim now _ hn hnc H0.out h0 h1).mono ?_; rintro e w1 ⟨rfl, b1⟩; rw [hl]; clear c0 c1 c2 c3 c4 c5 c6 x0 x1; obtain ⟨c0, c1, c2, c3, c4, c5, c6⟩ := cd_cells (Sits.below LC.out b1 LC.out.lt); obtain ⟨x0, x1⟩ := fi2_cells (Lies.below LF.out b1 LF.out.lt); have hs1 : w.heap.size + 1 + 1 < w1.heap.size := (Sits.below LR.out b1 LR.out.lt).lt)
      have H1 : Hid (PR w1.heap.size w1 a n f) := (PR.below H0.out b1).mono b1.size
      refine wp_region_quiet (C := fun w' => Below w1.heap.size w1 w') (by kernel_rfl) (by kernel_rfl) ((Below.refl _ _).drew) ?_
      simp only []
      repeat (first
        | go_big_quiet_skip
        | (go_big_quiet_want
           unfold Oper.quiet
           apply Exists.intro
           refine ⟨fun w' hw' => ?_, ?_⟩
           (have z0 := (hw'.cell (p := ⟨w.heap.size + 1, 0, none⟩) (by show w.heap.size + 1 < _; omega)).trans x0
            have z1 := (hw'.cell (p := ⟨w.heap.size + 1, 1, none⟩) (by show w.heap.size + 1 < _; omega)).trans x1
            have y0 := (hw'.cell (p := ⟨w.heap.size, 0, none⟩) (by show w.heap.size < _; omega)).trans c0
            go_simp
            first
              | (go_at_call 48; refine (iwaits_any a n cap f lim now _ hn hnc ((PR.below H1.out hw').mono hw'.size) h0 h1).mono ?_; rintro e w2 ⟨rfl, bb⟩; exact ⟨by rw [HW.out], hw'.trans (bb.mono hw'.size)⟩)
              | (go_at_call 49; refine (ibytes_any a n cap f lim _ hn hnc ((PR.below H1.out hw').mono hw'.size)).mono ?_; rintro e w2 ⟨rfl, bb⟩; exact ⟨by rw [HY.out], hw'.trans (bb.mono hw'.size)⟩)
              | exact rfl)
           simp only [Act.put, List.setIfInBounds_toArray, List.set_cons_zero, List.set_cons_succ]
           go_big_quiet_on))
      refine wpQuiet_nil ?_
      intro w2 hw2
      clear c0 c1 c2 c3 c4 c5 c6 x0 x1
      have b2 := b1.trans (hw2.mono b1.size)
      obtain ⟨c0, c1, c2, c3, c4, c5, c6⟩ := cd_cells (Sits.below LC.out b2 LC.out.lt)
      have fz := (Sits.below LC.out b2 LC.out.lt).frozen
      have fr := (Sits.below LR.out b2 LR.out.lt).frozen
      obtain ⟨d0, d1, d2, d3, d4, d5, d6⟩ := cd_cells (Sits.below LR.out b2 LR.out.lt)
      dsimp only [Cd.zero] at d0 d1 d2 d3 d4 d5 d6
      have SR := Sits.below LR.out b2 LR.out.lt
      have SR' : Hid (Sits w2 (w.heap.size + 1 + 1) (cdCells Cd.zero) 28) := SR
      have BB := B0.trans (b2.mono B0.size)
      clear SR
      have hH1 : w.heap.size + 1 + 1 ≠ w.heap.size := by omega
      go_wp2
      go_region
      go_wp2
      refine bodyPost_ret (ret_cb (q := c) (b := decide (c.fi ≤ now)) (t := 28) (B := w.heap.size + 1 + 1) Try.results41 rfl rfl ?_) rfl ⟨by rw [HE.out.1, HE.out.2], ?_⟩
      · exact Sits.drew (((((((Sits.set (SR'.out) 0 _).set 1 _).set 2 _).set 3 _).set 4 _).set 5 _).set 6 _)
      · exact ((((((((BB).setCell (by show w.heap.size ≤ w.heap.size + 1 + 1; omega) _).setCell (by show w.heap.size ≤ w.heap.size + 1 + 1; omega) _).setCell (by show w.heap.size ≤ w.heap.size + 1 + 1; omega) _).setCell (by show w.heap.size ≤ w.heap.size + 1 + 1; omega) _).setCell (by show w.heap.size ≤ w.heap.size + 1 + 1; omega) _).setCell (by show w.heap.size ≤ w.heap.size + 1 + 1; omega) _).setCell (by show w.heap.size ≤ w.heap.size + 1 + 1; omega) _).drew

end Go.Proofs.Ytlhiadehohikdaa
