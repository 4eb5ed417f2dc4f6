/-
  IS A QUEUE LATE: the specification's l5may, l5late and Late.
-/
import Derived.Test.YtgmecbjdiinkiamLateI
namespace Go.Proofs.Ytgmecbjdiinkiam
open Go.RowKit
set_option linter.unusedVariables false

theorem cd_set2 {W : World} {B : Nat} {r : Cd} {t : TypeId} (h : Sits W B (cdCells r) t) (v : Int) : Sits (W.setCell ⟨B, 2, none⟩ (.int .i64 v)) B (cdCells ⟨r.tg, r.iv, v, r.nx, r.ct, r.la, r.dr⟩) t := h.set 2 _
theorem cd_set3 {W : World} {B : Nat} {r : Cd} {t : TypeId} (h : Sits W B (cdCells r) t) (v : Int) : Sits (W.setCell ⟨B, 3, none⟩ (.int .i64 v)) B (cdCells ⟨r.tg, r.iv, r.fi, v, r.ct, r.la, r.dr⟩) t := h.set 3 _
theorem cd_set4 {W : World} {B : Nat} {r : Cd} {t : TypeId} (h : Sits W B (cdCells r) t) (v : Int) : Sits (W.setCell ⟨B, 4, none⟩ (.int .i64 v)) B (cdCells ⟨r.tg, r.iv, r.fi, r.nx, v, r.la, r.dr⟩) t := h.set 4 _
theorem cd_set5 {W : World} {B : Nat} {r : Cd} {t : TypeId} (h : Sits W B (cdCells r) t) (v : Int) : Sits (W.setCell ⟨B, 5, none⟩ (.int .i64 v)) B (cdCells ⟨r.tg, r.iv, r.fi, r.nx, r.ct, v, r.dr⟩) t := h.set 5 _
theorem cd_set6 {W : World} {B : Nat} {r : Cd} {t : TypeId} (h : Sits W B (cdCells r) t) (v : Bool) : Sits (W.setCell ⟨B, 6, none⟩ (.bool v)) B (cdCells ⟨r.tg, r.iv, r.fi, r.nx, r.ct, r.la, v⟩) t := h.set 6 _

set_option maxHeartbeats 1000000 in
theorem l5may_any (a : Option Addr) (n cap : Nat) (f : Nat → Pk) (now : Int) (w : World) (hn : n ≤ 1048576) (hP : PR w.heap.size w a n f) :
    Calls Try.prog 38 #[.slice a n cap, .int .i64 now] w fun e w' => e = .returned (.bool (mayB f n now)) ∧ w' = w := by
  by_cases h1 : now < 0
  · have HE : Hid (false = mayB f n now) := by show _ = _; unfold mayB inB; simp; omega
    go_enter Try.func38, Try.ntmps38
    go_wp2
    go_ret
    exact ⟨ret_bool HE.out, rfl⟩
  by_cases h2 : 1000000000000 < now
  · have HE : Hid (false = mayB f n now) := by show _ = _; unfold mayB inB; simp; omega
    go_enter Try.func38, Try.ntmps38
    go_wp2
    go_ret
    exact ⟨ret_bool HE.out, rfl⟩
  by_cases hz : n = 0
  · subst hz
    have HE : Hid (true = mayB f 0 now) := by show _ = _; unfold mayB inB; simp; omega
    go_enter Try.func38, Try.ntmps38
    go_wp2
    go_ret
    exact ⟨ret_bool HE.out, rfl⟩
  · have hz' : ((n : Int) == 0) = false := by simpa using hz
    obtain ⟨b, off, rfl, hbl, hcs⟩ := PR.at hP (show 0 < n by omega)
    obtain ⟨m, hm⟩ : ∃ m, n - 1 = m := ⟨_, rfl⟩
    have q4 := (hcs m (by omega)).2.2.2.2.1
    clear hcs hP
    have hmi : (n : Int) - 1 = (m : Int) := by omega
    have hmw : IntKind.i64.wrap (m : Int) = (m : Int) := by rw [IntKind.wrap_i64]; omega
    have hml : (m : Int) < (n : Int) := by omega
    have HE : Hid (decide ((f m).tm ≤ now) = mayB f n now) := by show _ = _; unfold mayB inB; rw [hm, Bool.eq_iff_iff]; simp [hz]; omega
    clear hm hz
    go_enter Try.func38, Try.ntmps38
    go_wp2
    go_ret
    exact ⟨ret_bool HE.out, rfl⟩

theorem only_below {B : Nat} {w w' : World} (h : Below w.heap.size w w') : Only B w w' := ⟨h.os, h.tape, h.output, h.size, fun k hk _ => h.block k hk⟩

set_option maxHeartbeats 2000000 in
theorem l5late_any (c : Cd) (B : Nat) (t : TypeId) (a : Option Addr) (n cap : Nat) (f : Nat → Pk) (now : Int) (w : World) (hs : Sits w B (cdCells c) t) (hn : n ≤ 40) (hP : PR w.heap.size w a n f) (hall : ∀ j, j < n → (f j).good = true) (hg : c.good = true) (n0 : 0 ≤ now) (n1 : now ≤ 1000000000000) :
    Calls Try.prog 39 #[.pointer (some ⟨B, 0, none⟩), .slice a n cap, .int .i64 now] w fun e w' => e = .returned (.bool (lateB c f n now)) ∧ Sits w' B (cdCells (lateC c f n now)) t ∧ Only B w w' := by
  have HS : Hid (Sits w B (cdCells c) t) := hs
  obtain ⟨c0, c1, c2, c3, c4, c5, c6⟩ := cd_cells hs
  have fz := hs.frozen
  clear hs
  obtain ⟨g1, g2, g3, g4, g5, g6, g7, g8, g9, g10, g11⟩ := c.good_iff.1 hg
  have hsz : ∀ j, j < n → 1 ≤ (f j).size ∧ (f j).size ≤ 2000 := fun j hj => (good_nums (hall j hj)).2.2.2.2.1
  have HZ : Hid (∀ j, j < n → 1 ≤ (f j).size ∧ (f j).size ≤ 2000) := hsz
  clear hsz
  have hBl := HS.out.lt
  have HP : Hid (PR w.heap.size w a n f) := hP
  clear hP
  by_cases hz : n = 0
  · subst hz
    have h : calmB c f 0 now = true := by unfold calmB; simp
    have HE : Hid (false = lateB c f 0 now) := by show _ = _; unfold lateB; rw [h]; rfl
    have HC : Hid (lateC c f 0 now = ⟨c.tg, c.iv, 0, c.nx, c.ct, c.la, c.dr⟩) := by show _ = _; unfold lateC; rw [h]; rfl
    clear h
    go_enter Try.func39, Try.ntmps39
    go_wp2
    refine wp_region_quiet (C := fun w' => Below w.heap.size w w') (by kernel_rfl) (by kernel_rfl) ((Below.refl _ _).drew) ?_
    simp only []
    repeat (first
      | go_big_quiet_skip
      | (go_big_quiet_want
         unfold Oper.quiet
         apply Exists.intro
         refine ⟨fun w' hw' => ?_, ?_⟩
         (have y0 := (hw'.cell (p := ⟨B, 0, none⟩) (by show B < _; exact hBl)).trans c0
          go_simp
          first
            | exact rfl)
         simp only [Act.put, List.setIfInBounds_toArray, List.set_cons_zero, List.set_cons_succ]
         go_big_quiet_on))
    refine wpQuiet_nil ?_
    intro w2 hw2
    clear c0 c1 c2 c3 c4 c5 c6 fz
    have s2 := Sits.below HS.out hw2 HS.out.lt
    obtain ⟨c0, c1, c2, c3, c4, c5, c6⟩ := cd_cells s2
    have fz := s2.frozen
    have S2 : Hid (Sits w2 B (cdCells c) t) := s2
    clear s2
    go_wp2
    go_ret
    exact ⟨ret_bool HE.out, by rw [HC.out]; exact cd_set2 S2.out 0, (only_below hw2).set 2 _⟩
  have hz' : ((n : Int) == 0) = false := by simpa using hz
  obtain ⟨b, off, rfl, hbl, hcs⟩ := PR.at HP.out (show 0 < n by omega)
  have q4 := (hcs 0 (by omega)).2.2.2.2.1
  simp only [Nat.zero_mul, Nat.add_zero] at q4
  clear hcs
  obtain ⟨_, ⟨t0, t1⟩, _⟩ := good_nums (hall 0 (by omega))
  clear hall
  obtain ⟨wt, hwt⟩ : ∃ x, now - (f 0).tm = x := ⟨_, rfl⟩
  obtain ⟨s, hs⟩ : ∃ x, sumF f n = x := ⟨_, rfl⟩
  have HY : Hid (sumF f n = s) := hs
  have hnl : (0 : Int) < (n : Int) := by omega
  have hnn : 0 < n := by omega
  have hww : IntKind.i64.wrap wt = wt := by rw [IntKind.wrap_i64]; omega
  by_cases h2 : wt < c.tg
  · have h : calmB c f n now = true := by unfold calmB; rw [hwt]; simp [h2]
    have HE : Hid (false = lateB c f n now) := by show _ = _; unfold lateB; rw [h]; rfl
    have HC : Hid (lateC c f n now = ⟨c.tg, c.iv, 0, c.nx, c.ct, c.la, c.dr⟩) := by show _ = _; unfold lateC; rw [h]; rfl
    clear h hs
    go_enter Try.func39, Try.ntmps39
    go_wp2
    refine wp_region_quiet (C := fun w' => Below w.heap.size w w') (by kernel_rfl) (by kernel_rfl) ((Below.refl _ _).drew) ?_
    simp only []
    repeat (first
      | go_big_quiet_skip
      | (go_big_quiet_want
         unfold Oper.quiet
         apply Exists.intro
         refine ⟨fun w' hw' => ?_, ?_⟩
         (have y0 := (hw'.cell (p := ⟨B, 0, none⟩) (by show B < _; exact hBl)).trans c0
          have z4 := (hw'.cell (p := ⟨b, off + 4, none⟩) (by show b < _; exact hbl)).trans q4
          go_simp
          first
            | (go_at_call 51; refine (l3bytes_any _ n cap f _ (Nat.le_trans hn (by decide)) ((PR.below HP.out hw').mono hw'.size) HZ.out).mono ?_; rintro e w2 ⟨rfl, rfl⟩; exact ⟨by rw [HY.out], hw'⟩)
            | exact rfl)
         simp only [Act.put, List.setIfInBounds_toArray, List.set_cons_zero, List.set_cons_succ]
         go_big_quiet_on))
    refine wpQuiet_nil ?_
    intro w2 hw2
    clear c0 c1 c2 c3 c4 c5 c6 fz
    have s2 := Sits.below HS.out hw2 HS.out.lt
    obtain ⟨c0, c1, c2, c3, c4, c5, c6⟩ := cd_cells s2
    have fz := s2.frozen
    have S2 : Hid (Sits w2 B (cdCells c) t) := s2
    clear s2
    go_wp2
    go_ret
    exact ⟨ret_bool HE.out, by rw [HC.out]; exact cd_set2 S2.out 0, (only_below hw2).set 2 _⟩
  have h2' : decide (wt < c.tg) = false := by simpa using h2
  by_cases h3 : s ≤ 1500
  · have h : calmB c f n now = true := by unfold calmB; rw [hs]; simp [h3]
    have HE : Hid (false = lateB c f n now) := by show _ = _; unfold lateB; rw [h]; rfl
    have HC : Hid (lateC c f n now = ⟨c.tg, c.iv, 0, c.nx, c.ct, c.la, c.dr⟩) := by show _ = _; unfold lateC; rw [h]; rfl
    clear h hs
    go_enter Try.func39, Try.ntmps39
    go_wp2
    refine wp_region_quiet (C := fun w' => Below w.heap.size w w') (by kernel_rfl) (by kernel_rfl) ((Below.refl _ _).drew) ?_
    simp only []
    repeat (first
      | go_big_quiet_skip
      | (go_big_quiet_want
         unfold Oper.quiet
         apply Exists.intro
         refine ⟨fun w' hw' => ?_, ?_⟩
         (have y0 := (hw'.cell (p := ⟨B, 0, none⟩) (by show B < _; exact hBl)).trans c0
          have z4 := (hw'.cell (p := ⟨b, off + 4, none⟩) (by show b < _; exact hbl)).trans q4
          go_simp
          first
            | (go_at_call 51; refine (l3bytes_any _ n cap f _ (Nat.le_trans hn (by decide)) ((PR.below HP.out hw').mono hw'.size) HZ.out).mono ?_; rintro e w2 ⟨rfl, rfl⟩; exact ⟨by rw [HY.out], hw'⟩)
            | exact rfl)
         simp only [Act.put, List.setIfInBounds_toArray, List.set_cons_zero, List.set_cons_succ]
         go_big_quiet_on))
    refine wpQuiet_nil ?_
    intro w2 hw2
    clear c0 c1 c2 c3 c4 c5 c6 fz
    have s2 := Sits.below HS.out hw2 HS.out.lt
    obtain ⟨c0, c1, c2, c3, c4, c5, c6⟩ := cd_cells s2
    have fz := s2.frozen
    have S2 : Hid (Sits w2 B (cdCells c) t) := s2
    clear s2
    go_wp2
    go_ret
    exact ⟨ret_bool HE.out, by rw [HC.out]; exact cd_set2 S2.out 0, (only_below hw2).set 2 _⟩
  have h3' : decide (s ≤ 1500) = false := by simpa using h3
  have hcalm : calmB c f n now = false := by unfold calmB; rw [hwt, hs]; simp; omega
  by_cases h4 : c.fi = 0
  · have h4' : (c.fi == 0) = true := by simpa using h4
    have HE : Hid (false = lateB c f n now) := by show _ = _; unfold lateB; rw [hcalm]; simp [h4]
    have HC : Hid (lateC c f n now = ⟨c.tg, c.iv, now + c.iv, c.nx, c.ct, c.la, c.dr⟩) := by show _ = _; unfold lateC; rw [hcalm]; simp [h4]
    clear hs h4 hcalm
    go_enter Try.func39, Try.ntmps39
    go_wp2
    refine wp_region_quiet (C := fun w' => Below w.heap.size w w') (by kernel_rfl) (by kernel_rfl) ((Below.refl _ _).drew) ?_
    simp only []
    repeat (first
      | go_big_quiet_skip
      | (go_big_quiet_want
         unfold Oper.quiet
         apply Exists.intro
         refine ⟨fun w' hw' => ?_, ?_⟩
         (have y0 := (hw'.cell (p := ⟨B, 0, none⟩) (by show B < _; exact hBl)).trans c0
          have z4 := (hw'.cell (p := ⟨b, off + 4, none⟩) (by show b < _; exact hbl)).trans q4
          go_simp
          first
            | (go_at_call 51; refine (l3bytes_any _ n cap f _ (Nat.le_trans hn (by decide)) ((PR.below HP.out hw').mono hw'.size) HZ.out).mono ?_; rintro e w2 ⟨rfl, rfl⟩; exact ⟨by rw [HY.out], hw'⟩)
            | exact rfl)
         simp only [Act.put, List.setIfInBounds_toArray, List.set_cons_zero, List.set_cons_succ]
         go_big_quiet_on))
    refine wpQuiet_nil ?_
    intro w2 hw2
    clear c0 c1 c2 c3 c4 c5 c6 fz
    have s2 := Sits.below HS.out hw2 HS.out.lt
    obtain ⟨c0, c1, c2, c3, c4, c5, c6⟩ := cd_cells s2
    have fz := s2.frozen
    have S2 : Hid (Sits w2 B (cdCells c) t) := s2
    clear s2
    go_wp2
    go_ret
    exact ⟨ret_bool HE.out, by rw [HC.out]; exact cd_set2 S2.out _, (only_below hw2).set 2 _⟩
  · have h4' : (c.fi == 0) = false := by simpa using h4
    have HE : Hid (decide (c.fi ≤ now) = lateB c f n now) := by show _ = _; unfold lateB; rw [hcalm]; simp [h4]
    have HC : Hid (lateC c f n now = c) := by show _ = _; unfold lateC; rw [hcalm]; simp [h4]
    clear hs h4 hcalm
    go_enter Try.func39, Try.ntmps39
    go_wp2
    refine wp_region_quiet (C := fun w' => Below w.heap.size w w') (by kernel_rfl) (by kernel_rfl) ((Below.refl _ _).drew) ?_
    simp only []
    repeat (first
      | go_big_quiet_skip
      | (go_big_quiet_want
         unfold Oper.quiet
         apply Exists.intro
         refine ⟨fun w' hw' => ?_, ?_⟩
         (have y0 := (hw'.cell (p := ⟨B, 0, none⟩) (by show B < _; exact hBl)).trans c0
          have z4 := (hw'.cell (p := ⟨b, off + 4, none⟩) (by show b < _; exact hbl)).trans q4
          go_simp
          first
            | (go_at_call 51; refine (l3bytes_any _ n cap f _ (Nat.le_trans hn (by decide)) ((PR.below HP.out hw').mono hw'.size) HZ.out).mono ?_; rintro e w2 ⟨rfl, rfl⟩; exact ⟨by rw [HY.out], hw'⟩)
            | exact rfl)
         simp only [Act.put, List.setIfInBounds_toArray, List.set_cons_zero, List.set_cons_succ]
         go_big_quiet_on))
    refine wpQuiet_nil ?_
    intro w2 hw2
    clear c0 c1 c2 c3 c4 c5 c6 fz
    have s2 := Sits.below HS.out hw2 HS.out.lt
    obtain ⟨c0, c1, c2, c3, c4, c5, c6⟩ := cd_cells s2
    have fz := s2.frozen
    have S2 : Hid (Sits w2 B (cdCells c) t) := s2
    clear s2
    go_wp2
    go_ret
    exact ⟨ret_bool HE.out, by rw [HC.out]; exact S2.out, only_below hw2⟩

set_option maxHeartbeats 4000000 in
theorem slate_any (c : Cd) (a : Option Addr) (n cap : Nat) (f : Nat → Pk) (lim now : Int) (w : World) (hn : n ≤ 1048576) (hnc : n ≤ cap) (hP : PR w.heap.size w a n f) (h0 : -9223372036854775808 ≤ now) (h1 : now ≤ 9223372036854775807) :
    Calls Try.prog 18 #[c.val, fiVal a n cap lim, .int .i64 now] w fun e w' => e = .returned (.tuple #[(lateQ c f n lim now).val, .bool (lookB c f n lim now && lateB c f n now)]) ∧ Below w.heap.size w w' := by
  have HP : Hid (PR w.heap.size w a n f) := hP
  clear hP
  obtain ⟨W0, hW0⟩ : ∃ W0, ((w.alloc (.cells #[.int .i64 c.tg, .int .i64 c.iv, .int .i64 c.fi, .int .i64 c.nx, .int .i64 c.ct, .int .i64 c.la, .bool c.dr] 25)).alloc (.cells #[.slice a n cap, .int .i64 lim] 41)).alloc (.cells #[.int .i64 0, .int .i64 0, .int .i64 0, .int .i64 0, .int .i64 0, .int .i64 0, .bool false] 25) = W0 := ⟨_, rfl⟩
  have B0 : Below w.heap.size w W0 := by rw [← hW0]; exact (((Below.refl _ w).alloc (Nat.le_refl _) _).alloc (by simp) _).alloc (by simp; omega) _
  have lC : Sits W0 w.heap.size (cdCells c) 25 := by rw [← hW0]; exact ((Sits.new _ _ _).alloc _).alloc _
  have lF : Lies W0 (w.heap.size + 1) #[.slice a n cap, .int .i64 lim] 41 := by rw [← hW0]; have := (Lies.new (w.alloc (.cells (cdCells c) 25)) #[.slice a n cap, .int .i64 lim] 41).alloc (.cells (cdCells Cd.zero) 25); simp only [World.size_alloc] at this; exact this
  have lR : Sits W0 (w.heap.size + 1 + 1) (cdCells Cd.zero) 25 := by rw [← hW0]; have := Sits.new ((w.alloc (.cells (cdCells c) 25)).alloc (.cells #[.slice a n cap, .int .i64 lim] 41)) (cdCells Cd.zero) 25; simp only [World.size_alloc] at this; exact this
  have H0 : Hid (PR W0.heap.size W0 a n f) := (PR.below HP.out B0).mono B0.size
  have LC : Hid (Sits W0 w.heap.size (cdCells c) 25) := lC
  have LF : Hid (Lies W0 (w.heap.size + 1) #[.slice a n cap, .int .i64 lim] 41) := lF
  have LR : Hid (Sits W0 (w.heap.size + 1 + 1) (cdCells Cd.zero) 25) := lR
  obtain ⟨c0, c1, c2, c3, c4, c5, c6⟩ := cd_cells lC
  obtain ⟨x0, x1⟩ := fi2_cells lF
  clear lC lF lR
  cases hl : lookB c f n lim now
  case false =>
    have HE : Hid (lateQ c f n lim now = Cd.zero) := by show _ = _; unfold lateQ; rw [hl]; rfl
    rw [HE.out]
    have hcs : c.good = false ∨ (c.good = true ∧ fifoB f n lim = false) ∨ (c.good = true ∧ fifoB f n lim = true ∧ mayB f n now = false) := by
      unfold lookB at hl
      cases h1 : c.good
      · exact .inl rfl
      · cases h2 : fifoB f n lim
        · exact .inr (.inl ⟨rfl, rfl⟩)
        · rw [h1, h2] at hl; exact .inr (.inr ⟨rfl, rfl, by simpa using hl⟩)
    clear hl
    rcases hcs with hg | ⟨hg, hf⟩ | ⟨hg, hf, hm⟩
    all_goals
      go_enter Try.func18, Try.ntmps18
      go_wp2_with (first | (go_at_call 9; refine (scodelOk_any c _).mono ?_; rintro e w1 ⟨rfl, k1⟩; rw [hg]; have b1 := k1.1; clear k1; clear c0 c1 c2 c3 c4 c5 c6 x0 x1; obtain ⟨c0, c1, c2, c3, c4, c5, c6⟩ := cd_cells (Sits.below LC.out b1 LC.out.lt); obtain ⟨x0, x1⟩ := fi2_cells (Lies.below LF.out b1 LF.out.lt); have fz := (Sits.below LC.out b1 LC.out.lt).frozen; have fr := (Sits.below LR.out b1 LR.out.lt).frozen; obtain ⟨d0, d1, d2, d3, d4, d5, d6⟩ := cd_cells (Sits.below LR.out b1 LR.out.lt); dsimp only [Cd.zero] at d0 d1 d2 d3 d4 d5 d6) | (go_at_call 37; refine (sfifoOk_any a n cap f lim _ hn hnc ((PR.below H0.out b1).mono b1.size)).mono ?_; rintro e w2 ⟨rfl, bb⟩; rw [hf]; replace b1 := b1.trans (bb.mono b1.size); clear bb; clear c0 c1 c2 c3 c4 c5 c6 x0 x1 fz fr d0 d1 d2 d3 d4 d5 d6; obtain ⟨c0, c1, c2, c3, c4, c5, c6⟩ := cd_cells (Sits.below LC.out b1 LC.out.lt); obtain ⟨x0, x1⟩ := fi2_cells (Lies.below LF.out b1 LF.out.lt); have fz := (Sits.below LC.out b1 LC.out.lt).frozen; have fr := (Sits.below LR.out b1 LR.out.lt).frozen; obtain ⟨d0, d1, d2, d3, d4, d5, d6⟩ := cd_cells (Sits.below LR.out b1 LR.out.lt); dsimp only [Cd.zero] at d0 d1 d2 d3 d4 d5 d6) | (go_at_call 38; refine (l5may_any a n cap f now _ hn ((PR.below H0.out b1).mono b1.size)).mono ?_; rintro e w3 ⟨rfl, rfl⟩; rw [hm]))
      have SR := Sits.below LR.out b1 LR.out.lt
      have BB := B0.trans (b1.mono B0.size)
      refine bodyPost_ret (ret_cb (q := Cd.zero) (b := false) (t := 25) (B := w.heap.size + 1 + 1) Try.results18 rfl rfl ?_) rfl ⟨by simp, ?_⟩
      · exact (((((((Sits.set SR 0 _).set 1 _).set 2 _).set 3 _).set 4 _).set 5 _).set 6 _)
      · exact (((((((BB.setCell (by show w.heap.size ≤ w.heap.size + 1 + 1; omega) _).setCell (by show w.heap.size ≤ w.heap.size + 1 + 1; omega) _).setCell (by show w.heap.size ≤ w.heap.size + 1 + 1; omega) _).setCell (by show w.heap.size ≤ w.heap.size + 1 + 1; omega) _).setCell (by show w.heap.size ≤ w.heap.size + 1 + 1; omega) _).setCell (by show w.heap.size ≤ w.heap.size + 1 + 1; omega) _).setCell (by show w.heap.size ≤ w.heap.size + 1 + 1; omega) _)
  case true =>
    obtain ⟨hg, hf, hi, hlast⟩ := look_parts hl
    obtain ⟨n0, n1⟩ : 0 ≤ now ∧ now ≤ 1000000000000 := by simpa [inB] using hi
    have hm : mayB f n now = true := by unfold mayB; rw [hi]; simpa using hlast
    obtain ⟨m1, m2, m3, m4⟩ := fifo_nums hf
    have hall : ∀ j, j < n → (f j).good = true := fun j hj => (m4 j hj).1
    have HA : Hid (∀ j, j < n → (f j).good = true) := hall
    obtain ⟨q, hq⟩ : ∃ q, lateC c f n now = q := ⟨_, rfl⟩
    obtain ⟨lt, hlt⟩ : ∃ l, lateB c f n now = l := ⟨_, rfl⟩
    have HE : Hid (lateQ c f n lim now = q ∧ (true && lateB c f n now) = lt) := ⟨by unfold lateQ; rw [hl, ← hq]; rfl, by rw [← hlt]; rfl⟩
    have HQ : Hid (lateC c f n now = q ∧ lateB c f n now = lt) := ⟨hq, hlt⟩
    have hn40 : n ≤ 40 := by omega
    clear hall m4 hq hlt hlast
    go_enter Try.func18, Try.ntmps18
    go_wp2_with (first | (go_at_call 9; refine (scodelOk_any c _).mono ?_; rintro e w1 ⟨rfl, k1⟩; rw [hg]; have b1 := k1.1; clear k1; clear c0 c1 c2 c3 c4 c5 c6 x0 x1; obtain ⟨c0, c1, c2, c3, c4, c5, c6⟩ := cd_cells (Sits.below LC.out b1 LC.out.lt); obtain ⟨x0, x1⟩ := fi2_cells (Lies.below LF.out b1 LF.out.lt); have fz := (Sits.below LC.out b1 LC.out.lt).frozen; have fr := (Sits.below LR.out b1 LR.out.lt).frozen; obtain ⟨d0, d1, d2, d3, d4, d5, d6⟩ := cd_cells (Sits.below LR.out b1 LR.out.lt); dsimp only [Cd.zero] at d0 d1 d2 d3 d4 d5 d6) | (go_at_call 37; refine (sfifoOk_any a n cap f lim _ hn hnc ((PR.below H0.out b1).mono b1.size)).mono ?_; rintro e w2 ⟨rfl, bb⟩; rw [hf]; replace b1 := b1.trans (bb.mono b1.size); clear bb; clear c0 c1 c2 c3 c4 c5 c6 x0 x1 fz fr d0 d1 d2 d3 d4 d5 d6; obtain ⟨c0, c1, c2, c3, c4, c5, c6⟩ := cd_cells (Sits.below LC.out b1 LC.out.lt); obtain ⟨x0, x1⟩ := fi2_cells (Lies.below LF.out b1 LF.out.lt); have fz := (Sits.below LC.out b1 LC.out.lt).frozen; have fr := (Sits.below LR.out b1 LR.out.lt).frozen; obtain ⟨d0, d1, d2, d3, d4, d5, d6⟩ := cd_cells (Sits.below LR.out b1 LR.out.lt); dsimp only [Cd.zero] at d0 d1 d2 d3 d4 d5 d6) | (go_at_call 38; refine (l5may_any a n cap f now _ hn ((PR.below H0.out b1).mono b1.size)).mono ?_; rintro e w3 ⟨rfl, rfl⟩; rw [hm]) | (go_at_call 39; refine (l5late_any c w.heap.size 25 a n cap f now _ (Sits.below LC.out b1 LC.out.lt) hn40 ((PR.below H0.out b1).mono b1.size) HA.out hg n0 n1).mono ?_; rintro e w4 ⟨rfl, sc, ho⟩; rw [HQ.out.2]; rw [HQ.out.1] at sc; clear c0 c1 c2 c3 c4 c5 c6 x0 x1 fz fr d0 d1 d2 d3 d4 d5 d6; have sr := Sits.only (Sits.below LR.out b1 LR.out.lt) ho (by omega); have BB := (B0.trans (b1.mono B0.size)).trans (ho.below (Nat.le_refl _) (Nat.le_trans B0.size b1.size)); obtain ⟨c0, c1, c2, c3, c4, c5, c6⟩ := cd_cells sc; have fz := sc.frozen; have fr := sr.frozen; obtain ⟨d0, d1, d2, d3, d4, d5, d6⟩ := cd_cells sr; dsimp only [Cd.zero] at d0 d1 d2 d3 d4 d5 d6; have SR : Hid (Sits w4 (w.heap.size + 1 + 1) (cdCells Cd.zero) 25) := sr; clear sr sc ho))
    refine bodyPost_ret (ret_cb (q := q) (b := lt) (t := 25) (B := w.heap.size + 1 + 1) Try.results18 rfl rfl ?_) rfl ⟨by rw [HE.out.1, HE.out.2], ?_⟩
    · exact (((((((Sits.set SR.out 0 _).set 1 _).set 2 _).set 3 _).set 4 _).set 5 _).set 6 _)
    · exact (((((((BB.setCell (by show w.heap.size ≤ w.heap.size + 1 + 1; omega) _).setCell (by show w.heap.size ≤ w.heap.size + 1 + 1; omega) _).setCell (by show w.heap.size ≤ w.heap.size + 1 + 1; omega) _).setCell (by show w.heap.size ≤ w.heap.size + 1 + 1; omega) _).setCell (by show w.heap.size ≤ w.heap.size + 1 + 1; omega) _).setCell (by show w.heap.size ≤ w.heap.size + 1 + 1; omega) _).setCell (by show w.heap.size ≤ w.heap.size + 1 + 1; omega) _)

end Go.Proofs.Ytgmecbjdiinkiam
