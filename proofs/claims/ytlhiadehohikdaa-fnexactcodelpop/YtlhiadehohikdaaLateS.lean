/-
  IS A QUEUE LATE: the specification's l5may, l5late and Late.
-/
import Derived.Test.YtlhiadehohikdaaLateI
namespace Go.Proofs.Ytlhiadehohikdaa
open Go.RowKit
set_option linter.unusedVariables false

theorem cd_set2 {W : World} {B : Nat} {r : Cd} {t : TypeId} (h : Sits W B (cdCells r) t) (v : Int) : Sits (W.setCell ⟨B, 2, none⟩ (.int .i64 v)) B (cdCells ⟨r.tg, r.iv, v, r.nx, r.ct, r.la, r.dr⟩) t := h.set 2 _
theorem cd_set3 {W : World} {B : Nat} {r : Cd} {t : TypeId} (h : Sits W B (cdCells r) t) (v : Int) : Sits (W.setCell ⟨B, 3, none⟩ (.int .i64 v)) B (cdCells ⟨r.tg, r.iv, r.fi, v, r.ct, r.la, r.dr⟩) t := h.set 3 _
theorem cd_set4 {W : World} {B : Nat} {r : Cd} {t : TypeId} (h : Sits W B (cdCells r) t) (v : Int) : Sits (W.setCell ⟨B, 4, none⟩ (.int .i64 v)) B (cdCells ⟨r.tg, r.iv, r.fi, r.nx, v, r.la, r.dr⟩) t := h.set 4 _
theorem cd_set5 {W : World} {B : Nat} {r : Cd} {t : TypeId} (h : Sits W B (cdCells r) t) (v : Int) : Sits (W.setCell ⟨B, 5, none⟩ (.int .i64 v)) B (cdCells ⟨r.tg, r.iv, r.fi, r.nx, r.ct, v, r.dr⟩) t := h.set 5 _
theorem cd_set6 {W : World} {B : Nat} {r : Cd} {t : TypeId} (h : Sits W B (cdCells r) t) (v : Bool) : Sits (W.setCell ⟨B, 6, none⟩ (.bool v)) B (cdCells ⟨r.tg, r.iv, r.fi, r.nx, r.ct, r.la, v⟩) t := h.set 6 _

set_option maxHeartbeats 1000000 in
theorem l5may_any (a : Option Addr) (n cap : Nat) (f : Nat → Pk) (now : Int) (w : World) (hn : n ≤ 1048576) (hP : PR w.heap.size w a n f) :
    Calls Try.prog 20 #[.slice a n cap, .int .i64 now] w fun e w' => e = .returned (.bool (mayB f n now)) ∧ w' = w := by
  by_cases h1 : now < 0
  · have HE : Hid (false = mayB f n now) := by show _ = _; unfold mayB inB; simp; omega
    go_enter Try.func20, Try.ntmps20
    go_wp2
    go_ret
    exact ⟨ret_bool HE.out, rfl⟩
  by_cases h2 : 1000000000000 < now
  · have HE : Hid (false = mayB f n now) := by show _ = _; unfold mayB inB; simp; omega
    go_enter Try.func20, Try.ntmps20
    go_wp2
    go_ret
    exact ⟨ret_bool HE.out, rfl⟩
  by_cases hz : n = 0
  · subst hz
    have HE : Hid (true = mayB f 0 now) := by show _ = _; unfold mayB inB; simp; omega
    go_enter Try.func20, Try.ntmps20
    go_wp2
    go_ret
    exact ⟨ret_bool HE.out, rfl⟩
  · have hz' : ((n : Int) == 0) = false := by simpa using hz
    obtain ⟨b, off, rfl, hbl, hcs⟩ := PR.at hP (show 0 < n by omega)
    obtain ⟨m, hm⟩ : ∃ m, n - 1 = m := ⟨_, rfl⟩
    have q4 := (hcs m (by omega)).2.2.2.2.1
    clear hcs hP
    have hmi : (n : Int) - 1 = (m : Int) := by omega
    have hmw : IntKind.i64.wrap (m : Int) = (m : Int) := by rw [IntKind.wrap_i64]; omega
    have hml : (m : Int) < (n : Int) := by omega
    have HE : Hid (decide ((f m).tm ≤ now) = mayB f n now) := by show _ = _; unfold mayB inB; rw [hm, Bool.eq_iff_iff]; simp [hz]; omega
    clear hm hz
    go_enter Try.func20, Try.ntmps20
    go_wp2
    go_ret
    exact ⟨ret_bool HE.out, rfl⟩

theorem only_below {B : Nat} {w w' : World} (h : Below w.heap.size w w') : Only B w w' := ⟨h.os, h.tape, h.output, h.size, fun k hk _ => h.block k hk⟩

set_option maxHeartbeats 2000000 in
theorem l5late_any (c : Cd) (B : Nat) (t : TypeId) (a : Option Addr) (n cap : Nat) (f : Nat → Pk) (now : Int) (w : World) (hs : Sits w B (cdCells c) t) (hn : n ≤ 40) (hP : PR w.heap.size w a n f) (hall : ∀ j, j < n → (f j).good = true) (hg : c.good = true) (n0 : 0 ≤ now) (n1 : now ≤ 1000000000000) :
    Calls Try.prog 28 #[.pointer (some ⟨B, 0, none⟩), .slice a n cap, .int .i64 now] w fun e w' => e = .returned (.bool (lateB c f n now)) ∧ Sits w' B (cdCells (lateC c f n now)) t ∧ Only B w w' := by
  have HS : Hid (Sits w B (cdCells c) t) := hs
  obtain ⟨c0, c1, c2, c3, c4, c5, c6⟩ := cd_cells hs
  have fz := hs.frozen
  clear hs
  obtain ⟨g1, g2, g3, g4, g5, g6, g7, g8, g9, g10, g11⟩ := c.good_iff.1 hg
  have hsz : ∀ j, j < n → 1 ≤ (f j).size ∧ (f j).size ≤ 2000 := fun j hj => (good_nums (hall j hj)).2.2.2.2.1
  have HZ : Hid (∀ j, j < n → 1 ≤ (f j).size ∧ (f j).size ≤ 2000) := hsz
  clear hsz
  have hBl := HS.out.lt
  have HP : Hid (PR w.heap.size w a n f) := hP
  clear hP
  by_cases hz : n = 0
  · subst hz
    have h : calmB c f 0 now = true := by unfold calmB; simp
    have HE : Hid (false = lateB c f 0 now) := by show _ = _; unfold lateB; rw [h]; rfl
    have HC : Hid (lateC c f 0 now = ⟨c.tg, c.iv, 0, c.nx, c.ct, c.la, c.dr⟩) := by show _ = _; unfold lateC; rw [h]; rfl
    clear h
    go_enter Try.func28, Try.ntmps28
    go_wp2
    refine wp_region_quiet (C := fun w' => Below w.heap.size w w') (by kernel_rfl) (by kernel_rfl) ((Below.refl _ _).drew) ?_
    simp only []
    repeat (first
      | go_big_quiet_skip
      | (go_big_quiet_want
         unfold Oper.quiet
         apply Exists.intro
         refine ⟨fun w' hw' => ?_, ?_⟩
         (have y0 := (hw'.cell (p := ⟨B, 0, none⟩) (by show B < _; exact hBl)).trans c0
          go_simp
          first
            | exact rfl)
         simp only [Act.put, List.setIfInBounds_toArray, List.set_cons_zero, List.set_cons_succ]
         go_big_quiet_on))
    refine wpQuiet_nil ?_
    intro w2 hw2
    clear c0 c1 c2 c3 c4 c5 c6 fz
    have s2 := Sits.below HS.out hw2 HS.out.lt
    obtain ⟨c0, c1, c2, c3, c4, c5, c6⟩ := cd_cells s2
    have fz := s2.frozen
    have S2 : Hid (Sits w2 B (cdCells c) t) := s2
    clear s2
    go_wp2
    go_ret
    exact ⟨ret_bool HE.out, by rw [HC.out]; exact cd_set2 S2.out 0, (only_below hw2).set 2 _⟩
  have hz' : ((n : Int) == 0) = false := by simpa using hz
  obtain ⟨b, off, rfl, hbl, hcs⟩ := PR.at HP.out (show 0 < n by omega)
  have q4 := (hcs 0 (by omega)).2.2.2.2.1
  simp only [Nat.zero_mul, Nat.add_zero] at q4
  clear hcs
  obtain ⟨_, ⟨t0, t1⟩, _⟩ := good_nums (hall 0 (by omega))
  clear hall
  obtain ⟨wt, hwt⟩ : ∃ x, now - (f 0).tm = x := ⟨_, rfl⟩
  obtain ⟨s, hs⟩ : ∃ x, sumF f n = x := ⟨_, rfl⟩
  have HY : Hid (sumF f n = s) := hs
  have hnl : (0 : Int) < (n : Int) := by omega
  have hnn : 0 < n := by omega
  have hww : IntKind.i64.wrap wt = wt := by rw [IntKind.wrap_i64]; omega
  by_cases h2 : wt < c.tg
  · have h : calmB c f n now = true := by unfold calmB; rw [hwt]; simp [h2]
    have HE : Hid (false = lateB c f n now) := by show _ = _; unfold lateB; rw [h]; rfl
    have HC : Hid (lateC c f n now = ⟨c.tg, c.iv, 0, c.nx, c.ct, c.la, c.dr⟩) := by show _ = _; unfold lateC; rw [h]; rfl
    clear h hs
    go_enter Try.func28, Try.ntmps28
    go_wp2
    refine wp_region_quiet (C := fun w' => Below w.heap.size w w') (by kernel_rfl) (by kernel_rfl) ((Below.refl _ _).drew) ?_
    simp only []
    repeat (first
      | go_big_quiet_skip
      | (go_big_quiet_want
         unfold Oper.quiet
         apply Exists.intro
         refine ⟨fun w' hw' => ?_, ?_⟩
         (have y0 := (hw'.cell (p := ⟨B, 0, none⟩) (by show B < _; exact hBl)).trans c0
          have z4 := (hw'.cell (p := ⟨b, off + 4, none⟩) (by show b < _; exact hbl)).trans q4
          go_simp
          first
            | (go_at_call 38; refine (l3bytes_any _ n cap f _ (Nat.le_trans hn (by decide)) ((PR.below HP.out hw').mono hw'.size) HZ.out).mono ?_; rintro e w2 ⟨rfl, rfl⟩; exact ⟨by rw [HY.out], hw'⟩)
            | exact rfl)
         simp only [Act.put, List.setIfInBounds_toArray, List.set_cons_zero, List.set_cons_succ]
         go_big_quiet_on))
    refine wpQuiet_nil ?_
    intro w2 hw2
    clear c0 c1 c2 c3 c4 c5 c6 fz
    have s2 := Sits.below HS.out hw2 HS.out.lt
    obtain ⟨c0, c1, c2, c3, c4, c5, c6⟩ := cd_cells s2
    have fz := s2.frozen
    have S2 : Hid (Sits w2 B (cdCells c) t) := s2
    clear s2
    go_wp2
    go_ret
    exact ⟨ret_bool HE.out, by rw [HC.out]; exact cd_set2 S2.out 0, (only_below hw2).set 2 _⟩
  have h2' : decide (wt < c.tg) = false := by simpa using h2
  by_cases h3 : s ≤ 1500
  · have h : calmB c f n now = true := by unfold calmB; rw [hs]; simp [h3]
    have HE : Hid (false = lateB c f n now) := by show _ = _; unfold lateB; rw [h]; rfl
    have HC : Hid (lateC c f n now = ⟨c.tg, c.iv, 0, c.nx, c.ct, c.la, c.dr⟩) := by show _ = _; unfold lateC; rw [h]; rfl
    clear h hs
    go_enter Try.func28, Try.ntmps28
    go_wp2
    refine wp_region_quiet (C := fun w' => Below w.heap.size w w') (by kernel_rfl) (by kernel_rfl) ((Below.refl _ _).drew) ?_
    simp only []
    repeat (first
      | go_big_quiet_skip
      | (go_big_quiet_want
         unfold Oper.quiet
         apply Exists.intro
         refine ⟨fun w' hw' => ?_, ?_⟩
         (have y0 := (hw'.cell (p := ⟨B, 0, none⟩) (by show B < _; exact hBl)).trans c0
          have z4 := (hw'.cell (p := ⟨b, off + 4, none⟩) (by show b < _; exact hbl)).trans q4
          go_simp
          first
            | (go_at_call 38; refine (l3bytes_any _ n cap f _ (Nat.le_trans hn (by decide)) ((PR.below HP.out hw').mono hw'.size) HZ.out).mono ?_; rintro e w2 ⟨rfl, rfl⟩; exact ⟨by rw [HY.out], hw'⟩)
            | exact rfl)
         simp only [Act.put, List.setIfInBounds_toArray, List.set_cons_zero, List.set_cons_succ]
         go_big_quiet_on))
    refine wpQuiet_nil ?_
    intro w2 hw2
    clear c0 c1 c2 c3 c4 c5 c6 fz
    have s2 := Sits.below HS.out hw2 HS.out.lt
    obtain ⟨c0, c1, c2, c3, c4, c5, c6⟩ := cd_cells s2
    have fz := s2.frozen
    have S2 : Hid (Sits w2 B (cdCells c) t) := s2
    clear s2
    go_wp2
    go_ret
    exact ⟨ret_bool HE.out, by rw [HC.out]; exact cd_set2 S2.out 0, (only_below hw2).set 2 _⟩
  have h3' : decide (s ≤ 1500) = false := by simpa using h3
  have hcalm : calmB c f n now = false := by unfold calmB; rw [hwt, hs]; simp; omega
  by_cases h4 : c.fi = 0
  · have h4' : (c.fi == 0) = true := by simpa using h4
    have HE : Hid (false = lateB c f n now) := by show _ = _; unfold lateB; rw [hcalm]; simp [h4]
    have HC : Hid (lateC c f n now = ⟨c.tg, c.iv, now + c.iv, c.nx, c.ct, c.la, c.dr⟩) := by show _ = _; unfold lateC; rw [hcalm]; simp [h4]
    clear hs h4 hcalm
    go_enter Try.func28, Try.ntmps28
    go_wp2
    refine wp_region_quiet (C := fun w' => Below w.heap.size w w') (by kernel_rfl) (by kernel_rfl) ((Below.refl _ _).drew) ?_
    simp only []
    repeat (first
      | go_big_quiet_skip
      | (go_big_quiet_want
         unfold Oper.quiet
         apply Exists.intro
         refine ⟨fun w' hw' => ?_, ?_⟩
         (have y0 := (hw'.cell (p := ⟨B, 0, none⟩) (by show B < _; exact hBl)).trans c0
          have z4 := (hw'.cell (p := ⟨b, off + 4, none⟩) (by show b < _; exact hbl)).trans q4
          go_simp
          first
            | (go_at_call 38; refine (l3bytes_any _ n cap f _ (Nat.le_trans hn (by decide)) ((PR.below HP.out hw').mono hw'.size) HZ.out).mono ?_; rintro e w2 ⟨rfl, rfl⟩; exact ⟨by rw [HY.out], hw'⟩)
            | exact rfl)
         simp only [Act.put, List.setIfInBounds_toArray, List.set_cons_zero, List.set_cons_succ]
         go_big_quiet_on))
    refine wpQuiet_nil ?_
    intro w2 hw2
    clear c0 c1 c2 c3 c4 c5 c6 fz
    have s2 := Sits.below HS.out hw2 HS.out.lt
    obtain ⟨c0, c1, c2, c3, c4, c5, c6⟩ := cd_cells s2
    have fz := s2.frozen
    have S2 : Hid (Sits w2 B (cdCells c) t) := s2
    clear s2
    go_wp2
    go_ret
    exact ⟨ret_bool HE.out, by rw [HC.out]; exact cd_set2 S2.out _, (only_below hw2).set 2 _⟩
  · have h4' : (c.fi == 0) = false := by simpa using h4
    have HE : Hid (decide (c.fi ≤ now) = lateB c f n now) := by show _ = _; unfold lateB; rw [hcalm]; simp [h4]
    have HC : Hid (lateC c f n now = c) := by show _ = _; unfold lateC; rw [hcalm]; simp [h4]
    clear hs h4 hcalm
    go_enter Try.func28, Try.ntmps28
    go_wp2
    refine wp_region_quiet (C := fun w' => Below w.heap.size w w') (by kernel_rfl) (by kernel_rfl) ((Below.refl _ _).drew) ?_
    simp only []
    repeat (first
      | go_big_quiet_skip
      | (go_big_quiet_want
         unfold Oper.quiet
         apply Exists.intro
         refine ⟨fun w' hw' => ?_, ?_⟩
         (have y0 := (hw'.cell (p := ⟨B, 0, none⟩) (by show B < _; exact hBl)).trans c0
          have z4 := (hw'.cell (p := ⟨b, off + 4, none⟩) (by show b < _; exact hbl)).trans q4
          go_simp
          first
            | (go_at_call 38; refine (l3bytes_any _ n cap f _ (Nat.le_trans hn (by decide)) ((PR.below HP.out hw').mono hw'.size) HZ.out).mono ?_; rintro e w2 ⟨rfl, rfl⟩; exact ⟨by rw [HY.out], hw'⟩)
            | exact rfl)
         simp only [Act.put, List.setIfInBounds_toArray, List.set_cons_zero, List.set_cons_succ]
         go_big_quiet_on))
    refine wpQuiet_nil ?_
    intro w2 hw2
    clear c0 c1 c2 c3 c4 c5 c6 fz
    have s2 := Sits.below HS.out hw2 HS.out.lt
    obtain ⟨c0, c1, c2, c3, c4, c5, c6⟩ := cd_cells s2
    have fz := s2.frozen
    have S2 : Hid (Sits w2 B (cdCells c) t) := s2
    clear s2
    go_wp2
    go_ret
    exact ⟨ret_bool HE.out, by rw [HC.out]; exact S2.out, only_below hw2⟩

end Go.Proofs.Ytlhiadehohikdaa
