/-
  IS A QUEUE LATE: codelCanLook, l5may, l5late; Late OF BOTH SIDES.
-/
import Derived.Test.YtlhiadehohikdaaCodel
import Derived.Test.YtlhiadehohikdaaQBytes
import Derived.Test.YtlhiadehohikdaaPkS
import Derived.Test.YtlhiadehohikdaaDrawR0
namespace Go.Proofs.Ytlhiadehohikdaa
open Go.RowKit
set_option linter.unusedVariables false

/-- May it be looked at now? -/
def mayB (f : Nat → Pk) (n : Nat) (now : Int) : Bool := inB now 0 1000000000000 && decide (n = 0 ∨ (f (n - 1)).tm ≤ now)
def lookB (c : Cd) (f : Nat → Pk) (n : Nat) (lim now : Int) : Bool := c.good && (fifoB f n lim && mayB f n now)
def calmB (c : Cd) (f : Nat → Pk) (n : Nat) (now : Int) : Bool := decide (n = 0 ∨ now - (f 0).tm < c.tg ∨ sumF f n ≤ 1500)
/-- What it is behind a look. -/
def lateC (c : Cd) (f : Nat → Pk) (n : Nat) (now : Int) : Cd := if calmB c f n now then ⟨c.tg, c.iv, 0, c.nx, c.ct, c.la, c.dr⟩ else if c.fi = 0 then ⟨c.tg, c.iv, now + c.iv, c.nx, c.ct, c.la, c.dr⟩ else c
/-- Is it late? -/
def lateB (c : Cd) (f : Nat → Pk) (n : Nat) (now : Int) : Bool := !calmB c f n now && (!decide (c.fi = 0) && decide (c.fi ≤ now))

theorem lateC_good {c : Cd} {f : Nat → Pk} {n : Nat} {now : Int} (hg : c.good = true) (h0 : 0 ≤ now) (h1 : now ≤ 1000000000000) : (lateC c f n now).good = true := by
  have hg' := c.good_iff.1 hg
  unfold lateC
  split
  · refine (Cd.good_iff _).2 ?_; dsimp only; omega
  · split
    · refine (Cd.good_iff _).2 ?_; dsimp only; omega
    · exact hg

theorem look_parts {c : Cd} {f : Nat → Pk} {n : Nat} {lim now : Int} (h : lookB c f n lim now = true) : c.good = true ∧ fifoB f n lim = true ∧ inB now 0 1000000000000 = true ∧ (n = 0 ∨ (f (n - 1)).tm ≤ now) := by
  unfold lookB mayB at h
  simpa using h
/-- The first one came no later than the last one. -/
theorem first_le {f : Nat → Pk} {n : Nat} {lim : Int} (h : fifoB f n lim = true) (hn : 0 < n) : (f 0).tm ≤ (f (n - 1)).tm := by
  have hl := (fifo_nums h).2.2.2
  rcases (show n - 1 = 0 ∨ 0 < n - 1 by omega) with e | e
  · rw [e]; exact Int.le_refl _
  · exact ((hl (n - 1) (by omega)).2 0 e).1

set_option maxHeartbeats 2000000 in
theorem ilook_any (c : Cd) (a : Option Addr) (n cap : Nat) (f : Nat → Pk) (lim now : Int) (w : World) (hn : n ≤ 1048576) (hnc : n ≤ cap) (hP : PR w.heap.size w a n f) (h0 : -9223372036854775808 ≤ now) (h1 : now ≤ 9223372036854775807) :
    Calls Try.prog 23 #[c.val, fiVal a n cap lim, .int .i64 now] w fun e w' => e = .returned (.bool (lookB c f n lim now)) ∧ Below w.heap.size w w' := by
  have HP : Hid (PR w.heap.size w a n f) := hP
  clear hP
  have B0 : Below w.heap.size w ((w.alloc (.cells (cdCells c) 28)).alloc (fiObj a n cap lim)) := ((Below.refl _ w).alloc (Nat.le_refl _) _).alloc (by simp) _
  have lF : Lies ((w.alloc (.cells (cdCells c) 28)).alloc (fiObj a n cap lim)) (w.heap.size + 1) #[.slice a n cap, .int .i64 lim] 31 := by have := Lies.new (w.alloc (.cells (cdCells c) 28)) #[.slice a n cap, .int .i64 lim] 31; simpa using this
  cases hg : c.good
  case false =>
    have HE : Hid (false = lookB c f n lim now) := by show _ = _; unfold lookB; rw [hg]; rfl
    go_enter Try.func23, Try.ntmps23
    go_wp2_with (go_at_call 32; refine (icodelOk_any c _).mono ?_; rintro e w1 ⟨rfl, k1⟩; rw [hg]; have B1 := B0.trans (k1.1.mono B0.size))
    go_ret
    exact ⟨ret_bool HE.out, B1⟩
  case true =>
  cases hf : fifoB f n lim
  case false =>
    have HE : Hid (false = lookB c f n lim now) := by show _ = _; unfold lookB; rw [hg, hf]; rfl
    go_enter Try.func23, Try.ntmps23
    go_wp2_with (first | (go_at_call 32; refine (icodelOk_any c _).mono ?_; rintro e w1 ⟨rfl, k1⟩; rw [hg]; have B1 := B0.trans (k1.1.mono B0.size); have lF1 := lF.below k1.1 lF.lt; obtain ⟨x0, x1⟩ := fi2_cells lF1) | (go_at_call 33; refine (ififoOk_any a n cap f lim _ hn hnc ((PR.below HP.out B1).mono B1.size)).mono ?_; rintro e w2 ⟨rfl, b2⟩; rw [hf]; have B2 := B1.trans (b2.mono B1.size)))
    go_ret
    exact ⟨ret_bool HE.out, B2⟩
  case true =>
  cases hi : inB now 0 1000000000000
  case false =>
    have HE : Hid (false = lookB c f n lim now) := by show _ = _; unfold lookB mayB; rw [hg, hf, hi]; rfl
    go_enter Try.func23, Try.ntmps23
    go_wp2_with (first | (go_at_call 32; refine (icodelOk_any c _).mono ?_; rintro e w1 ⟨rfl, k1⟩; rw [hg]; have B1 := B0.trans (k1.1.mono B0.size); have lF1 := lF.below k1.1 lF.lt; obtain ⟨x0, x1⟩ := fi2_cells lF1) | (go_at_call 33; refine (ififoOk_any a n cap f lim _ hn hnc ((PR.below HP.out B1).mono B1.size)).mono ?_; rintro e w2 ⟨rfl, b2⟩; rw [hf]; have B2 := B1.trans (b2.mono B1.size)) | (go_at_call 34; refine (within_any _ _ _ _).mono ?_; rintro e w' ⟨rfl, rfl⟩; rw [hi]))
    go_ret
    exact ⟨ret_bool HE.out, B2⟩
  case true =>
  by_cases hz : n = 0
  · subst hz
    have HE : Hid (true = lookB c f 0 lim now) := by show _ = _; unfold lookB mayB; rw [hg, hf, hi]; rfl
    go_enter Try.func23, Try.ntmps23
    go_wp2_with (first | (go_at_call 32; refine (icodelOk_any c _).mono ?_; rintro e w1 ⟨rfl, k1⟩; rw [hg]; have B1 := B0.trans (k1.1.mono B0.size); have lF1 := lF.below k1.1 lF.lt; obtain ⟨x0, x1⟩ := fi2_cells lF1) | (go_at_call 33; refine (ififoOk_any a 0 cap f lim _ hn hnc ((PR.below HP.out B1).mono B1.size)).mono ?_; rintro e w2 ⟨rfl, b2⟩; rw [hf]; have B2 := B1.trans (b2.mono B1.size); clear x0 x1; obtain ⟨x0, x1⟩ := fi2_cells (lF1.below b2 lF1.lt)) | (go_at_call 34; refine (within_any _ _ _ _).mono ?_; rintro e w' ⟨rfl, rfl⟩; rw [hi]))
    go_ret
    exact ⟨ret_bool HE.out, B2⟩
  · have hz' : ((n : Int) == 0) = false := by simpa using hz
    obtain ⟨b, off, rfl, hbl, hcs⟩ := PR.at HP.out (show 0 < n by omega)
    obtain ⟨m, hm⟩ : ∃ m, n - 1 = m := ⟨_, rfl⟩
    have q4 := (hcs m (by omega)).2.2.2.2.1
    clear hcs
    have hmi : (n : Int) - 1 = (m : Int) := by omega
    have hmw : IntKind.i64.wrap (m : Int) = (m : Int) := by rw [IntKind.wrap_i64]; omega
    have hml : (m : Int) < (n : Int) := by omega
    obtain ⟨_, ⟨t0, t1⟩, _⟩ := good_nums ((fifo_nums hf).2.2.2 m (by omega)).1
    have HE : Hid (decide ((f m).tm ≤ now) = lookB c f n lim now) := by show _ = _; unfold lookB mayB; rw [hg, hf, hi, hm]; simp [hz]
    clear hm hz
    go_enter Try.func23, Try.ntmps23
    go_wp2_with (first | (go_at_call 32; refine (icodelOk_any c _).mono ?_; rintro e w1 ⟨rfl, k1⟩; rw [hg]; have B1 := B0.trans (k1.1.mono B0.size); have lF1 := lF.below k1.1 lF.lt; obtain ⟨x0, x1⟩ := fi2_cells lF1) | (go_at_call 33; refine (ififoOk_any _ n cap f lim _ hn hnc ((PR.below HP.out B1).mono B1.size)).mono ?_; rintro e w2 ⟨rfl, b2⟩; rw [hf]; have B2 := B1.trans (b2.mono B1.size); clear x0 x1; obtain ⟨x0, x1⟩ := fi2_cells (lF1.below b2 lF1.lt); have p4 := (B2.cell (p := ⟨b, off + m * 6 + 4, none⟩) hbl).trans q4) | (go_at_call 34; refine (within_any _ _ _ _).mono ?_; rintro e w' ⟨rfl, rfl⟩; rw [hi]))
    go_ret
    exact ⟨ret_bool HE.out, B2⟩

/-- A Codel and a bool, handed back. -/
theorem ret_cb {fn : Func} {tmps : Array Value} {W : World} {i j B : Nat} {q : Cd} {b : Bool} {t : TypeId} (hr : fn.results = #[.cell i 28, .tmp j]) (hi : tmps[i]?.getD undef = .pointer (some ⟨B, 0, none⟩)) (hj : tmps[j]?.getD undef = .bool b) (hs : Sits W B (cdCells q) t) : (results fn tmps).run Try.prog W = .ok (.tuple #[q.val, .bool b]) W := by
  obtain ⟨c0, c1, c2, c3, c4, c5, c6⟩ := cd_cells hs
  simp [results, hr, hi, hj, go_sem, c0, c1, c2, c3, c4, c5, c6]

end Go.Proofs.Ytlhiadehohikdaa
