/-
  HOW LONG THE FIRST ONE HAS WAITED, AND HOW MANY BYTES THERE ARE: Waits AND Bytes OF BOTH SIDES.
-/
import Derived.Test.YtlhiadehohikdaaFifo
namespace Go.Proofs.Ytlhiadehohikdaa
open Go.RowKit Go.Shelf
set_option linter.unusedVariables false
attribute [local go_sem] Oper.semAt_some

theorem good_nums {p : Pk} (h : p.good = true) : (0 ≤ p.id ∧ p.id ≤ 1000000000000) ∧ (0 ≤ p.tm ∧ p.tm ≤ 1000000000000) ∧ (0 ≤ p.flow ∧ p.flow ≤ 15) ∧ (0 ≤ p.host ∧ p.host ≤ 3) ∧ (1 ≤ p.size ∧ p.size ≤ 2000) ∧ (0 ≤ p.ecn ∧ p.ecn ≤ 3) := by
  unfold Pk.good inB at h
  simp only [Bool.and_eq_true, decide_eq_true_eq] at h
  omega
theorem fifo_nums {f : Nat → Pk} {n : Nat} {lim : Int} (h : fifoB f n lim = true) : 1 ≤ lim ∧ lim ≤ 40 ∧ (n : Int) ≤ lim ∧ lineP f n := by
  unfold fifoB inB lineB at h
  simp only [Bool.and_eq_true, decide_eq_true_eq] at h
  exact ⟨h.1.1, h.1.2, h.2.1, h.2.2⟩

/-- How long the first one has waited. -/
def waitsF (f : Nat → Pk) (n : Nat) (lim now : Int) : Int := if fifoB f n lim = true ∧ 0 < n ∧ (f 0).tm ≤ now ∧ now ≤ 1000000000000 then now - (f 0).tm else 0

set_option maxHeartbeats 1000000 in
theorem iwaits_any (a : Option Addr) (n c : Nat) (f : Nat → Pk) (lim now : Int) (w : World) (hn : n ≤ 1048576) (hnc : n ≤ c) (hP : PR w.heap.size w a n f) (h0 : -9223372036854775808 ≤ now) (h1 : now ≤ 9223372036854775807) :
    Calls Try.prog 48 #[.agg #[.slice a n c, .int .i64 lim], .int .i64 now] w fun e w' => e = .returned (.int .i64 (waitsF f n lim now)) ∧ Below w.heap.size w w' := by
  have HP : Hid (PR w.heap.size w a n f) := hP
  clear hP
  have B0 : Below w.heap.size w (w.alloc (fiObj a n c lim)) := (Below.refl _ _).alloc (Nat.le_refl _) _
  have hlie : (w.alloc (fiObj a n c lim)).heap[w.heap.size]? = some (fiObj a n c lim) := World.alloc_heap_new w _
  have H0 : Hid (PR (w.alloc (fiObj a n c lim)).heap.size (w.alloc (fiObj a n c lim)) a n f) := (PR.below HP.out B0).mono B0.size
  cases hf : fifoB f n lim
  case false =>
    have HE : Hid (0 = waitsF f n lim now) := by show _ = _; unfold waitsF; rw [if_neg (by rw [hf]; simp)]
    go_enter Try.func48, Try.ntmps48
    go_wp2_with (first | (go_at_call 33; refine (ififoOk_any a n c f lim _ hn hnc H0.out).mono ?_; rintro e w1 ⟨rfl, hb⟩; rw [hf]))
    go_ret
    exact ⟨ret_int HE.out, B0.trans (hb.mono B0.size)⟩
  case true =>
  by_cases hz : n = 0
  · subst hz
    have HE : Hid (0 = waitsF f 0 lim now) := by show _ = _; unfold waitsF; rw [if_neg (by omega)]
    go_enter Try.func48, Try.ntmps48
    go_wp2_with (first | (go_at_call 33; refine (ififoOk_any a 0 c f lim _ hn hnc H0.out).mono ?_; rintro e w1 ⟨rfl, hb⟩; rw [hf]; obtain ⟨x0, x1⟩ := fi_cells ((hb.block w.heap.size (by simp)).trans hlie)))
    go_ret
    exact ⟨ret_int HE.out, B0.trans (hb.mono B0.size)⟩
  · have hz' : ((n : Int) == 0) = false := by simpa using hz
    have hzi : (0 : Int) < (n : Int) := by omega
    obtain ⟨b, off, rfl, hbl, hcs⟩ := PR.at HP.out (show 0 < n by omega)
    have q4 := (hcs 0 (by omega)).2.2.2.2.1
    simp only [Nat.zero_mul, Nat.add_zero] at q4
    clear hcs
    obtain ⟨_, ⟨t0, t1⟩, _⟩ := good_nums ((fifo_nums hf).2.2.2 0 (by omega)).1
    cases hi : inB now (f 0).tm 1000000000000
    case false =>
      have HE : Hid (0 = waitsF f n lim now) := by show _ = _; unfold inB at hi; unfold waitsF; rw [if_neg (by simp at hi; omega)]
      go_enter Try.func48, Try.ntmps48
      go_wp2_with (first | (go_at_call 33; refine (ififoOk_any _ n c f lim _ hn hnc H0.out).mono ?_; rintro e w1 ⟨rfl, hb⟩; rw [hf]; obtain ⟨x0, x1⟩ := fi_cells ((hb.block w.heap.size (by simp)).trans hlie); have p4 : w1.cell? ⟨b, off + 4, none⟩ = some (.int .i64 (f 0).tm) := (((B0.trans (hb.mono B0.size)).cell (p := ⟨b, off + 4, none⟩) hbl).trans q4)) | (go_at_call 34; refine (within_any _ _ _ _).mono ?_; rintro e w' ⟨rfl, rfl⟩; rw [hi]))
      go_ret
      exact ⟨ret_int HE.out, B0.trans (hb.mono B0.size)⟩
    case true =>
      have hi2 : (f 0).tm ≤ now ∧ now ≤ 1000000000000 := by unfold inB at hi; simpa using hi
      obtain ⟨hi3, hi4⟩ := hi2
      have HE : Hid (now - (f 0).tm = waitsF f n lim now) := by show _ = _; unfold waitsF; rw [if_pos ⟨hf, by omega, hi3, hi4⟩]
      go_enter Try.func48, Try.ntmps48
      go_wp2_with (first | (go_at_call 33; refine (ififoOk_any _ n c f lim _ hn hnc H0.out).mono ?_; rintro e w1 ⟨rfl, hb⟩; rw [hf]; obtain ⟨x0, x1⟩ := fi_cells ((hb.block w.heap.size (by simp)).trans hlie); have p4 : w1.cell? ⟨b, off + 4, none⟩ = some (.int .i64 (f 0).tm) := (((B0.trans (hb.mono B0.size)).cell (p := ⟨b, off + 4, none⟩) hbl).trans q4)) | (go_at_call 34; refine (within_any _ _ _ _).mono ?_; rintro e w' ⟨rfl, rfl⟩; rw [hi]))
      go_ret
      exact ⟨ret_int HE.out, B0.trans (hb.mono B0.size)⟩

end Go.Proofs.Ytlhiadehohikdaa
