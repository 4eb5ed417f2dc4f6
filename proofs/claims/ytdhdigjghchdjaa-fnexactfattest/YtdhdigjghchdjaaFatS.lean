/-
  THE FATTEST LINE, AS THE SPECIFICATION SAYS: l7fattest, Fattest.
-/
import Derived.Test.YtdhdigjghchdjaaFairS
namespace Go.Proofs.Ytdhdigjghchdjaa
open Go.RowKit
set_option linter.unusedVariables false

/-- The fattest one of the first k lines, and how many bytes it has. -/
def fatS (L : Nat → Ln) : Nat → Int × Int
  | 0 => (-1, 0)
  | k + 1 => if (fatS L k).2 < sumF (L k).f (L k).n then ((k : Int), sumF (L k).f (L k).n) else fatS L k
def fatF (q lim : Int) (N : Nat) (L : Nat → Ln) (ls : List Int) : Int := if fairB q lim N L ls = true then (fatS L N).1 else -1
/-- All sizes are those of packets. -/
def sizesOk (L : Nat → Ln) (N : Nat) : Prop := ∀ i, i < N → (L i).n ≤ 1048576 ∧ ∀ j, j < (L i).n → 1 ≤ ((L i).f j).size ∧ ((L i).f j).size ≤ 2000
theorem sizes_of_fair {q lim : Int} {N : Nat} {L : Nat → Ln} {ls : List Int} (h : fairB q lim N L ls = true) : sizesOk L N := by
  have hp : fairP q lim N L ls := by unfold fairB at h; simpa using h
  obtain ⟨_, _, rfl, _, _, hl⟩ := hp
  intro i hi
  obtain ⟨_, _, hf, _, _⟩ := hl i hi
  obtain ⟨_, _, l3, hline⟩ := fifo_nums hf
  exact ⟨by omega, fun j hj => (good_nums (hline j hj).1).2.2.2.2.1⟩

set_option maxHeartbeats 1000000 in
theorem l7fattest_any (q lim : Int) (a : Option Addr) (N ca : Nat) (b : Option Addr) (nn cb : Nat) (c : Option Addr) (no cc : Nat) (L : Nat → Ln) (w : World) (hN : N ≤ 1048576) (hs : sizesOk L N) (hP : LR w.heap.size w a N L) :
    Calls Try.prog 12 #[faVal q lim a N ca b nn cb c no cc] w fun e w' => e = .returned (.int .i64 (fatS L N).1) ∧ Below w.heap.size w w' := by
  have HP : Hid (LR w.heap.size w a N L) := hP
  have HSZ : Hid (sizesOk L N) := hs
  have hN' : (N : Int) ≤ 1048576 := by omega
  clear hP hN hs
  obtain ⟨W0, hW0⟩ : ∃ W, w.alloc (.cells (faCells q lim a N ca b nn cb c no cc) 30) = W := ⟨_, rfl⟩
  have s0 : Sits W0 w.heap.size (faCells q lim a N ca b nn cb c no cc) 30 := by rw [← hW0]; exact Sits.new _ _ _
  have b0 : Below w.heap.size w W0 := by rw [← hW0]; exact (Below.refl _ w).alloc (Nat.le_refl _) _
  have HW0 : Hid (w.alloc (.cells (faCells q lim a N ca b nn cb c no cc) 30) = W0) := hW0
  have HB0 : Hid (Below w.heap.size w W0) := b0
  have HP0 : Hid (LR W0.heap.size W0 a N L) := LR.go HP.out b0 b0.size
  have x2 := s0.cell 2
  clear s0 b0 hW0
  go_enter Try.func12, Try.ntmps12
  go_upto_region 1 with fail
  rw [HW0.out]
  clear HW0
  go_wp2
  go_loop [3, 4, 5] (fun s m i => ∃ k : Nat, k ≤ N ∧ i = .int .i64 k ∧ s = .int .i64 (fatS L k).1 ∧ m = .int .i64 (fatS L k).2) (fun _ _ i => N - (intOf i).toNat)
  case atStart => exact ⟨0, Nat.zero_le _, rfl, rfl, rfl⟩
  case round =>
    obtain ⟨k, hk, rfl, rfl, rfl⟩ := hrel
    by_cases hlt : k < N
    · obtain ⟨b1, off, rfl, hbl, hcs⟩ := LR.at HP0.out hlt
      obtain ⟨x, c', hat, hnc, hpr⟩ := hcs k hlt
      have c0 := hat.1
      have HPR : Hid (PR W0.heap.size W0 x (L k).n (L k).f) := hpr
      have HZK : Hid ((L k).n ≤ 1048576 ∧ ∀ j, j < (L k).n → 1 ≤ ((L k).f j).size ∧ ((L k).f j).size ≤ 2000) := HSZ.out k hlt
      clear hcs hat hpr
      by_cases hm : (fatS L k).2 < sumF (L k).f (L k).n
      · have HF : Hid (fatS L (k + 1) = ((k : Int), sumF (L k).f (L k).n)) := by show fatS L (k + 1) = _; rw [fatS, if_pos hm]
        have hm' : decide ((fatS L k).2 < sumF (L k).f (L k).n) = true := by simpa using hm
        go_wp2_with (go_at_call 26; refine (l3bytes_any x (L k).n c' (L k).f _ (HZK.out).1 HPR.out (HZK.out).2).mono ?_; rintro e w9 ⟨rfl, hw9⟩; replace hw9 := hw9.symm; subst hw9)
        go_round
        case rel => exact ⟨k + 1, by omega, by go_num, by rw [HF.out], by rw [HF.out]⟩
        case measure => simp [intOf]; omega
      · have HF : Hid (fatS L (k + 1) = fatS L k) := by show fatS L (k + 1) = _; rw [fatS, if_neg hm]
        have hm' : decide ((fatS L k).2 < sumF (L k).f (L k).n) = false := by simpa using hm
        go_wp2_with (go_at_call 26; refine (l3bytes_any x (L k).n c' (L k).f _ (HZK.out).1 HPR.out (HZK.out).2).mono ?_; rintro e w9 ⟨rfl, hw9⟩; replace hw9 := hw9.symm; subst hw9)
        go_round
        case rel => exact ⟨k + 1, by omega, by go_num, by rw [HF.out], by rw [HF.out]⟩
        case measure => simp [intOf]; omega
    · obtain rfl : k = N := by omega
      go_wp2
      go_ret
      exact ⟨rfl, HB0.out⟩

end Go.Proofs.Ytdhdigjghchdjaa
