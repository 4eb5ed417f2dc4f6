/-
  WHICH FAIRS ARE WELL, AS THE PROGRAM SAYS: countOf, queueOf, waitingOk, fairLineOk, listedOnce, FairOk.
-/
import Derived.Test.YtmjggolllijamaaFairB
namespace Go.Proofs.Ytmjggolllijamaa
open Go.RowKit Go.Shelf
set_option linter.unusedVariables false
attribute [local go_sem] Oper.semAt_some

set_option maxHeartbeats 1000000 in
theorem icountOf_any (a : Option Addr) (N ca : Nat) (L : Nat → Ln) (w : World) (hN : N ≤ 1048576) (hcn : cntF L N ≤ 1048576) (hP : LR w.heap.size w a N L) :
    Calls Try.prog 50 #[.slice a N ca] w fun e w' => e = .returned (.int .i64 (cntF L N : Int)) ∧ Below w.heap.size w w' := by
  have HP : Hid (LR w.heap.size w a N L) := hP
  have hN' : (N : Int) ≤ 1048576 := by omega
  have HC : Hid (cntF L N ≤ 1048576) := hcn
  clear hP hN hcn
  go_enter Try.func50, Try.ntmps50
  go_wp2
  go_loopw [3, 8] (fun s i wr => ∃ k : Nat, k ≤ N ∧ i = .int .i64 k ∧ s = .int .i64 (cntF L k : Int) ∧ Below w.heap.size w wr) (fun _ i _ => N - (intOf i).toNat)
  case atStart => exact ⟨0, Nat.zero_le _, rfl, rfl, Below.refl _ _⟩
  case round =>
    obtain ⟨k, hk, rfl, rfl, hB⟩ := hrel
    by_cases hlt : k < N
    · obtain ⟨b1, off, rfl, hbl, hcs⟩ := LR.at HP.out hlt
      obtain ⟨x, c', hat, hnc, hpr⟩ := hcs k hlt
      obtain ⟨c0, c1, c2, c3, c4, c5, c6, c7, c8⟩ := hat.below hB hbl
      have hm := cntF_mono L (show k + 1 ≤ N from hlt)
      have HS : Hid (cntF L (k + 1) = cntF L k + (L k).n) := cntF_succ L k
      have hb1 : (cntF L k : Int) + ((L k).n : Int) ≤ 1048576 := by have := HS.out; have := HC.out; omega
      clear hcs hat hpr hm
      go_wp2
      go_roundw
      case rel => exact ⟨k + 1, by omega, by go_num, by rw [HS.out]; go_num, hB.alloc hB.size _⟩
      case measure => simp [intOf]; omega
    · obtain rfl : k = N := by omega
      go_wp2
      go_ret
      exact ⟨rfl, hB⟩

theorem queueOf_any (a : Option Addr) (n c : Nat) (w : World) :
    Calls Try.prog 49 #[.slice a n c] w fun e w' => e = .returned (fiVal a n c 40) ∧ Below w.heap.size w w' := by
  simp only [fiVal]
  go_enter Try.func49, Try.ntmps49
  go_wp2
  exact bodyPost_ret (v := .agg #[.slice a n c, .int .i64 40]) (by simp [results, Try.results49, go_sem]) rfl ⟨rfl, by go_grown⟩

/-- A line waits well. -/
def waitB (l : Ln) : Bool := inB l.sh (-2000) 12000 && fifoB l.f l.n 40

set_option maxHeartbeats 1000000 in
theorem iwaitingOk_any (x : Option Addr) (c : Nat) (l : Ln) (w : World) (hn : l.n ≤ 1048576) (hnc : l.n ≤ c) (hP : PR w.heap.size w x l.n l.f) :
    Calls Try.prog 78 #[lnVal x c l] w fun e w' => e = .returned (.bool (waitB l)) ∧ Below w.heap.size w w' := by
  have HP : Hid (PR w.heap.size w x l.n l.f) := hP
  have HN : Hid (l.n ≤ 1048576) := hn
  have HNC : Hid (l.n ≤ c) := hnc
  clear hP hn hnc
  obtain ⟨W0, hW0⟩ : ∃ W, w.alloc (.cells (lnCells x c l) 53) = W := ⟨_, rfl⟩
  have s0 : Sits W0 w.heap.size (lnCells x c l) 53 := by rw [← hW0]; exact Sits.new _ _ _
  have b0 : Below w.heap.size w W0 := by rw [← hW0]; exact (Below.refl _ w).alloc (Nat.le_refl _) _
  have HW0 : Hid (w.alloc (.cells (lnCells x c l) 53) = W0) := hW0
  have HB0 : Hid (Below w.heap.size w W0) := b0
  have y0 := s0.cell 0
  have y1 := s0.cell 1
  clear s0 b0 hW0
  cases hi : inB l.sh (-2000) 12000
  case false =>
    have HE : Hid (false = waitB l) := by show _ = _; unfold waitB; rw [hi]; rfl
    go_enter Try.func78, Try.ntmps78
    go_upto_region 1 with fail
    rw [HW0.out]
    go_wp2_with (go_at_call 31; refine (within_any _ _ _ _).mono ?_; rintro e w' ⟨rfl, rfl⟩; rw [hi])
    go_ret
    exact ⟨ret_bool HE.out, HB0.out⟩
  case true =>
    have HE : Hid (fifoB l.f l.n 40 = waitB l) := by show _ = _; unfold waitB; rw [hi]; rfl
    go_enter Try.func78, Try.ntmps78
    go_upto_region 1 with fail
    rw [HW0.out]
    go_wp2_with (first | (go_at_call 31; refine (within_any _ _ _ _).mono ?_; rintro e w' ⟨rfl, rfl⟩; rw [hi]) | (go_at_call 49; refine (queueOf_any x l.n c _).mono ?_; rintro e w1 ⟨rfl, hb1⟩; have B1 := (HB0.out).trans (hb1.mono (HB0.out).size)) | (go_at_call 74; refine (ififoOk_any x l.n c l.f 40 _ HN.out HNC.out ((PR.below HP.out B1).mono B1.size)).mono ?_; rintro e w2 ⟨rfl, hb2⟩))
    go_ret
    exact ⟨ret_bool HE.out, B1.trans (hb2.mono B1.size)⟩

theorem ret_b1 {fn : Func} {tmps : Array Value} {W : World} {i B : Nat} {b : Bool} {t : TypeId} (hr : fn.results = #[.cell i 4]) (hi : tmps[i]?.getD undef = .pointer (some ⟨B, 0, none⟩)) (hs : Boxed W B t (.bool b)) : (results fn tmps).run Try.prog W = .ok (.bool b) W := by
  have c0 := hs.cell
  simp [results, hr, hi, go_sem, c0]

/-- A line of a Fair, but for the lists. -/
def flnP (i : Int) (l : Ln) : Prop := l.cd.good = true ∧ waitB l = true ∧ ∀ k, k < l.n → (l.f k).flow = i
instance (i : Int) (l : Ln) : Decidable (flnP i l) := by unfold flnP; infer_instance
def flnB (i : Int) (l : Ln) : Bool := decide (flnP i l)

@[reducible] def boVal (l : List Int) : Value := .agg #[.bool (decide ((0 : Int) ∈ l)), .bool (decide ((1 : Int) ∈ l)), .bool (decide ((2 : Int) ∈ l)), .bool (decide ((3 : Int) ∈ l)), .bool (decide ((4 : Int) ∈ l)), .bool (decide ((5 : Int) ∈ l)), .bool (decide ((6 : Int) ∈ l)), .bool (decide ((7 : Int) ∈ l)), .bool (decide ((8 : Int) ∈ l)), .bool (decide ((9 : Int) ∈ l)), .bool (decide ((10 : Int) ∈ l)), .bool (decide ((11 : Int) ∈ l)), .bool (decide ((12 : Int) ∈ l)), .bool (decide ((13 : Int) ∈ l)), .bool (decide ((14 : Int) ∈ l)), .bool (decide ((15 : Int) ∈ l))]

end Go.Proofs.Ytmjggolllijamaa
