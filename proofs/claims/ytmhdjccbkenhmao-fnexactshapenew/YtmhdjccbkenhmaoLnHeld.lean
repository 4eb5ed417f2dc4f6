/-
  WHAT THE LAWS READ AGAIN OF LINES: heldLineS, heldFair; markFair.
-/
import Derived.Test.YtmhdjccbkenhmaoLnMark
namespace Go.Proofs.Ytmhdjccbkenhmao
open Go.RowKit
set_option linter.unusedVariables false

set_option maxRecDepth 100000 in
set_option maxHeartbeats 4000000 in
theorem heldLineS_any (a : Option Addr) (N ca : Nat) (L : Nat → Ln) (k0 : Int) (w : World) (hP : LR w.heap.size w a N (upL L k0)) (hN : N ≤ 1048576) (hcn : cntF L N ≤ 1048576) (h0 : 0 ≤ k0) (h1 : k0 ≤ 1000000000) :
    Calls Try.prog 57 #[.slice a N ca, .int .i64 k0] w fun e w' => e = .returned (.int .i64 (upAt L k0 N)) ∧ w' = w := by
  have HP : Hid (LR w.heap.size w a N (upL L k0)) := hP
  have HC : Hid (cntF L N ≤ 1048576) := hcn
  have hNi : (N : Int) ≤ 1048576 := by omega
  clear hP hN hcn
  go_enter Try.func57, Try.ntmps57
  go_wp2
  go_loop [1, 5] (fun c i => ∃ j : Nat, j ≤ N ∧ i = .int .i64 j ∧ c = .int .i64 (upAt L k0 j)) (fun _ i => N - (intOf i).toNat)
  case atStart => exact ⟨0, Nat.zero_le _, rfl, by simp [upAt, cntF]⟩
  case round =>
    obtain ⟨j, hj, rfl, rfl⟩ := hrel
    by_cases hlt : j < N
    · obtain ⟨b, off, rfl, hbl, hcs⟩ := LR.at HP.out hlt
      obtain ⟨x, c, hat, hnc, hpr⟩ := hcs j hlt
      obtain ⟨Q, hQ⟩ : ∃ q, upAt L k0 j = q := ⟨_, rfl⟩
      have HQ : Hid (upAt L k0 j = Q) := hQ
      obtain ⟨n, hn⟩ : ∃ n, (L j).n = n := ⟨_, rfl⟩
      have HNN : Hid ((L j).n = n) := hn
      have hb : 0 ≤ Q ∧ Q + (n : Int) * 6 ≤ 1100000000 ∧ n ≤ 1048576 := by
        have e1 := cntF_mono L (show j + 1 ≤ N from hlt)
        rw [cntF_succ] at e1
        have e2 := HC.out
        rw [← hQ, ← hn]; unfold upAt; omega
      obtain ⟨q0, q1, q2⟩ := hb
      unfold upL at hat hpr
      rw [hQ, hn] at hat hpr
      rw [hQ]
      obtain ⟨c0, c1, c2, c3, c4, c5, c6, c7, c8⟩ := hat
      dsimp only [upLn] at c0 c1 c2 c3 c4 c5 c6 c7 c8
      have HRW : Hid (Row .i64 w x (n * 6) (fun o => Q + o)) := by
        rcases hpr with e | ⟨b', off', ha, hlt', hp⟩
        · exact .inl (by have e' : n = 0 := e; omega)
        · refine .inr ⟨b', off', ha, hlt', fun o ho => ?_⟩
          have hp' := hp (o / 6) (show o / 6 < n by omega)
          have hm : o % 6 < 6 := Nat.mod_lt _ (by omega)
          obtain ⟨p0, p1, p2, p3, p4, p5⟩ := hp'
          have ho' : off' + o = off' + o / 6 * 6 + o % 6 := by omega
          have hc : o % 6 = 0 ∨ o % 6 = 1 ∨ o % 6 = 2 ∨ o % 6 = 3 ∨ o % 6 = 4 ∨ o % 6 = 5 := by omega
          have hq : ∀ t : Nat, o % 6 = t → Q + ((o / 6 : Nat) : Int) * 6 + t = Q + o := fun t ht => by omega
          rw [ho']
          show w.cell? _ = some (.int .i64 (Q + o))
          rcases hc with e | e | e | e | e | e <;> rw [e, ← hq _ e]
          · simpa [upLn, upPk] using p0
          · exact p1
          · exact p2
          · exact p3
          · exact p4
          · exact p5
      have HN2 : Hid (n ≤ 1048576) := q2
      clear hcs hpr hQ hn q2
      go_wp2_with (go_at_call 19; refine (heldPktS_any x n c Q _ HRW.out HN2.out q0 (by omega)).mono ?_; rintro e w1 ⟨rfl, hw1⟩; replace hw1 := hw1.symm; subst hw1)
      go_round
      case rel => exact ⟨j + 1, by omega, by go_num, by rw [upAt_succ, HQ.out, HNN.out]; go_num⟩
      case measure => simp [intOf]; omega
    · obtain rfl : j = N := by omega
      go_wp2
      go_ret
      exact ⟨rfl, rfl⟩

theorem markLineS_nil (a : Option Addr) (ca : Nat) (k0 : Int) (w : World) :
    Calls Try.prog 55 #[.slice a 0 ca, .int .i64 k0] w fun e w' => e = .returned (.int .i64 k0) ∧ w' = w := by
  go_enter Try.func55, Try.ntmps55
  go_wp2
  go_loop [1, 5] (fun c i => i = .int .i64 0 ∧ c = .int .i64 k0) (fun _ i => 0)
  case atStart => exact ⟨rfl, rfl⟩
  case round =>
    obtain ⟨rfl, rfl⟩ := hrel
    go_wp2
    go_ret
    exact ⟨rfl, rfl⟩

theorem markIntS_nil (a : Option Addr) (ca : Nat) (k0 : Int) (w : World) (h0 : 0 ≤ k0) (h1 : k0 ≤ 1099511627776) :
    Calls Try.prog 56 #[.slice a 0 ca, .int .i64 k0] w fun e w' => e = .returned (.int .i64 k0) ∧ Chg 0 0 w w' := by
  refine (markIntS_zi 0 0 a 0 ca (fun _ => 0) k0 w (.inl rfl) (by omega) h0 h1).mono ?_
  rintro e w' ⟨rfl, _, hc⟩
  exact ⟨ret_int (by simp), hc⟩
theorem Chg.none {w w' : World} (h : Chg 0 0 w w') : Below w.heap.size w w' := ⟨h.os, h.tape, h.output, h.size, fun k hk => h.block k hk (by omega)⟩

set_option maxHeartbeats 1000000 in
/-- markFair of one whose lists are empty. -/
theorem markFair_lo (base up : Nat) (q lim : Int) (B N ca : Nat) (b : Option Addr) (cb : Nat) (c : Option Addr) (cc : Nat) (A : Nat → Option Addr) (C : Nat → Nat) (L : Nat → Ln) (k0 : Int) (w : World) (hlo : LO base w B N A C L) (hun : Under up B N A L) (hup : up ≤ w.heap.size) (hN : N ≤ 1048576) (hcn : cntF L N ≤ 1048576) (h0 : 0 ≤ k0) (h1 : k0 ≤ 1000000000) :
    Calls Try.prog 16 #[faVal q lim (some ⟨B, 0, none⟩) N ca b 0 cb c 0 cc, .int .i64 k0] w fun e w' => e = .returned (.int .i64 (upAt L k0 N)) ∧ LO base w' B N A C (upL L k0) ∧ Chg base up w w' := by
  have HLO : Hid (LO base w B N A C L) := hlo
  have HUN : Hid (Under up B N A L) := hun
  have HC : Hid (cntF L N ≤ 1048576) := hcn
  have HN : Hid (N ≤ 1048576) := hN
  have HUP : Hid (up ≤ w.heap.size) := hup
  obtain ⟨Q, hQ⟩ : ∃ q, upAt L k0 N = q := ⟨_, rfl⟩
  have hb : 0 ≤ Q ∧ Q ≤ 1099511627776 := by rw [← hQ]; unfold upAt; omega
  obtain ⟨q0, q1⟩ := hb
  rw [hQ]
  have HQ : Hid (upAt L k0 N = Q) := hQ
  clear hlo hun hcn hN hup hQ
  obtain ⟨W0, hW0⟩ : ∃ W, w.alloc (.cells (faCells q lim (some ⟨B, 0, none⟩) N ca b 0 cb c 0 cc) 31) = W := ⟨_, rfl⟩
  have s0 : Sits W0 w.heap.size (faCells q lim (some ⟨B, 0, none⟩) N ca b 0 cb c 0 cc) 31 := by rw [← hW0]; exact Sits.new _ _ _
  have b0 : Below w.heap.size w W0 := by rw [← hW0]; exact (Below.refl _ w).alloc (Nat.le_refl _) _
  have HW0 : Hid (w.alloc (.cells (faCells q lim (some ⟨B, 0, none⟩) N ca b 0 cb c 0 cc) 31) = W0) := hW0
  have HB0 : Hid (Below w.heap.size w W0) := b0
  have HS0 : Hid (Sits W0 w.heap.size (faCells q lim (some ⟨B, 0, none⟩) N ca b 0 cb c 0 cc) 31) := s0
  have x2 := s0.cell 2
  clear s0 b0 hW0
  go_enter Try.func16, Try.ntmps16
  go_upto_region 1 with fail
  rw [HW0.out]
  clear HW0
  go_upto_region 2 with (go_at_call 55; refine (markLineS_lo base up B N ca A C L k0 _ (LO.below HLO.out HB0.out) HUN.out HN.out HC.out h0 h1).mono ?_; rintro e w1 ⟨rfl, lo1, c1⟩; rw [HQ.out]; have HLO1 : Hid (LO base w1 B N A C (upL L k0)) := lo1; have HC1 : Hid (Chg base up W0 w1) := c1; have s1 := Sits.chg HS0.out c1 (.inr HUP.out); have x3 := s1.cell 3; have HS1 : Hid (Sits w1 w.heap.size (faCells q lim (some ⟨B, 0, none⟩) N ca b 0 cb c 0 cc) 31) := s1; clear lo1 c1 s1)
  go_upto_region 3 with (go_at_call 56; refine (markIntS_nil b cb Q _ q0 q1).mono ?_; rintro e w2 ⟨rfl, c2⟩; have b2 := c2.none; have s2 := Sits.below HS1.out b2 (Sits.lt HS1.out); have x4 := s2.cell 4; have HB2 : Hid (Below w1.heap.size w1 w2) := b2; clear s2 c2 b2)
  go_wp2_with (go_at_call 56; refine (markIntS_nil c cc Q _ q0 q1).mono ?_; rintro e w3 ⟨rfl, c3⟩; have HB3 : Hid (Below w2.heap.size w2 w3) := c3.none; clear c3)
  go_ret
  exact ⟨rfl, LO.below (LO.below HLO1.out HB2.out) HB3.out, (((Chg.of_below HB0.out).trans HC1.out).trans (Chg.of_below HB2.out)).trans (Chg.of_below HB3.out)⟩

set_option maxHeartbeats 1000000 in
theorem markFair_nil (q lim : Int) (a : Option Addr) (ca : Nat) (b : Option Addr) (cb : Nat) (c : Option Addr) (cc : Nat) (k0 : Int) (w : World) (q0 : 0 ≤ k0) (q1 : k0 ≤ 1099511627776) :
    Calls Try.prog 16 #[faVal q lim a 0 ca b 0 cb c 0 cc, .int .i64 k0] w fun e w' => e = .returned (.int .i64 k0) ∧ Below w.heap.size w w' := by
  obtain ⟨W0, hW0⟩ : ∃ W, w.alloc (.cells (faCells q lim a 0 ca b 0 cb c 0 cc) 31) = W := ⟨_, rfl⟩
  have s0 : Sits W0 w.heap.size (faCells q lim a 0 ca b 0 cb c 0 cc) 31 := by rw [← hW0]; exact Sits.new _ _ _
  have b0 : Below w.heap.size w W0 := by rw [← hW0]; exact (Below.refl _ w).alloc (Nat.le_refl _) _
  have HW0 : Hid (w.alloc (.cells (faCells q lim a 0 ca b 0 cb c 0 cc) 31) = W0) := hW0
  have HB0 : Hid (Below w.heap.size w W0) := b0
  have HS0 : Hid (Sits W0 w.heap.size (faCells q lim a 0 ca b 0 cb c 0 cc) 31) := s0
  have x2 := s0.cell 2
  have x3 := s0.cell 3
  clear s0 b0 hW0
  go_enter Try.func16, Try.ntmps16
  go_upto_region 1 with fail
  rw [HW0.out]
  clear HW0
  go_upto_region 2 with (go_at_call 55; refine (markLineS_nil a ca k0 _).mono ?_; rintro e w1 ⟨rfl, hw1⟩; replace hw1 := hw1.symm; subst hw1)
  go_upto_region 3 with (go_at_call 56; refine (markIntS_nil b cb k0 _ q0 q1).mono ?_; rintro e w2 ⟨rfl, c2⟩; have b2 := c2.none; have s2 := Sits.below HS0.out b2 (Sits.lt HS0.out); have x4 := s2.cell 4; have HB2 : Hid (Below w.heap.size w w2) := (HB0.out).trans (b2.mono (HB0.out).size); clear s2 c2 b2)
  go_wp2_with (go_at_call 56; refine (markIntS_nil c cc k0 _ q0 q1).mono ?_; rintro e w3 ⟨rfl, c3⟩; have HB3 : Hid (Below w2.heap.size w2 w3) := c3.none; clear c3)
  go_ret
  exact ⟨rfl, (HB2.out).trans (Below.mono HB3.out (HB2.out).size)⟩

set_option maxHeartbeats 1000000 in
/-- heldFair of one whose lists are empty. -/
theorem heldFair_any (q lim : Int) (a : Option Addr) (N ca : Nat) (b : Option Addr) (cb : Nat) (c : Option Addr) (cc : Nat) (L : Nat → Ln) (k0 : Int) (w : World) (hP : LR w.heap.size w a N (upL L k0)) (hN : N ≤ 1048576) (hcn : cntF L N ≤ 1048576) (h0 : 0 ≤ k0) (h1 : k0 ≤ 1000000000) :
    Calls Try.prog 18 #[faVal q lim a N ca b 0 cb c 0 cc, .int .i64 k0] w fun e w' => e = .returned (.int .i64 (upAt L k0 N)) ∧ Below w.heap.size w w' := by
  have HP : Hid (LR w.heap.size w a N (upL L k0)) := hP
  have HC : Hid (cntF L N ≤ 1048576) := hcn
  have HN : Hid (N ≤ 1048576) := hN
  obtain ⟨Q, hQ⟩ : ∃ q, upAt L k0 N = q := ⟨_, rfl⟩
  have hb : 0 ≤ Q ∧ Q ≤ 1099511627776 := by rw [← hQ]; unfold upAt; omega
  obtain ⟨q0, q1⟩ := hb
  rw [hQ]
  have HQ : Hid (upAt L k0 N = Q) := hQ
  have qn : ¬ Q < 0 := by omega
  clear hP hcn hN hQ
  obtain ⟨W0, hW0⟩ : ∃ W, w.alloc (.cells (faCells q lim a N ca b 0 cb c 0 cc) 31) = W := ⟨_, rfl⟩
  have s0 : Sits W0 w.heap.size (faCells q lim a N ca b 0 cb c 0 cc) 31 := by rw [← hW0]; exact Sits.new _ _ _
  have b0 : Below w.heap.size w W0 := by rw [← hW0]; exact (Below.refl _ w).alloc (Nat.le_refl _) _
  have HW0 : Hid (w.alloc (.cells (faCells q lim a N ca b 0 cb c 0 cc) 31) = W0) := hW0
  have HB0 : Hid (Below w.heap.size w W0) := b0
  have HS0 : Hid (Sits W0 w.heap.size (faCells q lim a N ca b 0 cb c 0 cc) 31) := s0
  have x2 := s0.cell 2
  have x3 := s0.cell 3
  clear s0 b0 hW0
  go_enter Try.func18, Try.ntmps18
  go_upto_region 1 with fail
  rw [HW0.out]
  clear HW0
  go_upto_region 4 with (go_at_call 57; refine (heldLineS_any a N ca L k0 _ (LR.go HP.out HB0.out (HB0.out).size) HN.out HC.out h0 h1).mono ?_; rintro e w1 ⟨rfl, hw1⟩; replace hw1 := hw1.symm; subst hw1; rw [HQ.out])
  go_upto_region 7 with (go_at_call 58; refine (heldIntS_any b 0 cb Q _ (.inl rfl) (by omega) q0 q1).mono ?_; rintro e w2 ⟨rfl, b2⟩; have s2 := Sits.below HS0.out b2 (Sits.lt HS0.out); have x4 := s2.cell 4; have HB2 : Hid (Below w.heap.size w w2) := (HB0.out).trans (b2.mono (HB0.out).size); clear s2 b2)
  go_wp2_with (go_at_call 58; refine (heldIntS_any c 0 cc Q _ (.inl rfl) (by omega) q0 q1).mono ?_; rintro e w3 ⟨rfl, b3⟩; have HB3 : Hid (Below w2.heap.size w2 w3) := b3; clear b3)
  go_ret
  exact ⟨rfl, (HB2.out).trans (Below.mono HB3.out (HB2.out).size)⟩

end Go.Proofs.Ytmhdjccbkenhmao
