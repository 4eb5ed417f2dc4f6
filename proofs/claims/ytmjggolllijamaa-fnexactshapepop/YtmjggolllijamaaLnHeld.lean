/-
  WHAT THE LAWS READ AGAIN OF LINES: heldLineS, heldFair; markFair.
-/
import Derived.Test.YtmjggolllijamaaLnMark
namespace Go.Proofs.Ytmjggolllijamaa
open Go.RowKit
set_option linter.unusedVariables false

set_option maxRecDepth 100000 in
set_option maxHeartbeats 4000000 in
theorem heldLineS_any (a : Option Addr) (N ca : Nat) (L : Nat → Ln) (k0 : Int) (w : World) (hP : LR w.heap.size w a N (upL L k0)) (hN : N ≤ 1048576) (hcn : cntF L N ≤ 1048576) (h0 : 0 ≤ k0) (h1 : k0 ≤ 1000000000) :
    Calls Try.prog 40 #[.slice a N ca, .int .i64 k0] w fun e w' => e = .returned (.int .i64 (upAt L k0 N)) ∧ w' = w := by
  have HP : Hid (LR w.heap.size w a N (upL L k0)) := hP
  have HC : Hid (cntF L N ≤ 1048576) := hcn
  have hNi : (N : Int) ≤ 1048576 := by omega
  clear hP hN hcn
  go_enter Try.func40, Try.ntmps40
  go_wp2
  go_loop [1, 5] (fun c i => ∃ j : Nat, j ≤ N ∧ i = .int .i64 j ∧ c = .int .i64 (upAt L k0 j)) (fun _ i => N - (intOf i).toNat)
  case atStart => exact ⟨0, Nat.zero_le _, rfl, by simp [upAt, cntF]⟩
  case round =>
    obtain ⟨j, hj, rfl, rfl⟩ := hrel
    by_cases hlt : j < N
    · obtain ⟨b, off, rfl, hbl, hcs⟩ := LR.at HP.out hlt
      obtain ⟨x, c, hat, hnc, hpr⟩ := hcs j hlt
      obtain ⟨Q, hQ⟩ : ∃ q, upAt L k0 j = q := ⟨_, rfl⟩
      have HQ : Hid (upAt L k0 j = Q) := hQ
      obtain ⟨n, hn⟩ : ∃ n, (L j).n = n := ⟨_, rfl⟩
      have HNN : Hid ((L j).n = n) := hn
      have hb : 0 ≤ Q ∧ Q + (n : Int) * 6 ≤ 1100000000 ∧ n ≤ 1048576 := by
        have e1 := cntF_mono L (show j + 1 ≤ N from hlt)
        rw [cntF_succ] at e1
        have e2 := HC.out
        rw [← hQ, ← hn]; unfold upAt; omega
      obtain ⟨q0, q1, q2⟩ := hb
      unfold upL at hat hpr
      rw [hQ, hn] at hat hpr
      rw [hQ]
      obtain ⟨c0, c1, c2, c3, c4, c5, c6, c7, c8⟩ := hat
      dsimp only [upLn] at c0 c1 c2 c3 c4 c5 c6 c7 c8
      have HRW : Hid (Row .i64 w x (n * 6) (fun o => Q + o)) := by
        rcases hpr with e | ⟨b', off', ha, hlt', hp⟩
        · exact .inl (by have e' : n = 0 := e; omega)
        · refine .inr ⟨b', off', ha, hlt', fun o ho => ?_⟩
          have hp' := hp (o / 6) (show o / 6 < n by omega)
          have hm : o % 6 < 6 := Nat.mod_lt _ (by omega)
          obtain ⟨p0, p1, p2, p3, p4, p5⟩ := hp'
          have ho' : off' + o = off' + o / 6 * 6 + o % 6 := by omega
          have hc : o % 6 = 0 ∨ o % 6 = 1 ∨ o % 6 = 2 ∨ o % 6 = 3 ∨ o % 6 = 4 ∨ o % 6 = 5 := by omega
          have hq : ∀ t : Nat, o % 6 = t → Q + ((o / 6 : Nat) : Int) * 6 + t = Q + o := fun t ht => by omega
          rw [ho']
          show w.cell? _ = some (.int .i64 (Q + o))
          rcases hc with e | e | e | e | e | e <;> rw [e, ← hq _ e]
          · simpa [upLn, upPk] using p0
          · exact p1
          · exact p2
          · exact p3
          · exact p4
          · exact p5
      have HN2 : Hid (n ≤ 1048576) := q2
      clear hcs hpr hQ hn q2
      go_wp2_with (go_at_call 70; refine (heldPktS_any x n c Q _ HRW.out HN2.out q0 (by omega)).mono ?_; rintro e w1 ⟨rfl, hw1⟩; replace hw1 := hw1.symm; subst hw1)
      go_round
      case rel => exact ⟨j + 1, by omega, by go_num, by rw [upAt_succ, HQ.out, HNN.out]; go_num⟩
      case measure => simp [intOf]; omega
    · obtain rfl : j = N := by omega
      go_wp2
      go_ret
      exact ⟨rfl, rfl⟩

theorem markLineS_nil (a : Option Addr) (ca : Nat) (k0 : Int) (w : World) :
    Calls Try.prog 38 #[.slice a 0 ca, .int .i64 k0] w fun e w' => e = .returned (.int .i64 k0) ∧ w' = w := by
  go_enter Try.func38, Try.ntmps38
  go_wp2
  go_loop [1, 5] (fun c i => i = .int .i64 0 ∧ c = .int .i64 k0) (fun _ i => 0)
  case atStart => exact ⟨rfl, rfl⟩
  case round =>
    obtain ⟨rfl, rfl⟩ := hrel
    go_wp2
    go_ret
    exact ⟨rfl, rfl⟩

theorem markIntS_nil (a : Option Addr) (ca : Nat) (k0 : Int) (w : World) (h0 : 0 ≤ k0) (h1 : k0 ≤ 1099511627776) :
    Calls Try.prog 39 #[.slice a 0 ca, .int .i64 k0] w fun e w' => e = .returned (.int .i64 k0) ∧ Chg 0 0 w w' := by
  refine (markIntS_zi 0 0 a 0 ca (fun _ => 0) k0 w (.inl rfl) (by omega) h0 h1).mono ?_
  rintro e w' ⟨rfl, _, hc⟩
  exact ⟨ret_int (by simp), hc⟩
theorem Chg.none {w w' : World} (h : Chg 0 0 w w') : Below w.heap.size w w' := ⟨h.os, h.tape, h.output, h.size, fun k hk => h.block k hk (by omega)⟩

end Go.Proofs.Ytmjggolllijamaa
