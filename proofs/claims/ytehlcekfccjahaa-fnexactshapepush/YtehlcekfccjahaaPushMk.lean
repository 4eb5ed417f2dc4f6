/-
  MARKS OF A SHAPE WITH A BOUND ABOVE: what lies higher does not turn; how much an answer holds.
-/
import Derived.Test.YtehlcekfccjahaaPushLaw
namespace Go.Proofs.Ytehlcekfccjahaa
open Go.RowKit
set_option linter.unusedVariables false

set_option maxHeartbeats 1000000 in
/-- markShape, whatever its lists: nothing turns at `up` or above. -/
theorem markShape_up (base up : Nat) (s : Sh) (B N ca : Nat) (y : Option Addr) (n cy : Nat) (A : Nat → Option Addr) (C : Nat → Nat) (L : Nat → Ln) (tn : Nat → Int) (k0 : Int) (w : World) (hmk : MK base w B N A C L y n tn) (hun : Under up B N A L) (hyu : ∀ Y : Nat, n ≠ 0 → y = some ⟨Y, 0, none⟩ → Y < up) (hup : up ≤ w.heap.size) (hN : N ≤ 1048576) (hcn : cntF L N ≤ 1048576) (hn : n ≤ 1048576) (h0 : 0 ≤ k0) (h1 : k0 ≤ 1000000000) :
    Calls Try.prog 10 #[shVal s (some ⟨B, 0, none⟩) N ca y n cy, .int .i64 k0] w fun e w' => e = .returned (.int .i64 (upAt L k0 N + n)) ∧ MK base w' B N A C (upL L k0) y n (fun i => upAt L k0 N + i) ∧ Chg base up w w' := by
  obtain ⟨hlw, hy⟩ := hmk
  have HLW : Hid (LW base w B N A C L) := hlw
  have HUN : Hid (Under up B N A L) := hun
  have HYU : Hid (∀ Y : Nat, n ≠ 0 → y = some ⟨Y, 0, none⟩ → Y < up) := hyu
  have HUP : Hid (up ≤ w.heap.size) := hup
  have HY : Hid (n = 0 ∨ ∃ Y : Nat, y = some ⟨Y, 0, none⟩ ∧ base ≤ Y ∧ Y ≠ B ∧ (∀ i, i < N → (L i).n ≠ 0 → A i ≠ some ⟨Y, 0, none⟩) ∧ Own .i64 w Y n tn) := hy
  have HC : Hid (cntF L N ≤ 1048576) := hcn
  have HN : Hid (N ≤ 1048576) := hN
  have HNN : Hid (n ≤ 1048576) := hn
  obtain ⟨Q, hQ⟩ : ∃ q, upAt L k0 N = q := ⟨_, rfl⟩
  have hb : 0 ≤ Q ∧ Q ≤ 1099511627776 := by rw [← hQ]; unfold upAt; omega
  obtain ⟨q0, q1⟩ := hb
  rw [hQ]
  have HQ : Hid (upAt L k0 N = Q) := hQ
  clear hlw hy hcn hN hn hQ hun hyu hup
  obtain ⟨W0, hW0⟩ : ∃ W, w.alloc (.cells (shCells s (some ⟨B, 0, none⟩) N ca y n cy) 31) = W := ⟨_, rfl⟩
  have s0 : Sits W0 w.heap.size (shCells s (some ⟨B, 0, none⟩) N ca y n cy) 31 := by rw [← hW0]; exact Sits.new _ _ _
  have b0 : Below w.heap.size w W0 := by rw [← hW0]; exact (Below.refl _ w).alloc (Nat.le_refl _) _
  have HW0 : Hid (w.alloc (.cells (shCells s (some ⟨B, 0, none⟩) N ca y n cy) 31) = W0) := hW0
  have HB0 : Hid (Below w.heap.size w W0) := b0
  have HS0 : Hid (Sits W0 w.heap.size (shCells s (some ⟨B, 0, none⟩) N ca y n cy) 31) := s0
  have x2 := s0.cell 5
  clear s0 b0 hW0
  go_enter Try.func10, Try.ntmps10
  go_upto_region 1 with fail
  rw [HW0.out]
  clear HW0
  go_upto_region 2 with (go_at_call 29; refine (markLineS_lw base up B N ca A C L k0 _ (LW.below HLW.out HB0.out) HUN.out HN.out HC.out h0 h1).mono ?_; rintro e w1 ⟨rfl, lo1, c1, k1⟩; rw [HQ.out]; have HLW1 : Hid (LW base w1 B N A C (upL L k0)) := lo1; have HC1 : Hid (Chg base up W0 w1) := c1; have HK1 : Hid (∀ k, k < W0.heap.size → k ≠ B → (∀ i, i < N → (L i).n ≠ 0 → A i ≠ some ⟨k, 0, none⟩) → w1.heap[k]? = W0.heap[k]?) := k1; have s1 := Sits.chg HS0.out c1 (.inr HUP.out); have x3 := s1.cell 6; have HS1 : Hid (Sits w1 w.heap.size (shCells s (some ⟨B, 0, none⟩) N ca y n cy) 31) := s1; clear lo1 c1 s1 k1)
  have HY1 : Hid (n = 0 ∨ ∃ Y : Nat, y = some ⟨Y, 0, none⟩ ∧ base ≤ Y ∧ Y ≠ B ∧ (∀ i, i < N → (L i).n ≠ 0 → A i ≠ some ⟨Y, 0, none⟩) ∧ Y < w.heap.size ∧ Own .i64 w1 Y n tn) := by
    rcases HY.out with e | ⟨Y, ha, hg, hne, hA, ho⟩
    · exact .inl e
    · refine .inr ⟨Y, ha, hg, hne, hA, ho.1, ?_⟩
      exact own_same (own_same ho ((HB0.out).block Y ho.1) (HB0.out).size) (HK1.out Y (Nat.lt_of_lt_of_le ho.1 (HB0.out).size) hne hA) (HC1.out).size
  obtain ⟨zl, zu, hzi, hzb⟩ : ∃ zl zu : Nat, ZI zl zu w1 y n tn ∧ ((n = 0 ∧ zl = base ∧ zu = base) ∨ (∃ Y, y = some ⟨Y, 0, none⟩ ∧ zl = Y ∧ zu = Y + 1 ∧ base ≤ Y ∧ Y < up ∧ Y ≠ B ∧ ∀ i, i < N → (L i).n ≠ 0 → A i ≠ some ⟨Y, 0, none⟩)) := by
    rcases HY1.out with e | ⟨Y, ha, hg, hne, hA, hlt, ho⟩
    · exact ⟨base, base, .inl e, .inl ⟨e, rfl, rfl⟩⟩
    · by_cases hn0 : n = 0
      · exact ⟨base, base, .inl hn0, .inl ⟨hn0, rfl, rfl⟩⟩
      · exact ⟨Y, Y + 1, .inr ⟨Y, ha, Nat.le_refl _, Nat.lt_succ_self _, ho⟩, .inr ⟨Y, ha, rfl, rfl, hg, HYU.out Y hn0 ha, hne, hA⟩⟩
  have HZI : Hid (ZI zl zu w1 y n tn) := hzi
  have HZB : Hid ((n = 0 ∧ zl = base ∧ zu = base) ∨ (∃ Y, y = some ⟨Y, 0, none⟩ ∧ zl = Y ∧ zu = Y + 1 ∧ base ≤ Y ∧ Y < up ∧ Y ≠ B ∧ ∀ i, i < N → (L i).n ≠ 0 → A i ≠ some ⟨Y, 0, none⟩)) := hzb
  clear hzi hzb
  go_wp2_with (go_at_call 30; refine (markIntS_zi zl zu y n cy tn Q _ HZI.out HNN.out q0 q1).mono ?_; rintro e w2 ⟨rfl, z2, c2⟩; have HZ2 : Hid (ZI zl zu w2 y n (fun i => Q + i)) := z2; have HC2 : Hid (Chg zl zu w1 w2) := c2; clear z2 c2)
  go_ret
  have hlB := (LW.lt HLW1.out)
  refine ⟨rfl, ⟨LW.keep HLW1.out ?_ (fun i hi hz g ha => ?_) (HC2.out).size, ?_⟩, ((Chg.of_below HB0.out).trans HC1.out).trans (Chg.wide HC2.out ?_ ?_)⟩
  · refine (HC2.out).block B hlB ?_
    rcases HZB.out with ⟨_, e1, e2⟩ | ⟨Y, _, e1, e2, _, _, hne, _⟩ <;> omega
  · refine (HC2.out).block g ((LW.lt2 HLW1.out hi hz ha).1) ?_
    rcases HZB.out with ⟨_, e1, e2⟩ | ⟨Y, _, e1, e2, _, _, hne, hA⟩
    · omega
    · have : g ≠ Y := fun e => hA i hi hz (by rw [ha, e])
      omega
  · rcases HZB.out with ⟨e, _, _⟩ | ⟨Y, ha, e1, e2, hg, hlt, hne, hA⟩
    · exact .inl e
    · rcases HZ2.out with e | ⟨Y', ha', _, _, ho⟩
      · exact .inl e
      · rw [ha] at ha'; cases ha'
        exact .inr ⟨Y, ha, hg, hne, hA, ho⟩
  · rcases HZB.out with ⟨_, e1, e2⟩ | ⟨Y, _, e1, e2, hg, hlt, _, _⟩ <;> omega
  · have hbB := (HLW.out).lo
    have hBu := (HUN.out).1
    rcases HZB.out with ⟨_, e1, e2⟩ | ⟨Y, _, e1, e2, hg, hlt, _, _⟩ <;> omega


/-- The lists of an answer, all of them between two bounds. -/
def MU (base up : Nat) (w : World) (x : Option Addr) (N : Nat) (L : Nat → Ln) (y : Option Addr) (n : Nat) (tn : Nat → Int) : Prop :=
  up ≤ w.heap.size ∧ ((N = 0 ∧ n = 0) ∨ ∃ (B : Nat) (A : Nat → Option Addr) (C : Nat → Nat), x = some ⟨B, 0, none⟩ ∧ MK base w B N A C L y n tn ∧ Under up B N A L ∧ ∀ Y : Nat, n ≠ 0 → y = some ⟨Y, 0, none⟩ → Y < up)
theorem MU.mk0 {base up : Nat} {w : World} {x : Option Addr} {N : Nat} {L : Nat → Ln} {y : Option Addr} {n : Nat} {tn : Nat → Int} (h : MU base up w x N L y n tn) : MK0 base w x N L y n tn := by
  rcases h.2 with e | ⟨B, A, C, e, h, _⟩
  · exact .inl e
  · exact .inr ⟨B, A, C, e, h⟩
theorem MU.of {base : Nat} {w : World} {x : Option Addr} {N : Nat} {L : Nat → Ln} {y : Option Addr} {n : Nat} {tn : Nat → Int} (h : MK0 base w x N L y n tn) : MU base w.heap.size w x N L y n tn := by
  refine ⟨Nat.le_refl _, ?_⟩
  rcases h with e | ⟨B, A, C, e, h⟩
  · exact .inl e
  · refine .inr ⟨B, A, C, e, h, h.1.under, fun Y hn hy => ?_⟩
    rcases h.2 with e | ⟨Y', ha, _, _, _, ho⟩
    · exact absurd e hn
    · rw [ha] at hy; cases hy; exact ho.1
theorem MU.keep {base up : Nat} {w w' : World} {x : Option Addr} {N : Nat} {L : Nat → Ln} {y : Option Addr} {n : Nat} {tn : Nat → Int} (h : MU base up w x N L y n tn) (hk : ∀ k, base ≤ k → k < up → w'.heap[k]? = w.heap[k]?) (hs : w.heap.size ≤ w'.heap.size) : MU base up w' x N L y n tn := by
  refine ⟨Nat.le_trans h.1 hs, ?_⟩
  rcases h.2 with e | ⟨B, A, C, e, hm, hu, hY⟩
  · exact .inl e
  · refine .inr ⟨B, A, C, e, ⟨hm.1.keep (hk B hm.1.lo hu.1) (fun i hi hz g ha => hk g (hm.1.lt2 hi hz ha).2 (hu.2 i hi hz _ ha)) hs, ?_⟩, hu, hY⟩
    by_cases hn : n = 0
    · exact .inl hn
    · rcases hm.2 with e | ⟨Y, ha, h1, h2, h3, ho⟩
      · exact .inl e
      · exact .inr ⟨Y, ha, h1, h2, h3, own_same ho (hk Y h1 (hY Y hn ha)) hs⟩
theorem MU.below {base up : Nat} {w w' : World} {x : Option Addr} {N : Nat} {L : Nat → Ln} {y : Option Addr} {n : Nat} {tn : Nat → Int} (h : MU base up w x N L y n tn) (hb : Below w.heap.size w w') : MU base up w' x N L y n tn := h.keep (fun k _ hk => hb.block k (Nat.lt_of_lt_of_le hk h.1)) hb.size
theorem MU.chg {base up : Nat} {w w' : World} {x : Option Addr} {N : Nat} {L : Nat → Ln} {y : Option Addr} {n : Nat} {tn : Nat → Int} {L0 U0 : Nat} (h : MU base up w x N L y n tn) (hc : Chg L0 U0 w w') (hU : U0 ≤ base ∨ up ≤ L0) : MU base up w' x N L y n tn := h.keep (fun k h1 h2 => hc.block k (Nat.lt_of_lt_of_le h2 h.1) (by omega)) hc.size
theorem markShape_mu (base up : Nat) (s : Sh) (x : Option Addr) (N ca : Nat) (y : Option Addr) (n cy : Nat) (L : Nat → Ln) (tn : Nat → Int) (k0 : Int) (w : World) (hmk : MU base up w x N L y n tn) (hN : N ≤ 1048576) (hcn : cntF L N ≤ 1048576) (hn : n ≤ 1048576) (h0 : 0 ≤ k0) (h1 : k0 ≤ 1000000000) :
    Calls Try.prog 10 #[shVal s x N ca y n cy, .int .i64 k0] w fun e w' => e = .returned (.int .i64 (upAt L k0 N + n)) ∧ MU base up w' x N (upL L k0) y n (fun i => upAt L k0 N + i) ∧ Chg base up w w' := by
  obtain ⟨hup, ⟨rfl, rfl⟩ | ⟨B, A, C, rfl, hmk, hu, hY⟩⟩ := hmk
  · refine (markShape_none s x ca y cy k0 w h0 (by omega)).mono ?_
    rintro e w' ⟨rfl, hb⟩
    exact ⟨by simp [upAt, cntF], ⟨Nat.le_trans hup hb.size, .inl ⟨rfl, rfl⟩⟩, Chg.of_below hb⟩
  · refine (markShape_up base up s B N ca y n cy A C L tn k0 w hmk hu hY hup hN hcn hn h0 h1).mono ?_
    rintro e w' ⟨rfl, hm, hc⟩
    exact ⟨rfl, ⟨Nat.le_trans hup hc.size, .inr ⟨B, A, C, rfl, hm, ⟨hu.1, fun i hi hz p hp => hu.2 i hi hz p hp⟩, hY⟩⟩, hc⟩

theorem outL_n (s : Sh) (L : Nat → Ln) (p : Pk) (i : Nat) : (outL s L p i).n ≤ (L i).n + 1 := by
  unfold outL
  split
  · show (if i = p.host.toNat then shpLn s L p p.host.toNat else L i).n ≤ _
    by_cases e : i = p.host.toNat
    · rw [if_pos e, e]; exact Nat.le_refl _
    · rw [if_neg e]; omega
  · omega
theorem outL_cnt (s : Sh) (L : Nat → Ln) (p : Pk) : cntF (outL s L p) 4 ≤ cntF L 4 + 4 := by
  have h0 := outL_n s L p 0
  have h1 := outL_n s L p 1
  have h2 := outL_n s L p 2
  have h3 := outL_n s L p 3
  rw [cntF_succ, cntF_succ, cntF_succ, cntF_succ, cntF_succ L 3, cntF_succ L 2, cntF_succ L 1, cntF_succ L 0]
  have e1 : cntF (outL s L p) 0 = 0 := rfl
  have e2 : cntF L 0 = 0 := rfl
  omega
theorem sp_bd (s : Sh) (N : Nat) (L : Nat → Ln) (n : Nat) (tn : Nat → Int) (p : Pk) :
    spN s N L ((List.range n).map tn) p ≤ 4 ∧ cntF (outL s L p) (spN s N L ((List.range n).map tn) p) ≤ 1048576 ∧ (spT s N L ((List.range n).map tn) p).length ≤ 1048576 := by
  cases h : mayB s N L ((List.range n).map tn) p
  · have e1 : spN s N L ((List.range n).map tn) p = 0 := by simp [spN, h]
    have e2 : spT s N L ((List.range n).map tn) p = [] := by simp [spT, h]
    rw [e1, e2]
    exact ⟨by omega, Nat.zero_le _, Nat.zero_le _⟩
  · have e1 : spN s N L ((List.range n).map tn) p = 4 := by simp [spN, h]
    have e2 : spT s N L ((List.range n).map tn) p = outT s L ((List.range n).map tn) p := by simp [spT, h]
    obtain ⟨hs, _⟩ := may_parts h
    obtain ⟨hnum, rfl, hc, h4, h5⟩ := hs
    have hn := turn_len (s := s) (L := L) (n := n) (tn := tn) ⟨hnum, rfl, hc, h4, h5⟩
    have hl := hnum.2.2.2.2.2
    have hcnt := outL_cnt s L p
    rw [e1, e2]
    refine ⟨Nat.le_refl _, by omega, ?_⟩
    unfold outT shpT
    split
    · split
      · simp; omega
      · simp; omega
    · simp; omega

end Go.Proofs.Ytehlcekfccjahaa
