/-
  A PACKET COMES TO A SHAPER, AS THE SPECIFICATION SAYS: ShapePush.
-/
import Derived.Test.YtehlcekfccjahaaPushShT
import Derived.Test.YtehlcekfccjahaaShapeS
namespace Go.Proofs.Ytehlcekfccjahaa
open Go.RowKit
set_option linter.unusedVariables false

/-- What comes of it. -/
def outL (s : Sh) (L : Nat → Ln) (p : Pk) : Nat → Ln := if shpB s L p then shpL s L p p.host.toNat else L
def outT (s : Sh) (L : Nat → Ln) (ts : List Int) (p : Pk) : List Int := if shpB s L p then shpT L ts p.host.toNat else ts
/-- May it come at all? -/
def mayB (s : Sh) (N : Nat) (L : Nat → Ln) (ts : List Int) (p : Pk) : Bool := shB s N L ts && p.good
theorem may_parts {s : Sh} {N : Nat} {L : Nat → Ln} {ts : List Int} {p : Pk} (h : mayB s N L ts p = true) : shP s N L ts ∧ p.good = true := by
  unfold mayB shB at h
  simp only [Bool.and_eq_true, decide_eq_true_eq] at h
  exact h
theorem host_of {p : Pk} (h : p.good = true) : p.host = ((p.host.toNat : Nat) : Int) ∧ p.host.toNat < 4 := by
  unfold Pk.good inB at h
  simp only [Bool.and_eq_true, decide_eq_true_eq] at h
  omega
theorem has_turn {s : Sh} {L : Nat → Ln} {n : Nat} {tn : Nat → Int} (h : shP s 4 L ((List.range n).map tn)) {j : Nat} (hj : j < 4) : hasB tn n (j : Int) = decide ((L j).n ≠ 0) := by
  unfold hasB
  exact decide_eq_decide.2 ((turn_iff.1 h.2.2.2.1).2.2 j hj).symm
theorem turn_len {s : Sh} {L : Nat → Ln} {n : Nat} {tn : Nat → Int} (h : shP s 4 L ((List.range n).map tn)) : n ≤ 4 := by
  have h1 := (show List.Perm _ _ from h.2.2.2.1).length_eq
  have h2 := wl_len L 4
  simp at h1
  omega
theorem ret_shb2 {fn : Func} {tmps : Array Value} {W : World} {i j B : Nat} {v0 v1 v2 v3 v4 v5 v6 : Value} {b : Bool} {t : TypeId} (hr : fn.results = #[.cell i 31, .tmp j]) (hi : tmps[i]?.getD undef = .pointer (some ⟨B, 0, none⟩)) (hj : tmps[j]?.getD undef = .bool b) (hs : Sits W B #[v0, v1, v2, v3, v4, v5, v6] t) : (results fn tmps).run Try.prog W = .ok (.tuple #[.agg #[v0, v1, v2, v3, v4, v5, v6], .bool b]) W := by
  have c0 : W.cell? ⟨B, 0, none⟩ = some v0 := hs.cell 0
  have c1 : W.cell? ⟨B, 1, none⟩ = some v1 := hs.cell 1
  have c2 : W.cell? ⟨B, 2, none⟩ = some v2 := hs.cell 2
  have c3 : W.cell? ⟨B, 3, none⟩ = some v3 := hs.cell 3
  have c4 : W.cell? ⟨B, 4, none⟩ = some v4 := hs.cell 4
  have c5 : W.cell? ⟨B, 5, none⟩ = some v5 := hs.cell 5
  have c6 : W.cell? ⟨B, 6, none⟩ = some v6 := hs.cell 6
  simp [results, hr, hi, hj, go_sem, c0, c1, c2, c3, c4, c5, c6]
theorem cnt_more (s : Sh) (L : Nat → Ln) (p : Pk) (h : Nat) (N : Nat) : cntF (shpL s L p h) N ≤ cntF L N + 1 := by
  have : ∀ N, (h < N → cntF (shpL s L p h) N = cntF L N + 1) ∧ (¬ h < N → cntF (shpL s L p h) N = cntF L N) := by
    intro N
    induction N with
    | zero => exact ⟨fun e => absurd e (Nat.not_lt_zero _), fun _ => rfl⟩
    | succ N ih =>
      rw [cntF_succ, cntF_succ]
      by_cases e : N = h
      · subst e
        rw [ih.2 (Nat.lt_irrefl _)]
        have : (shpL s L p N N).n = (L N).n + 1 := by unfold shpL shpLn; simp
        rw [this]
        exact ⟨fun _ => by omega, fun e => absurd (Nat.lt_succ_self _) e⟩
      · have : (shpL s L p h N).n = (L N).n := by unfold shpL; rw [if_neg e]
        rw [this]
        by_cases e2 : h < N
        · rw [ih.1 e2]; exact ⟨fun _ => by omega, fun e3 => absurd (by omega) e3⟩
        · rw [ih.2 e2]; exact ⟨fun e3 => by omega, fun _ => rfl⟩
  by_cases e : h < N
  · rw [(this N).1 e]; exact Nat.le_refl _
  · rw [(this N).2 e]; omega

set_option maxRecDepth 100000 in
set_option maxHeartbeats 4000000 in
theorem sshapePush_any (s : Sh) (a : Option Addr) (N ca : Nat) (b : Option Addr) (n c : Nat) (L : Nat → Ln) (tn : Nat → Int) (p : Pk) (w : World)
    (hN : N ≤ 1048576) (hcn : cntF L N ≤ 1048576) (hnn : n ≤ 1048576) (hP : LR w.heap.size w a N L) (hb : Row .i64 w b n tn) :
    Calls Try.prog 5 #[shVal s a N ca b n c, p.val] w fun e w' =>
      (mayB s N L ((List.range n).map tn) p = false ∧ e = .returned (.tuple #[shVal ⟨0, 0, 0, 0, 0⟩ none 0 0 none 0 0, .bool false]) ∧ Below w.heap.size w w') ∨
      (mayB s N L ((List.range n).map tn) p = true ∧ ∃ (B : Nat) (A : Nat → Option Addr) (C : Nat → Nat) (cl : Nat) (y : Option Addr) (n1 cy : Nat) (tn1 : Nat → Int), e = .returned (.tuple #[shVal s (some ⟨B, 0, none⟩) 4 cl y n1 cy, .bool (shpB s L p)]) ∧ LQ w.heap.size w' B 4 A C (outL s L p) ∧ TQ w.heap.size w' y n1 cy tn1 B 4 A ∧ (List.range n1).map tn1 = outT s L ((List.range n).map tn) p ∧ n1 ≤ 1000 ∧ Below w.heap.size w w') := by
  have HP : Hid (LR w.heap.size w a N L) := hP
  have HRB : Hid (Row .i64 w b n tn) := hb
  have HN : Hid (N ≤ 1048576) := hN
  have HCN : Hid (cntF L N ≤ 1048576) := hcn
  have HNN : Hid (n ≤ 1048576) := hnn
  clear hP hb hN hcn hnn
  obtain ⟨ts, hts⟩ : ∃ l, (List.range n).map tn = l := ⟨_, rfl⟩
  have HTS : Hid ((List.range n).map tn = ts) := hts
  rw [hts]
  clear hts
  obtain ⟨W0, hW0⟩ : ∃ W, ((w.alloc (.cells (shCells s a N ca b n c) 31)).alloc (.cells (pkCells p) 35)).alloc (.cells shZero 31) = W := ⟨_, rfl⟩
  have s0 : Sits W0 w.heap.size (shCells s a N ca b n c) 31 := by rw [← hW0]; exact ((Sits.new _ _ _).alloc _).alloc _
  have s1 : Sits W0 (w.heap.size + 1) (pkCells p) 35 := by rw [← hW0]; exact (Sits.new' (by simp)).alloc _
  have s2 : Sits W0 (w.heap.size + 1 + 1) shZero 31 := by rw [← hW0]; exact Sits.new' (by simp)
  have b0 : Below w.heap.size w W0 := by rw [← hW0]; exact (((Below.refl _ w).alloc (Nat.le_refl _) _).alloc (by simp) _).alloc (by simp; omega) _
  have z0 : W0.heap.size = w.heap.size + 1 + 1 + 1 := by rw [← hW0]; simp
  have HW0 : Hid (((w.alloc (.cells (shCells s a N ca b n c) 31)).alloc (.cells (pkCells p) 35)).alloc (.cells shZero 31) = W0) := hW0
  have HS0 : Hid (Sits W0 w.heap.size (shCells s a N ca b n c) 31) := s0
  have HS1 : Hid (Sits W0 (w.heap.size + 1) (pkCells p) 35) := s1
  have HS2 : Hid (Sits W0 (w.heap.size + 1 + 1) shZero 31) := s2
  have HB0 : Hid (Below w.heap.size w W0) := b0
  have HZ0 : Hid (W0.heap.size = w.heap.size + 1 + 1 + 1) := z0
  have x0 := s0.cell 0
  have x1 := s0.cell 1
  have x2 := s0.cell 2
  have x3 := s0.cell 3
  have x4 := s0.cell 4
  have x5 := s0.cell 5
  have x6 := s0.cell 6
  clear s0 s1 s2 b0 z0 hW0
  have HA : Hid (∀ W, Below W0.heap.size W0 W → (Sits W w.heap.size (shCells s a N ca b n c) 31 ∧ Sits W (w.heap.size + 1) (pkCells p) 35 ∧ Sits W (w.heap.size + 1 + 1) shZero 31) ∧ Below w.heap.size w W) := fun W hW => ⟨⟨Sits.below HS0.out hW (Sits.lt HS0.out), Sits.below HS1.out hW (Sits.lt HS1.out), Sits.below HS2.out hW (Sits.lt HS2.out)⟩, (HB0.out).trans (hW.mono (HB0.out).size)⟩
  cases t0 : shB s N L ts
  case false =>
    have HE : Hid (mayB s N L ts p = false) := by show _ = _; unfold mayB; rw [t0]; rfl
    go_enter Try.func5, Try.ntmps5
    go_upto_region 1 with fail
    rw [HW0.out]
    go_wp2_with (go_at_call 14; refine (sshapeOk_any s a N ca b n c L tn _ HN.out HCN.out HNN.out (LR.go HP.out HB0.out (HB0.out).size) (Row.below HRB.out HB0.out)).mono ?_; rintro e w1 ⟨rfl, b1⟩; rw [HTS.out, t0]; obtain ⟨⟨_, _, r2⟩, _⟩ := HA.out _ b1; have r2_0 := r2.cell 0; have r2_1 := r2.cell 1; have r2_2 := r2.cell 2; have r2_3 := r2.cell 3; have r2_4 := r2.cell 4; have r2_5 := r2.cell 5; have r2_6 := r2.cell 6; have rf := r2.frozen; have HR2 : Hid (Sits w1 (w.heap.size + 1 + 1) shZero 31) := r2; have HB1 : Hid (Below W0.heap.size W0 w1) := b1; clear r2 b1)
    refine bodyPost_ret (ret_shb2 Try.results5 rfl rfl (((((((Sits.set HR2.out 0 (.int .i64 0)).set 1 (.int .i64 0)).set 2 (.int .i64 0)).set 3 (.int .i64 0)).set 4 (.int .i64 0)).set 5 (.slice none 0 0)).set 6 (.slice none 0 0))) rfl ?_
    exact .inl ⟨HE.out, rfl, ((((((((HA.out _ HB1.out).2.setCell (show w.heap.size ≤ w.heap.size + 1 + 1 by omega) _).setCell (show w.heap.size ≤ w.heap.size + 1 + 1 by omega) _).setCell (show w.heap.size ≤ w.heap.size + 1 + 1 by omega) _).setCell (show w.heap.size ≤ w.heap.size + 1 + 1 by omega) _).setCell (show w.heap.size ≤ w.heap.size + 1 + 1 by omega) _).setCell (show w.heap.size ≤ w.heap.size + 1 + 1 by omega) _).setCell (show w.heap.size ≤ w.heap.size + 1 + 1 by omega) _)⟩
  case true =>
  cases t1 : p.good
  case false =>
    have HE : Hid (mayB s N L ts p = false) := by show _ = _; unfold mayB; rw [t0, t1]; rfl
    go_enter Try.func5, Try.ntmps5
    go_upto_region 1 with fail
    rw [HW0.out]
    go_wp2_with (first | (go_at_call 14; refine (sshapeOk_any s a N ca b n c L tn _ HN.out HCN.out HNN.out (LR.go HP.out HB0.out (HB0.out).size) (Row.below HRB.out HB0.out)).mono ?_; rintro e w1 ⟨rfl, b1⟩; rw [HTS.out, t0]; obtain ⟨⟨_, r1, _⟩, _⟩ := HA.out _ b1; have r1_0 := r1.cell 0; have r1_1 := r1.cell 1; have r1_2 := r1.cell 2; have r1_3 := r1.cell 3; have r1_4 := r1.cell 4; have r1_5 := r1.cell 5; have HB0' : Hid (Below W0.heap.size W0 w1) := b1; clear r1 b1) | (go_at_call 15; refine (spktOk_any p _).mono ?_; rintro e w2 ⟨rfl, k2⟩; rw [t1]; have b2 := (HB0'.out).trans (k2.1.mono (HB0'.out).size); obtain ⟨⟨_, _, r2⟩, _⟩ := HA.out _ b2; have r2_0 := r2.cell 0; have r2_1 := r2.cell 1; have r2_2 := r2.cell 2; have r2_3 := r2.cell 3; have r2_4 := r2.cell 4; have r2_5 := r2.cell 5; have r2_6 := r2.cell 6; have rf := r2.frozen; have HR2 : Hid (Sits w2 (w.heap.size + 1 + 1) shZero 31) := r2; have HB1 : Hid (Below W0.heap.size W0 w2) := b2; clear r2 b2 k2))
    refine bodyPost_ret (ret_shb2 Try.results5 rfl rfl (((((((Sits.set HR2.out 0 (.int .i64 0)).set 1 (.int .i64 0)).set 2 (.int .i64 0)).set 3 (.int .i64 0)).set 4 (.int .i64 0)).set 5 (.slice none 0 0)).set 6 (.slice none 0 0))) rfl ?_
    exact .inl ⟨HE.out, rfl, ((((((((HA.out _ HB1.out).2.setCell (show w.heap.size ≤ w.heap.size + 1 + 1 by omega) _).setCell (show w.heap.size ≤ w.heap.size + 1 + 1 by omega) _).setCell (show w.heap.size ≤ w.heap.size + 1 + 1 by omega) _).setCell (show w.heap.size ≤ w.heap.size + 1 + 1 by omega) _).setCell (show w.heap.size ≤ w.heap.size + 1 + 1 by omega) _).setCell (show w.heap.size ≤ w.heap.size + 1 + 1 by omega) _).setCell (show w.heap.size ≤ w.heap.size + 1 + 1 by omega) _)⟩
  case true =>
  have hE : mayB s N L ts p = true := by unfold mayB; rw [t0, t1]; rfl
  have HE : Hid (mayB s N L ts p = true) := hE
  obtain ⟨hsp, hpg⟩ := may_parts hE
  obtain rfl : N = 4 := hsp.2.1
  have HSP : Hid (shP s 4 L ((List.range n).map tn)) := by show shP _ _ _ _; rw [HTS.out]; exact hsp
  obtain ⟨hh, h4⟩ := host_of hpg
  have HH : Hid (p.host = ((p.host.toNat : Nat) : Int)) := hh
  have H4 : Hid (p.host.toNat < 4) := h4
  have hlim : s.lim ≤ 40 := hsp.1.2.2.2.2.2
  have hcl : (cntF L 4 : Int) ≤ s.lim := hsp.2.2.1
  have HC40 : Hid (cntF L 4 ≤ 40) := by show _ ≤ _; omega
  have HN4 : Hid (n ≤ 4) := turn_len HSP.out
  clear hE hsp hpg hh h4 hlim hcl
  go_enter Try.func5, Try.ntmps5
  go_upto_region 1 with fail
  rw [HW0.out]
  clear HW0
  go_upto_region 3 with (first | (go_at_call 14; refine (sshapeOk_any s a 4 ca b n c L tn _ HN.out HCN.out HNN.out (LR.go HP.out HB0.out (HB0.out).size) (Row.below HRB.out HB0.out)).mono ?_; rintro e w1 ⟨rfl, b1⟩; rw [HTS.out, t0]; obtain ⟨⟨_, r1, _⟩, _⟩ := HA.out _ b1; have r1_0 := r1.cell 0; have r1_1 := r1.cell 1; have r1_2 := r1.cell 2; have r1_3 := r1.cell 3; have r1_4 := r1.cell 4; have r1_5 := r1.cell 5; have HB1 : Hid (Below W0.heap.size W0 w1) := b1; clear r1 b1) | (go_at_call 15; refine (spktOk_any p _).mono ?_; rintro e w2 ⟨rfl, k2⟩; rw [t1]; have HB2 : Hid (Below W0.heap.size W0 w2) := (HB1.out).trans (k2.1.mono (HB1.out).size); clear k2))
  clear t0 t1 x0 x1 x2 x3 x4 x5 x6 r1_0 r1_1 r1_2 r1_3 r1_4 r1_5
  obtain ⟨⟨r0, _, _⟩, bw2⟩ := HA.out _ HB2.out
  have HBW2 : Hid (Below w.heap.size w w2) := bw2
  have c0 := r0.cell 0
  have c1 := r0.cell 1
  have c2 := r0.cell 2
  have c3 := r0.cell 3
  have c4 := r0.cell 4
  have c5 := r0.cell 5
  have c6 := r0.cell 6
  clear r0 bw2
  go_upto_region 4 with (go_at_call 16; refine (l8own_any s a ca b n c L tn _ HCN.out HNN.out (LR.go HP.out HBW2.out (HBW2.out).size) (Row.below HRB.out HBW2.out)).mono ?_; rintro e w3 ⟨B, A, C, cl, y, cy, rfl, lq, tq, b3⟩; have HLQ : Hid (LQ w2.heap.size w3 B 4 A C L) := lq; have HTQ : Hid (TQ w2.heap.size w3 y n cy tn B 4 A) := tq; have HB3 : Hid (Below w2.heap.size w2 w3) := b3; clear lq tq b3)
  obtain ⟨v3, hv3⟩ : ∃ v, w3.alloc (.cells (shCells s (some ⟨B, 0, none⟩) 4 cl y n cy) 31) = v := ⟨_, rfl⟩
  obtain ⟨V, hV⟩ : ∃ V, w3.heap.size = V := ⟨_, rfl⟩
  have sV : Sits v3 V (shCells s (some ⟨B, 0, none⟩) 4 cl y n cy) 31 := by rw [← hv3]; exact Sits.new' hV
  have ba : Below w3.heap.size w3 v3 := by rw [← hv3]; exact (Below.refl _ _).alloc (Nat.le_refl _) _
  have lq3 : LQ w2.heap.size v3 B 4 A C L := (HLQ.out).below ba
  have tq3 : TQ w2.heap.size v3 y n cy tn B 4 A := (HTQ.out).below ba
  have hbV : w2.heap.size ≤ V := by rw [← hV]; exact (HB3.out).size
  have hVB : V ≠ B := by have := (HLQ.out).lt; omega
  have hVA : ∀ i, i < 4 → ∀ g, A i = some g → g.block ≠ V := fun i hi g hg => by have := ((HLQ.out).own i hi).under g hg; omega
  have hVy : ∀ g, y = some g → g.block ≠ V := fun g hg => by have := (HTQ.out).1.undr g hg; omega
  have b23 : Below w2.heap.size w2 v3 := (HB3.out).trans (ba.mono (HB3.out).size)
  rw [hv3, hV]
  have b03 : Below W0.heap.size W0 v3 := (HB2.out).trans (b23.mono (HB2.out).size)
  obtain ⟨⟨_, r1, _⟩, _⟩ := HA.out _ b03
  clear c0 c1 c2 c3 c4 c5 c6
  have p0 := r1.cell 0
  have p1 := r1.cell 1
  have p2 := r1.cell 2
  have p3 := r1.cell 3
  have p4 := r1.cell 4
  have p5 := r1.cell 5
  have HPU : Hid (Calls Try.prog 17 #[.pointer (some ⟨V, 0, none⟩), p.val] v3 fun e w' => (shpB s L p = false ∧ e = .returned (.bool false) ∧ Below v3.heap.size v3 w') ∨ (shpB s L p = true ∧ e = .returned (.bool true) ∧ ∃ (A' : Nat → Option Addr) (C' : Nat → Nat) (y' : Option Addr) (n' cy' : Nat) (tn' : Nat → Int), Sits w' V (shCells s (some ⟨B, 0, none⟩) 4 cl y' n' cy') 31 ∧ LQ w2.heap.size w' B 4 A' C' (shpL s L p p.host.toNat) ∧ JO w2.heap.size w' y' n' cy' tn' ∧ (List.range n').map tn' = shpT L ((List.range n).map tn) p.host.toNat ∧ n' ≤ n + 1 ∧ Below w2.heap.size v3 w')) :=
    l8push_any w2.heap.size V B cl n cy s y A C L tn p p.host.toNat v3 sV hbV hVB hVA hVy lq3 tq3 (by have := HC40.out; omega) (by have := HN4.out; omega) HH.out H4.out (has_turn HSP.out H4.out)
  have HSV : Hid (Sits v3 V (shCells s (some ⟨B, 0, none⟩) 4 cl y n cy) 31) := sV
  have HL3 : Hid (LR v3.heap.size v3 (some ⟨B, 0, none⟩) 4 L) := lq3.lr
  have HR3 : Hid (Row .i64 v3 y n tn) := tq3.1.row
  have H23 : Hid (Below w2.heap.size w2 v3) := b23
  have H03 : Hid (Below W0.heap.size W0 v3) := b03
  clear hv3 hV sV ba lq3 tq3 hVB hVA hVy b23 b03 r1 HLQ HTQ HB3
  cases hpb : shpB s L p
  case false =>
    go_upto_region 5 with (go_at_call 17; refine (HPU.out).mono ?_; rintro e w4 hor; have hor2 : e = .returned (.bool false) ∧ Below v3.heap.size v3 w4 := (by rcases hor with ⟨_, h1, h2⟩ | ⟨h1, _⟩; exact ⟨h1, h2⟩; rw [hpb] at h1; cases h1); clear hor; obtain ⟨rfl, b4⟩ := hor2; have HB4 : Hid (Below v3.heap.size v3 w4) := b4; clear b4)
    have sV4 := Sits.below HSV.out HB4.out (Sits.lt HSV.out)
    clear p0 p1 p2 p3 p4 p5
    have d0 := sV4.cell 0
    have d1 := sV4.cell 1
    have d2 := sV4.cell 2
    have d3 := sV4.cell 3
    have d4 := sV4.cell 4
    have d5 := sV4.cell 5
    have d6 := sV4.cell 6
    have HL4 : Hid (LR w4.heap.size w4 (some ⟨B, 0, none⟩) 4 L) := LR.go HL3.out HB4.out (HB4.out).size
    have HR4 : Hid (Row .i64 w4 y n tn) := Row.below HR3.out HB4.out
    have H04 : Hid (Below W0.heap.size W0 w4) := (H03.out).trans (Below.mono HB4.out (H03.out).size)
    clear sV4
    go_wp2_with (go_at_call 16; refine (l8own_any s (some ⟨B, 0, none⟩) cl y n cy L tn _ HCN.out HNN.out HL4.out HR4.out).mono ?_; rintro e w5 ⟨B5, A5, C5, cl5, y5, cy5, rfl, lq5, tq5, b5⟩; have b05 := (H04.out).trans (b5.mono (H04.out).size); obtain ⟨⟨_, _, r2⟩, _⟩ := HA.out _ b05; have r2_0 := r2.cell 0; have r2_1 := r2.cell 1; have r2_2 := r2.cell 2; have r2_3 := r2.cell 3; have r2_4 := r2.cell 4; have r2_5 := r2.cell 5; have r2_6 := r2.cell 6; have rf := r2.frozen; have HR2 : Hid (Sits w5 (w.heap.size + 1 + 1) shZero 31) := r2; have HB1' : Hid (Below W0.heap.size W0 w5) := b05; have HLQ5 : Hid (LQ w4.heap.size w5 B5 4 A5 C5 L) := lq5; have HTQ5 : Hid (TQ w4.heap.size w5 y5 n cy5 tn B5 4 A5) := tq5; clear r2 b05 b5 lq5 tq5)
    refine bodyPost_ret (ret_shb2 Try.results5 rfl rfl (((((((Sits.set HR2.out 0 (.int .i64 s.rt)).set 1 (.int .i64 s.ov)).set 2 (.int .i64 s.nx)).set 3 (.int .i64 s.qt)).set 4 (.int .i64 s.lim)).set 5 (.slice (some ⟨B5, 0, none⟩) 4 cl5)).set 6 (.slice y5 n cy5))) rfl ?_
    have h0 : w.heap.size + 1 + 1 ≤ w.heap.size + 1 + 1 := Nat.le_refl _
    have h1 : w.heap.size + 1 + 1 < w.heap.size + 1 + 1 + 1 := Nat.lt_succ_self _
    have c9 : Chg (w.heap.size + 1 + 1) (w.heap.size + 1 + 1 + 1) w5 _ := (chg_set (chg_set (chg_set (chg_set (chg_set (chg_set (chg_set (Chg.refl _ _ w5) h0 h1 0 (.int .i64 s.rt)) h0 h1 1 (.int .i64 s.ov)) h0 h1 2 (.int .i64 s.nx)) h0 h1 3 (.int .i64 s.qt)) h0 h1 4 (.int .i64 s.lim)) h0 h1 5 (.slice (some ⟨B5, 0, none⟩) 4 cl5)) h0 h1 6 (.slice y5 n cy5))
    have e4 : w.heap.size + 1 + 1 + 1 ≤ w4.heap.size := by have := HZ0.out; have := (H04.out).size; omega
    refine .inr ⟨HE.out, B5, A5, C5, cl5, y5, n, cy5, tn, by rw [hpb], ?_, (TQ.chg HTQ5.out c9 e4).mono (by omega), ?_, by have := HN4.out; omega, c9.bel (HA.out _ HB1'.out).2 (by omega)⟩
    · have : outL s L p = L := by unfold outL; rw [hpb]; rfl
      rw [this]; exact (LQ.chg HLQ5.out c9 e4).mono (by omega)
    · rw [HTS.out]; unfold outT; rw [hpb]; rfl
  case true =>
    go_upto_region 5 with (go_at_call 17; refine (HPU.out).mono ?_; rintro e w4 hor; have hor2 : e = .returned (.bool true) ∧ ∃ (A' : Nat → Option Addr) (C' : Nat → Nat) (y' : Option Addr) (n' cy' : Nat) (tn' : Nat → Int), Sits w4 V (shCells s (some ⟨B, 0, none⟩) 4 cl y' n' cy') 31 ∧ LQ w2.heap.size w4 B 4 A' C' (shpL s L p p.host.toNat) ∧ JO w2.heap.size w4 y' n' cy' tn' ∧ (List.range n').map tn' = shpT L ((List.range n).map tn) p.host.toNat ∧ n' ≤ n + 1 ∧ Below w2.heap.size v3 w4 := (by rcases hor with ⟨h1, _⟩ | ⟨_, h1, h2⟩; rw [hpb] at h1; cases h1; exact ⟨h1, h2⟩); clear hor; obtain ⟨rfl, A', C', y', n', cy', tn', sV4, lq4, jo4, ht4, hn4, b4⟩ := hor2; have HSV4 : Hid (Sits w4 V (shCells s (some ⟨B, 0, none⟩) 4 cl y' n' cy') 31) := sV4; have HL4 : Hid (LR w4.heap.size w4 (some ⟨B, 0, none⟩) 4 (shpL s L p p.host.toNat)) := lq4.lr; have HR4 : Hid (Row .i64 w4 y' n' tn') := jo4.row; have HT4 : Hid ((List.range n').map tn' = shpT L ((List.range n).map tn) p.host.toNat) := ht4; have HN5 : Hid (n' ≤ n + 1) := hn4; have H24 : Hid (Below w2.heap.size w2 w4) := (H23.out).trans b4; clear sV4 lq4 jo4 ht4 hn4 b4)
    have sV4 := HSV4.out
    clear p0 p1 p2 p3 p4 p5
    have d0 := sV4.cell 0
    have d1 := sV4.cell 1
    have d2 := sV4.cell 2
    have d3 := sV4.cell 3
    have d4 := sV4.cell 4
    have d5 := sV4.cell 5
    have d6 := sV4.cell 6
    have H04 : Hid (Below W0.heap.size W0 w4) := (HB2.out).trans ((H24.out).mono (HB2.out).size)
    have HC5 : Hid (cntF (shpL s L p p.host.toNat) 4 ≤ 1048576) := by show _ ≤ _; have := cnt_more s L p p.host.toNat 4; have := HC40.out; omega
    have HN6 : Hid (n' ≤ 1048576) := by show _ ≤ _; have := HN5.out; have := HN4.out; omega
    clear sV4
    go_wp2_with (go_at_call 16; refine (l8own_any s (some ⟨B, 0, none⟩) cl y' n' cy' (shpL s L p p.host.toNat) tn' _ HC5.out HN6.out HL4.out HR4.out).mono ?_; rintro e w5 ⟨B5, A5, C5, cl5, y5, cy5, rfl, lq5, tq5, b5⟩; have b05 := (H04.out).trans (b5.mono (H04.out).size); obtain ⟨⟨_, _, r2⟩, _⟩ := HA.out _ b05; have r2_0 := r2.cell 0; have r2_1 := r2.cell 1; have r2_2 := r2.cell 2; have r2_3 := r2.cell 3; have r2_4 := r2.cell 4; have r2_5 := r2.cell 5; have r2_6 := r2.cell 6; have rf := r2.frozen; have HR2 : Hid (Sits w5 (w.heap.size + 1 + 1) shZero 31) := r2; have HB1' : Hid (Below W0.heap.size W0 w5) := b05; have HLQ5 : Hid (LQ w4.heap.size w5 B5 4 A5 C5 (shpL s L p p.host.toNat)) := lq5; have HTQ5 : Hid (TQ w4.heap.size w5 y5 n' cy5 tn' B5 4 A5) := tq5; clear r2 b05 b5 lq5 tq5)
    refine bodyPost_ret (ret_shb2 Try.results5 rfl rfl (((((((Sits.set HR2.out 0 (.int .i64 s.rt)).set 1 (.int .i64 s.ov)).set 2 (.int .i64 s.nx)).set 3 (.int .i64 s.qt)).set 4 (.int .i64 s.lim)).set 5 (.slice (some ⟨B5, 0, none⟩) 4 cl5)).set 6 (.slice y5 n' cy5))) rfl ?_
    have h0 : w.heap.size + 1 + 1 ≤ w.heap.size + 1 + 1 := Nat.le_refl _
    have h1 : w.heap.size + 1 + 1 < w.heap.size + 1 + 1 + 1 := Nat.lt_succ_self _
    have c9 : Chg (w.heap.size + 1 + 1) (w.heap.size + 1 + 1 + 1) w5 _ := (chg_set (chg_set (chg_set (chg_set (chg_set (chg_set (chg_set (Chg.refl _ _ w5) h0 h1 0 (.int .i64 s.rt)) h0 h1 1 (.int .i64 s.ov)) h0 h1 2 (.int .i64 s.nx)) h0 h1 3 (.int .i64 s.qt)) h0 h1 4 (.int .i64 s.lim)) h0 h1 5 (.slice (some ⟨B5, 0, none⟩) 4 cl5)) h0 h1 6 (.slice y5 n' cy5))
    have e4 : w.heap.size + 1 + 1 + 1 ≤ w4.heap.size := by have := HZ0.out; have := (H04.out).size; omega
    refine .inr ⟨HE.out, B5, A5, C5, cl5, y5, n', cy5, tn', by rw [hpb], ?_, (TQ.chg HTQ5.out c9 e4).mono (by omega), ?_, by have := HN5.out; have := HN4.out; omega, c9.bel (HA.out _ HB1'.out).2 (by omega)⟩
    · have : outL s L p = shpL s L p p.host.toNat := by unfold outL; rw [hpb]; rfl
      rw [this]; exact (LQ.chg HLQ5.out c9 e4).mono (by omega)
    · rw [HT4.out, HTS.out]; unfold outT; rw [hpb]; rfl

end Go.Proofs.Ytehlcekfccjahaa
