/-
  A PACKET PUT INTO A SHAPE BY THE PROGRAM: ShapePush.
-/
import Derived.Test.YtehlcekfccjahaaPushShU
import Derived.Test.YtehlcekfccjahaaOwnSi
import Derived.Test.YtehlcekfccjahaaHasId
import Derived.Test.YtehlcekfccjahaaPushI
import Derived.Test.YtehlcekfccjahaaShapeO
namespace Go.Proofs.Ytehlcekfccjahaa
open Go.RowKit
set_option linter.unusedVariables false

theorem line_more {f : Nat → Pk} {n : Nat} {p : Pk} (h1 : lineB f n = true) (hp : p.good = true) (h2 : ∀ k, k < n → (f k).tm ≤ p.tm ∧ (f k).id ≠ p.id) : lineB (pushF f n p) (n + 1) = true := by
  unfold lineB at h1 ⊢
  have hl : lineP f n := of_decide_eq_true h1
  refine decide_eq_true fun j hj => ?_
  by_cases e : j = n
  · subst e
    refine ⟨by simp [pushF, hp], fun k hk => ?_⟩
    have hne : k ≠ j := by omega
    simp only [pairP, pushF, if_true, if_neg hne]
    exact h2 k hk
  · have hjn : j < n := by omega
    obtain ⟨g1, g2⟩ := hl j hjn
    refine ⟨by simpa [pushF, e] using g1, fun k hk => ?_⟩
    have hne : k ≠ n := by omega
    simp only [pairP, pushF, if_neg e, if_neg hne]
    exact g2 k hk
theorem line_less {f : Nat → Pk} {n : Nat} {p : Pk} (h : lineB (pushF f n p) (n + 1) = true) : ∀ k, k < n → (f k).tm ≤ p.tm ∧ (f k).id ≠ p.id := fun k hk => by
  have hl : lineP (pushF f n p) (n + 1) := of_decide_eq_true h
  have := (hl n (by omega)).2 k hk
  have hne : k ≠ n := by omega
  simpa only [pairP, pushF, if_true, if_neg hne] using this
theorem fits_of {s : Sh} {L : Nat → Ln} {ts : List Int} {p : Pk} {h : Nat} (hs : shP s 4 L ts) (hg : p.good = true) (hh : p.host = (h : Int)) (h4 : h < 4) (hp : shpP s L p) : pushB (L h).f (L h).n 40 p = true := by
  obtain ⟨_, _, hf, _⟩ := hs.2.2.2.2 h h4
  have hlim : s.lim ≤ 40 := hs.1.2.2.2.2.2
  have hn : (L h).n ≤ cntF L 4 := cntF_le L h4
  have hc := hp.1
  unfold pushB pushOk
  rw [hf, hg]
  have hl : lineB (L h).f (L h).n = true := by unfold fifoB at hf; simp only [Bool.and_eq_true] at hf; exact hf.2.2
  have := line_more hl hg (fun k hk => ⟨(hp.2 h h4 k hk).2 hh.symm, (hp.2 h h4 k hk).1⟩)
  unfold fifoB
  rw [this]
  simp [inB]
  omega
theorem no_fit {s : Sh} {L : Nat → Ln} {ts : List Int} {p : Pk} {h : Nat} (hs : shP s 4 L ts) (hg : p.good = true) (hh : p.host = (h : Int)) (h4 : h < 4) (hp : pushB (L h).f (L h).n 40 p = false) : shpB s L p = false :=
  decide_eq_false fun e => by rw [fits_of hs hg hh h4 e] at hp; cases hp
theorem full_no {s : Sh} {L : Nat → Ln} {p : Pk} (h : (cntF L 4 : Int) = s.lim) : shpB s L p = false := decide_eq_false fun e => by have := e.1; omega
theorem hid_no {s : Sh} {L : Nat → Ln} {p : Pk} (h : hidB L p.id = true) : shpB s L p = false := decide_eq_false fun e => by
  have : noId L p.id := fun i hi k hk => (e.2 i hi k hk).1
  unfold hidB at h
  simp [this] at h
theorem all_fits {s : Sh} {L : Nat → Ln} {ts : List Int} {p : Pk} {h : Nat} (hs : shP s 4 L ts) (hh : p.host = (h : Int)) (h1 : pushB (L h).f (L h).n 40 p = true) (h2 : (cntF L 4 : Int) ≠ s.lim) (h3 : hidB L p.id = false) : shpB s L p = true := by
  refine decide_eq_true ⟨?_, fun i hi k hk => ⟨?_, fun e => ?_⟩⟩
  · have := hs.2.2.1; omega
  · have : noId L p.id := by unfold hidB at h3; simpa using h3
    exact this i hi k hk
  · obtain rfl : i = h := by rw [hh] at e; omega
    unfold pushB fifoB at h1
    simp only [Bool.and_eq_true] at h1
    exact (line_less h1.2.2.2 k hk).1
theorem push_yes {f : Nat → Pk} {n : Nat} {p : Pk} (h : pushB f n 40 p = true) : pushN f n 40 p = n + 1 := by
  unfold pushB at h
  simp only [Bool.and_eq_true] at h
  unfold pushN
  rw [if_pos h.1, if_pos h.2]

/-- A line's packets put, which lie apart from all. -/
theorem put_both {base : Nat} {W : World} {B n1 cy1 : Nat} {A : Nat → Option Addr} {C : Nat → Nat} {L : Nat → Ln} {y1 : Option Addr} {tn1 : Nat → Int} {h : Nat} (h4 : h < 4) (lq : LQ base W B 4 A C L) (tq : TQ base W y1 n1 cy1 tn1 B 4 A)
    {x : Option Addr} {m cx : Nat} {f : Nat → Pk} (po : PO base W x m cx f) (hxB : ∀ g, x = some g → g.block ≠ B) (hxA : ∀ i, i < 4 → Off (A i) x) (hxy : Off x y1) :
    LQ base (W.setCell ⟨B, h * 9, none⟩ (.slice x m cx)) B 4 (fun i => if i = h then x else A i) (fun i => if i = h then cx else C i) (fun i => if i = h then ⟨m, f, (L h).sh, (L h).cd⟩ else L i) ∧
    TQ base (W.setCell ⟨B, h * 9, none⟩ (.slice x m cx)) y1 n1 cy1 tn1 B 4 (fun i => if i = h then x else A i) := by
  obtain ⟨vs, t, hs, h1, h2⟩ := lq.sits
  refine ⟨⟨lq.lo, ⟨_, t, hs.set (h * 9) _, by simpa using h1, lv_set0 h1 h4 h2 x cx m f⟩, fun i hi => ?_, fun i hi g hg => ?_, fun i k hi hk' hne => ?_⟩, tq.1.keep (set_keep _ _ tq.2.1), tq.2.1, fun i hi => ?_⟩ <;> (try dsimp only at *)
  · by_cases e : i = h
    · subst e
      simp only [if_true]
      exact po.keep (set_keep _ _ hxB)
    · rw [if_neg e, if_neg e, if_neg e]
      exact (lq.own i hi).keep (set_keep _ _ fun g hg => lq.off i hi g hg)
  · by_cases e : i = h
    · rw [if_pos e] at hg; exact hxB g hg
    · rw [if_neg e] at hg; exact lq.off i hi g hg
  · by_cases e1 : i = h
    · by_cases e2 : k = h
      · omega
      · rw [if_pos e1, if_neg e2]; exact (hxA k hk').symm
    · by_cases e2 : k = h
      · rw [if_neg e1, if_pos e2]; exact hxA i hi
      · rw [if_neg e1, if_neg e2]; exact lq.apart i k hi hk' hne
  · by_cases e : i = h
    · rw [if_pos e]; exact hxy
    · rw [if_neg e]; exact tq.2.2 i hi
/-- One number more in Turn, the Shape's own cell set. -/
theorem turn_both {base : Nat} {W w8 : World} {B n cy V : Nat} {A : Nat → Option Addr} {C : Nat → Nat} {L : Nat → Ln} {y : Option Addr} {tn : Nat → Int} {cells : Array Value} {T : TypeId} {o : Obj} {g cy' : Nat} {f' : Nat → Int} (lq : LQ base W B 4 A C L) (tq : TQ base W y n cy tn B 4 A)
    (sv : Sits W V cells T) (hVB : V ≠ B) (hVA : ∀ i, i < 4 → ∀ g, A i = some g → g.block ≠ V) (hVy : ∀ g, y = some g → g.block ≠ V) {x : Option Addr} {m cx : Nat} {f : Nat → Pk} (po : PO base W x m cx f) (hxV : ∀ g, x = some g → g.block ≠ V) (hxy : Off x y)
    (hgr : (W.alloc o).grownBy w8 (Value.slice y n cy).ownBlock) (hat : (Value.slice y n cy).ownBlock = some g ∨ g = (W.alloc o).heap.size) (hj : JO base w8 (some ⟨g, 0, none⟩) (n + 1) cy' f') (hbw : base ≤ W.heap.size) (hbV : base ≤ V) :
    LQ base (w8.setCell ⟨V, 6, none⟩ (.slice (some ⟨g, 0, none⟩) (n + 1) cy')) B 4 A C L ∧ TQ base (w8.setCell ⟨V, 6, none⟩ (.slice (some ⟨g, 0, none⟩) (n + 1) cy')) (some ⟨g, 0, none⟩) (n + 1) cy' f' B 4 A ∧
    Sits (w8.setCell ⟨V, 6, none⟩ (.slice (some ⟨g, 0, none⟩) (n + 1) cy')) V (cells.setIfInBounds 6 (.slice (some ⟨g, 0, none⟩) (n + 1) cy')) T ∧ PO base (w8.setCell ⟨V, 6, none⟩ (.slice (some ⟨g, 0, none⟩) (n + 1) cy')) x m cx f ∧ Off x (some ⟨g, 0, none⟩) ∧ Below base W (w8.setCell ⟨V, 6, none⟩ (.slice (some ⟨g, 0, none⟩) (n + 1) cy')) ∧
    ∀ k, k < W.heap.size → (∀ a, y = some a → k ≠ a.block) → k ≠ V → (w8.setCell ⟨V, 6, none⟩ (.slice (some ⟨g, 0, none⟩) (n + 1) cy')).heap[k]? = W.heap[k]? := by
  obtain ⟨hk6, hy6⟩ := turn_grown hgr hat
  have noff : ∀ u, Undr W.heap.size u → Off u y → Off u (some ⟨g, 0, none⟩) := fun u hu ho a b e1 e2 e => by
    cases e2
    rcases hy6 with ⟨c, e3, e4⟩ | e3
    · exact ho a c e1 e3 (by rw [e4]; exact e)
    · have := hu a e1; have e' : a.block = g := e; omega
  have hgV : ∀ a, (some ⟨g, 0, none⟩ : Option Addr) = some a → a.block ≠ V := fun a ha e => by
    cases ha
    rcases hy6 with ⟨b, hb, e2⟩ | e2
    · exact hVy b hb (by rw [e2]; exact e)
    · have := sv.lt; have e' : g = V := e; omega
  have hgB : ∀ a, (some ⟨g, 0, none⟩ : Option Addr) = some a → a.block ≠ B := fun a ha e => by
    cases ha
    rcases hy6 with ⟨b, hb, e2⟩ | e2
    · exact tq.2.1 b hb (by rw [e2]; exact e)
    · have := lq.lt; have e' : g = B := e; omega
  refine ⟨lq.keep ?_ fun i hi a ha => ?_, ⟨hj.keep (set_keep _ _ hgV), hgB, fun i hi => noff _ (lq.own i hi).under (tq.2.2 i hi)⟩, ?_, ?_, noff _ po.under hxy, ?_, fun k hk h1 h2 => (Below.heap_setCell _ _ _ k h2).trans (hk6 k hk h1)⟩
  · rw [Below.heap_setCell _ _ _ B (by show B ≠ V; omega)]
    exact hk6 B lq.lt fun a ha e => tq.2.1 a ha e.symm
  · rw [Below.heap_setCell _ _ _ a.block (hVA i hi a ha)]
    exact hk6 a.block ((lq.own i hi).under a ha) fun b hb e => tq.2.2 i hi a b ha hb e
  · exact (show Sits w8 V cells T from (hk6 V sv.lt (fun a ha e => hVy a ha e.symm)).trans sv).set 6 _
  · exact (po.keep fun a ha => hk6 a.block (po.under a ha) fun b hb e => hxy a b ha hb e).keep (set_keep _ _ hxV)
  · exact (Below.grown (B := base) (a := W) ((Below.refl _ W).alloc hbw _) hgr (by simp; omega) (fun j e => (JO.own_lt tq.1 j e).1)).setCell hbV _

set_option maxRecDepth 100000 in
set_option maxHeartbeats 4000000 in
theorem ishapePush_any (s : Sh) (a : Option Addr) (N ca : Nat) (b : Option Addr) (n c : Nat) (L : Nat → Ln) (tn : Nat → Int) (p : Pk) (w : World)
    (hN : N ≤ 1048576) (hcn : cntF L N ≤ 1048576) (hnn : n ≤ 1048576) (hP : LR w.heap.size w a N L) (hb : Row .i64 w b n tn) :
    Calls Try.prog 8 #[shVal s a N ca b n c, p.val] w fun e w' =>
      (mayB s N L ((List.range n).map tn) p = false ∧ e = .returned (.tuple #[shVal ⟨0, 0, 0, 0, 0⟩ none 0 0 none 0 0, .bool false]) ∧ Below w.heap.size w w') ∨
      (mayB s N L ((List.range n).map tn) p = true ∧ ∃ (B : Nat) (A : Nat → Option Addr) (C : Nat → Nat) (cl : Nat) (y : Option Addr) (n1 cy : Nat) (tn1 : Nat → Int), e = .returned (.tuple #[shVal s (some ⟨B, 0, none⟩) 4 cl y n1 cy, .bool (shpB s L p)]) ∧ LQ w.heap.size w' B 4 A C (outL s L p) ∧ TQ w.heap.size w' y n1 cy tn1 B 4 A ∧ (List.range n1).map tn1 = outT s L ((List.range n).map tn) p ∧ n1 ≤ 1000 ∧ Below w.heap.size w w') := by
  have HP : Hid (LR w.heap.size w a N L) := hP
  have HRB : Hid (Row .i64 w b n tn) := hb
  have HN : Hid (N ≤ 1048576) := hN
  have HCN : Hid (cntF L N ≤ 1048576) := hcn
  have HNN : Hid (n ≤ 1048576) := hnn
  clear hP hb hN hcn hnn
  obtain ⟨ts, hts⟩ : ∃ l, (List.range n).map tn = l := ⟨_, rfl⟩
  have HTS : Hid ((List.range n).map tn = ts) := hts
  rw [hts]
  clear hts
  obtain ⟨W0, hW0⟩ : ∃ W, ((w.alloc (.cells (shCells s a N ca b n c) 31)).alloc (.cells (pkCells p) 35)).alloc (.cells shZero 31) = W := ⟨_, rfl⟩
  have s0 : Sits W0 w.heap.size (shCells s a N ca b n c) 31 := by rw [← hW0]; exact ((Sits.new _ _ _).alloc _).alloc _
  have s1 : Sits W0 (w.heap.size + 1) (pkCells p) 35 := by rw [← hW0]; exact (Sits.new' (by simp)).alloc _
  have s2 : Sits W0 (w.heap.size + 1 + 1) shZero 31 := by rw [← hW0]; exact Sits.new' (by simp)
  have b0 : Below w.heap.size w W0 := by rw [← hW0]; exact (((Below.refl _ w).alloc (Nat.le_refl _) _).alloc (by simp) _).alloc (by simp; omega) _
  have z0 : W0.heap.size = w.heap.size + 1 + 1 + 1 := by rw [← hW0]; simp
  have HW0 : Hid (((w.alloc (.cells (shCells s a N ca b n c) 31)).alloc (.cells (pkCells p) 35)).alloc (.cells shZero 31) = W0) := hW0
  have HS0 : Hid (Sits W0 w.heap.size (shCells s a N ca b n c) 31) := s0
  have HS1 : Hid (Sits W0 (w.heap.size + 1) (pkCells p) 35) := s1
  have HS2 : Hid (Sits W0 (w.heap.size + 1 + 1) shZero 31) := s2
  have HB0 : Hid (Below w.heap.size w W0) := b0
  have HZ0 : Hid (W0.heap.size = w.heap.size + 1 + 1 + 1) := z0
  have x0 := s0.cell 0
  have x1 := s0.cell 1
  have x2 := s0.cell 2
  have x3 := s0.cell 3
  have x4 := s0.cell 4
  have x5 := s0.cell 5
  have x6 := s0.cell 6
  clear s0 s1 s2 b0 z0 hW0
  have HA : Hid (∀ W, Below W0.heap.size W0 W → (Sits W w.heap.size (shCells s a N ca b n c) 31 ∧ Sits W (w.heap.size + 1) (pkCells p) 35 ∧ Sits W (w.heap.size + 1 + 1) shZero 31) ∧ Below w.heap.size w W) := fun W hW => ⟨⟨Sits.below HS0.out hW (Sits.lt HS0.out), Sits.below HS1.out hW (Sits.lt HS1.out), Sits.below HS2.out hW (Sits.lt HS2.out)⟩, (HB0.out).trans (hW.mono (HB0.out).size)⟩
  cases t0 : shB s N L ts
  case false =>
    have HE : Hid (mayB s N L ts p = false) := by show _ = _; unfold mayB; rw [t0]; rfl
    go_enter Try.func8, Try.ntmps8
    go_upto_region 1 with fail
    rw [HW0.out]
    go_wp2_with (go_at_call 20; refine (ishapeOk_any s a N ca b n c L tn _ HN.out HCN.out HNN.out (LR.go HP.out HB0.out (HB0.out).size) (Row.below HRB.out HB0.out)).mono ?_; rintro e w1 ⟨rfl, b1⟩; rw [HTS.out, t0]; obtain ⟨⟨_, _, r2⟩, _⟩ := HA.out _ b1; have r2_0 := r2.cell 0; have r2_1 := r2.cell 1; have r2_2 := r2.cell 2; have r2_3 := r2.cell 3; have r2_4 := r2.cell 4; have r2_5 := r2.cell 5; have r2_6 := r2.cell 6; have rf := r2.frozen; have HR2 : Hid (Sits w1 (w.heap.size + 1 + 1) shZero 31) := r2; have HB1 : Hid (Below W0.heap.size W0 w1) := b1; clear r2 b1)
    refine bodyPost_ret (ret_shb2 Try.results8 rfl rfl (((((((Sits.set HR2.out 0 (.int .i64 0)).set 1 (.int .i64 0)).set 2 (.int .i64 0)).set 3 (.int .i64 0)).set 4 (.int .i64 0)).set 5 (.slice none 0 0)).set 6 (.slice none 0 0))) rfl ?_
    exact .inl ⟨HE.out, rfl, ((((((((HA.out _ HB1.out).2.setCell (show w.heap.size ≤ w.heap.size + 1 + 1 by omega) _).setCell (show w.heap.size ≤ w.heap.size + 1 + 1 by omega) _).setCell (show w.heap.size ≤ w.heap.size + 1 + 1 by omega) _).setCell (show w.heap.size ≤ w.heap.size + 1 + 1 by omega) _).setCell (show w.heap.size ≤ w.heap.size + 1 + 1 by omega) _).setCell (show w.heap.size ≤ w.heap.size + 1 + 1 by omega) _).setCell (show w.heap.size ≤ w.heap.size + 1 + 1 by omega) _)⟩
  case true =>
  cases t1 : p.good
  case false =>
    have HE : Hid (mayB s N L ts p = false) := by show _ = _; unfold mayB; rw [t0, t1]; rfl
    go_enter Try.func8, Try.ntmps8
    go_upto_region 1 with fail
    rw [HW0.out]
    go_wp2_with (first | (go_at_call 20; refine (ishapeOk_any s a N ca b n c L tn _ HN.out HCN.out HNN.out (LR.go HP.out HB0.out (HB0.out).size) (Row.below HRB.out HB0.out)).mono ?_; rintro e w1 ⟨rfl, b1⟩; rw [HTS.out, t0]; obtain ⟨⟨_, r1, _⟩, _⟩ := HA.out _ b1; have r1_0 := r1.cell 0; have r1_1 := r1.cell 1; have r1_2 := r1.cell 2; have r1_3 := r1.cell 3; have r1_4 := r1.cell 4; have r1_5 := r1.cell 5; have HB0' : Hid (Below W0.heap.size W0 w1) := b1; clear r1 b1) | (go_at_call 21; refine (ipktOk_any p _).mono ?_; rintro e w2 ⟨rfl, k2⟩; rw [t1]; have b2 := (HB0'.out).trans (k2.1.mono (HB0'.out).size); obtain ⟨⟨_, _, r2⟩, _⟩ := HA.out _ b2; have r2_0 := r2.cell 0; have r2_1 := r2.cell 1; have r2_2 := r2.cell 2; have r2_3 := r2.cell 3; have r2_4 := r2.cell 4; have r2_5 := r2.cell 5; have r2_6 := r2.cell 6; have rf := r2.frozen; have HR2 : Hid (Sits w2 (w.heap.size + 1 + 1) shZero 31) := r2; have HB1 : Hid (Below W0.heap.size W0 w2) := b2; clear r2 b2 k2))
    refine bodyPost_ret (ret_shb2 Try.results8 rfl rfl (((((((Sits.set HR2.out 0 (.int .i64 0)).set 1 (.int .i64 0)).set 2 (.int .i64 0)).set 3 (.int .i64 0)).set 4 (.int .i64 0)).set 5 (.slice none 0 0)).set 6 (.slice none 0 0))) rfl ?_
    exact .inl ⟨HE.out, rfl, ((((((((HA.out _ HB1.out).2.setCell (show w.heap.size ≤ w.heap.size + 1 + 1 by omega) _).setCell (show w.heap.size ≤ w.heap.size + 1 + 1 by omega) _).setCell (show w.heap.size ≤ w.heap.size + 1 + 1 by omega) _).setCell (show w.heap.size ≤ w.heap.size + 1 + 1 by omega) _).setCell (show w.heap.size ≤ w.heap.size + 1 + 1 by omega) _).setCell (show w.heap.size ≤ w.heap.size + 1 + 1 by omega) _).setCell (show w.heap.size ≤ w.heap.size + 1 + 1 by omega) _)⟩
  case true =>
  have hE : mayB s N L ts p = true := by unfold mayB; rw [t0, t1]; rfl
  have HE : Hid (mayB s N L ts p = true) := hE
  obtain ⟨hsp, hpg⟩ := may_parts hE
  obtain rfl : N = 4 := hsp.2.1
  have HSP : Hid (shP s 4 L ((List.range n).map tn)) := by show shP _ _ _ _; rw [HTS.out]; exact hsp
  obtain ⟨hh, h4⟩ := host_of hpg
  have HH : Hid (p.host = ((p.host.toNat : Nat) : Int)) := hh
  have H4 : Hid (p.host.toNat < 4) := h4
  have hlim : s.lim ≤ 40 := hsp.1.2.2.2.2.2
  have hcl : (cntF L 4 : Int) ≤ s.lim := hsp.2.2.1
  have HC40 : Hid (cntF L 4 ≤ 40) := by show _ ≤ _; omega
  have HN4 : Hid (n ≤ 4) := turn_len HSP.out
  clear hE hsp hpg hh h4 hlim hcl
  go_enter Try.func8, Try.ntmps8
  go_upto_region 1 with fail
  rw [HW0.out]
  clear HW0
  go_upto_region 3 with (first | (go_at_call 20; refine (ishapeOk_any s a 4 ca b n c L tn _ HN.out HCN.out HNN.out (LR.go HP.out HB0.out (HB0.out).size) (Row.below HRB.out HB0.out)).mono ?_; rintro e w1 ⟨rfl, b1⟩; rw [HTS.out, t0]; obtain ⟨⟨_, r1, _⟩, _⟩ := HA.out _ b1; have r1_0 := r1.cell 0; have r1_1 := r1.cell 1; have r1_2 := r1.cell 2; have r1_3 := r1.cell 3; have r1_4 := r1.cell 4; have r1_5 := r1.cell 5; have HB1 : Hid (Below W0.heap.size W0 w1) := b1; clear r1 b1) | (go_at_call 21; refine (ipktOk_any p _).mono ?_; rintro e w2 ⟨rfl, k2⟩; rw [t1]; have HB2 : Hid (Below W0.heap.size W0 w2) := (HB1.out).trans (k2.1.mono (HB1.out).size); clear k2))
  clear t0 t1 x0 x1 x2 x3 x4 x5 x6 r1_0 r1_1 r1_2 r1_3 r1_4 r1_5
  obtain ⟨⟨r0, _, _⟩, bw2⟩ := HA.out _ HB2.out
  have HBW2 : Hid (Below w.heap.size w w2) := bw2
  have c0 := r0.cell 0
  have c1 := r0.cell 1
  have c2 := r0.cell 2
  have c3 := r0.cell 3
  have c4 := r0.cell 4
  have c5 := r0.cell 5
  have c6 := r0.cell 6
  clear r0 bw2
  go_upto_region 4 with (go_at_call 22; refine (iownShape_any s a ca b n c L tn _ HCN.out HNN.out (LR.go HP.out HBW2.out (HBW2.out).size) (Row.below HRB.out HBW2.out)).mono ?_; rintro e w3 ⟨B, A, C, cl, y, cy, rfl, lq, tq, b3⟩; have HLQ : Hid (LQ w2.heap.size w3 B 4 A C L) := lq; have HTQ : Hid (TQ w2.heap.size w3 y n cy tn B 4 A) := tq; have HB3 : Hid (Below w2.heap.size w2 w3) := b3; clear lq tq b3)
  obtain ⟨v3, hv3⟩ : ∃ v, w3.alloc (.cells (shCells s (some ⟨B, 0, none⟩) 4 cl y n cy) 31) = v := ⟨_, rfl⟩
  obtain ⟨V, hV⟩ : ∃ V, w3.heap.size = V := ⟨_, rfl⟩
  have sV : Sits v3 V (shCells s (some ⟨B, 0, none⟩) 4 cl y n cy) 31 := by rw [← hv3]; exact Sits.new' hV
  have ba : Below w3.heap.size w3 v3 := by rw [← hv3]; exact (Below.refl _ _).alloc (Nat.le_refl _) _
  have lq3 : LQ w2.heap.size v3 B 4 A C L := (HLQ.out).below ba
  have tq3 : TQ w2.heap.size v3 y n cy tn B 4 A := (HTQ.out).below ba
  have hbV : w2.heap.size ≤ V := by rw [← hV]; exact (HB3.out).size
  have hVB : V ≠ B := by have := (HLQ.out).lt; omega
  have hVA : ∀ i, i < 4 → ∀ g, A i = some g → g.block ≠ V := fun i hi g hg => by have := ((HLQ.out).own i hi).under g hg; omega
  have hVy : ∀ g, y = some g → g.block ≠ V := fun g hg => by have := (HTQ.out).1.undr g hg; omega
  have b23 : Below w2.heap.size w2 v3 := (HB3.out).trans (ba.mono (HB3.out).size)
  rw [hv3, hV]
  have b03 : Below W0.heap.size W0 v3 := (HB2.out).trans (b23.mono (HB2.out).size)
  obtain ⟨⟨_, r1, _⟩, _⟩ := HA.out _ b03
  clear c0 c1 c2 c3 c4 c5 c6
  have p0 := r1.cell 0
  have p1 := r1.cell 1
  have p2 := r1.cell 2
  have p3 := r1.cell 3
  have p4 := r1.cell 4
  have p5 := r1.cell 5
  obtain ⟨h, hh, h4⟩ : ∃ h : Nat, p.host = (h : Int) ∧ h < 4 := ⟨p.host.toNat, HH.out, H4.out⟩
  have hht : p.host.toNat = h := by omega
  have HHT : Hid (p.host.toNat = h) := hht
  have HHH : Hid (p.host = (h : Int)) := hh
  have HSV : Hid (Sits v3 V (shCells s (some ⟨B, 0, none⟩) 4 cl y n cy) 31) := sV
  have HLQ3 : Hid (LQ w2.heap.size v3 B 4 A C L) := lq3
  have HTQ3 : Hid (TQ w2.heap.size v3 y n cy tn B 4 A) := tq3
  have HVB : Hid (V ≠ B) := hVB
  have HVA : Hid (∀ i, i < 4 → ∀ g, A i = some g → g.block ≠ V) := hVA
  have HVY : Hid (∀ g, y = some g → g.block ≠ V) := hVy
  have H23 : Hid (Below w2.heap.size w2 v3) := b23
  have H03 : Hid (Below W0.heap.size W0 v3) := b03
  have y5 := sV.cell 5
  have q2 : v3.cell? ⟨w.heap.size + 1, 2, none⟩ = some (.int .i64 (h : Int)) := by rw [← hh]; exact p2
  have hlti : (h : Int) < 4 := by omega
  have hk0 : (0 : Int) ≤ (h : Int) := by omega
  have HR1 : Hid (Sits v3 (w.heap.size + 1) (pkCells p) 35) := r1
  clear hv3 hV sV ba lq3 tq3 hVB hVA hVy b23 b03 r1 HLQ HTQ HB3 p0 p1 p2 p3 p4 p5 hht hh
  go_upto_region 5 with fail
  clear q2 y5 hlti hk0
  have r1 := HR1.out
  have p0 := r1.cell 0
  have p1 := r1.cell 1
  have p2 := r1.cell 2
  have p3 := r1.cell 3
  have p4 := r1.cell 4
  have p5 := r1.cell 5
  have cA := ((HLQ3.out).at h4).1
  have hnh : (L h).n ≤ 40 := Nat.le_trans (cntF_le L h4) HC40.out
  clear r1
  have l1 := Sits.lt HR1.out
  have lB := (HLQ3.out).lt
  go_cut [8, 9] from 10 (fun s8 s9 wx => ∃ (F : Nat) (x : Option Addr) (cx : Nat), s8 = .pointer (some ⟨F, 0, none⟩) ∧ s9 = .bool (pushB (L h).f (L h).n 40 p) ∧ Sits wx F #[.slice x (pushN (L h).f (L h).n 40 p) cx, .int .i64 (pushL (L h).f (L h).n 40 p)] 56 ∧ PO v3.heap.size wx x (pushN (L h).f (L h).n 40 p) cx (pushF (L h).f (L h).n p) ∧ Below v3.heap.size v3 wx ∧ v3.heap.size ≤ F ∧ ∀ g, x = some g → g.block ≠ F)
  case first =>
    go_region_with (first | (go_at_call 24; refine (queueOf_any (A h) (L h).n (C h) _).mono ?_; rintro e w4 ⟨rfl, b4'⟩; have b4 : Below v3.heap.size v3 w4 := Below.trans (by (repeat first | (with_reducible exact Below.refl _ _) | (with_reducible assumption) | (with_reducible exact HB4.out) | (with_reducible apply Below.drew) | (with_reducible refine Below.alloc ?_ (by first | omega | (simp; done) | (simp; omega)) _))) (b4'.mono (by first | (exact Nat.le_refl _) | omega | (simp; done) | (simp; omega))); (first | (have vz : Sits w4 v3.heap.size #[.slice none 0 0, .int .i64 0] 56 := Sits.below (Sits.new v3.drew #[.slice none 0 0, .int .i64 0] 56) b4' (Sits.lt (Sits.new v3.drew #[.slice none 0 0, .int .i64 0] 56))) | skip); have r4 := Sits.below HR1.out b4 (Sits.lt HR1.out); have q0 := r4.cell 0; have q1 := r4.cell 1; have q2 := r4.cell 2; have q3 := r4.cell 3; have q4 := r4.cell 4; have q5 := r4.cell 5; have l4 := r4.lt; have hs4 := b4.size; have HB4 : Hid (Below v3.heap.size v3 w4) := b4; clear b4 b4' r4) | (go_at_call 23; refine (ipush_any (A h) (L h).n (C h) (L h).f 40 p _ (by omega) ((HLQ3.out).own h h4).cap ((((HLQ3.out).own h h4).pr.below (by (repeat first | (with_reducible exact Below.refl _ _) | (with_reducible assumption) | (with_reducible exact HB4.out) | (with_reducible apply Below.drew) | (with_reducible refine Below.alloc ?_ (by first | omega | (simp; done) | (simp; omega)) _)))).mono (by first | omega | (simp; omega)))).mono ?_; rintro e w5 ⟨x, cx, rfl, po5, b5⟩; have b35 : Below v3.heap.size v3 w5 := Below.trans (by (repeat first | (with_reducible exact Below.refl _ _) | (with_reducible assumption) | (with_reducible exact HB4.out) | (with_reducible apply Below.drew) | (with_reducible refine Below.alloc ?_ (by first | omega | (simp; done) | (simp; omega)) _))) (b5.mono (by first | omega | (simp; omega))); have po6 : PO v3.heap.size w5 x (pushN (L h).f (L h).n 40 p) cx (pushF (L h).f (L h).n p) := po5.mono (by first | omega | (simp; omega)); (first | (have vz5 : Sits w5 w4.heap.size #[.slice none 0 0, .int .i64 0] 56 := Sits.below (Sits.new w4 #[.slice none 0 0, .int .i64 0] 56) b5 (Sits.lt (Sits.new w4 #[.slice none 0 0, .int .i64 0] 56)); have hab : ∀ g, x = some g → g.block ≠ w4.heap.size := (fun g hg => by have := po5.above g hg; simp at this; omega)) | (have vz5 : Sits w5 v3.heap.size #[.slice none 0 0, .int .i64 0] 56 := Sits.below vz b5 (Sits.lt vz); have hab : ∀ g, x = some g → g.block ≠ v3.heap.size := (fun g hg => by have := po5.above g hg; have := vz.lt; omega)) | skip); (first | (have z0 := vz5.cell 0; have z1 := vz5.cell 1; have zf := vz5.frozen) | skip)))
    all_goals
      (go_wp2_with fail)
      go_meet
      case rel =>
        first
          | exact ⟨_, x, cx, rfl, rfl, Sits.new w5 _ _, PO.below po6 ((Below.refl _ _).alloc (Nat.le_refl _) _), b35.alloc b35.size _, b35.size, fun g hg => by have := po6.under g hg; omega⟩
          | exact ⟨_, x, cx, rfl, rfl, (vz5.set 0 _).set 1 _, (po6.keep (set_keep _ _ hab)).keep (set_keep _ _ hab), (b35.setCell (by first | exact hs4 | exact Nat.le_refl _) _).setCell (by first | exact hs4 | exact Nat.le_refl _) _, by first | exact hs4 | exact Nat.le_refl _, hab⟩
  case rest =>
    obtain ⟨F, x, cx, rfl, rfl, sF, po6, b6, hF, hxF⟩ := hcut
    have HF : Hid (Sits wc F #[.slice x (pushN (L h).f (L h).n 40 p) cx, .int .i64 (pushL (L h).f (L h).n 40 p)] 56) := sF
    have HPO : Hid (PO v3.heap.size wc x (pushN (L h).f (L h).n 40 p) cx (pushF (L h).f (L h).n p)) := po6
    have HB6 : Hid (Below v3.heap.size v3 wc) := b6
    have HXF : Hid (∀ g, x = some g → g.block ≠ F) := hxF
    have H0c : Hid (Below W0.heap.size W0 wc) := (H03.out).trans (b6.mono (H03.out).size)
    have HSVc : Hid (Sits wc V (shCells s (some ⟨B, 0, none⟩) 4 cl y n cy) 31) := Sits.below HSV.out b6 (Sits.lt HSV.out)
    have HLQc : Hid (LQ w2.heap.size wc B 4 A C L) := by
      refine (HLQ3.out).keep (b6.block B (HLQ3.out).lt) fun i hi => below_keep b6 ((HLQ3.out).own i hi).under
    have HTQc : Hid (TQ w2.heap.size wc y n cy tn B 4 A) := (HTQ3.out).below b6
    have hz0 := HZ0.out
    have hw2 : W0.heap.size ≤ w2.heap.size := (HB2.out).size
    have hsc := (H0c.out).size
    have HBW : Hid (∀ w', Below wc.heap.size wc w' → Below w.heap.size w w') := fun w' hw' => (HA.out _ ((H0c.out).trans (hw'.mono (H0c.out).size))).2
    obtain ⟨⟨r0, r1, _⟩, _⟩ := HA.out _ H0c.out
    have c4 := r0.cell 4
    have c5 := r0.cell 5
    have p0' := r1.cell 0
    clear p0 p1 p2 p3 p4 p5
    have p0 := p0'
    clear p0' r0 r1 sF po6 b6 hxF cA l1 lB
    cases tf : pushB (L h).f (L h).n 40 p
    case false =>
      have HNO : Hid (shpB s L p = false) := no_fit HSP.out (may_parts HE.out).2 HHH.out h4 tf
      go_upto_region 6 with fail
      refine wp_region_quiet (C := fun w' => Below wc.heap.size wc w') (by kernel_rfl) (by kernel_rfl) ((Below.refl _ _).drew) ?_
      simp only []
      repeat (first
        | go_big_quiet_skip
        | (go_big_quiet_want
           unfold Oper.quiet
           apply Exists.intro
           refine ⟨fun w' hw' => ?_, ?_⟩
           (have z4 := (hw'.cell (p := ⟨w.heap.size, 4, none⟩) (by show w.heap.size < _; omega)).trans c4
            have z5 := (hw'.cell (p := ⟨w.heap.size, 5, none⟩) (by show w.heap.size < _; omega)).trans c5
            have e0 := (hw'.cell (p := ⟨w.heap.size + 1, 0, none⟩) (by show w.heap.size + 1 < _; omega)).trans p0
            go_simp
            first
              | (go_at_call 25; refine (icountOf_any a 4 ca L _ (by omega) HCN.out (LR.go HP.out (HBW.out _ hw') (HBW.out _ hw').size)).mono ?_; rintro e w1 ⟨rfl, hb1⟩; exact ⟨rfl, hw'.trans (hb1.mono hw'.size)⟩)
              | (go_at_call 26; refine (ihasId_any a ca L p.id _ HCN.out (LR.go HP.out (HBW.out _ hw') (HBW.out _ hw').size)).mono ?_; rintro e w1 ⟨rfl, hb1⟩; exact ⟨rfl, hw'.trans (hb1.mono hw'.size)⟩)
              | exact rfl)
           simp only [Act.put, List.setIfInBounds_toArray, List.set_cons_zero, List.set_cons_succ]
           go_big_quiet_on))
      refine wpQuiet_nil ?_
      intro w7 hw7
      have sV7 := Sits.below HSVc.out hw7 (Sits.lt HSVc.out)
      obtain ⟨⟨_, _, r2⟩, bw7⟩ := HA.out _ ((H0c.out).trans (hw7.mono (H0c.out).size))
      have d0 := sV7.cell 0
      have d1 := sV7.cell 1
      have d2 := sV7.cell 2
      have d3 := sV7.cell 3
      have d4 := sV7.cell 4
      have d5 := sV7.cell 5
      have d6 := sV7.cell 6
      have r2_0 := r2.cell 0
      have r2_1 := r2.cell 1
      have r2_2 := r2.cell 2
      have r2_3 := r2.cell 3
      have r2_4 := r2.cell 4
      have r2_5 := r2.cell 5
      have r2_6 := r2.cell 6
      have rf := r2.frozen
      have HR2 : Hid (Sits w7 (w.heap.size + 1 + 1) shZero 31) := r2
      have HLQ7 : Hid (LQ w2.heap.size w7 B 4 A C L) := (HLQc.out).below hw7
      have HTQ7 : Hid (TQ w2.heap.size w7 y n cy tn B 4 A) := (HTQc.out).below hw7
      have HBW7 : Hid (Below w.heap.size w w7) := bw7
      clear r2 bw7 sV7 c4 c5 p0
      go_wp2
      refine bodyPost_ret (ret_shb2 Try.results8 rfl rfl (((((((Sits.set HR2.out 0 (.int .i64 s.rt)).set 1 (.int .i64 s.ov)).set 2 (.int .i64 s.nx)).set 3 (.int .i64 s.qt)).set 4 (.int .i64 s.lim)).set 5 (.slice (some ⟨B, 0, none⟩) 4 cl)).set 6 (.slice y n cy))) rfl ?_
      have h0 : w.heap.size + 1 + 1 ≤ w.heap.size + 1 + 1 := Nat.le_refl _
      have h1 : w.heap.size + 1 + 1 < w.heap.size + 1 + 1 + 1 := Nat.lt_succ_self _
      have c9 : Chg (w.heap.size + 1 + 1) (w.heap.size + 1 + 1 + 1) w7 _ := (chg_set (chg_set (chg_set (chg_set (chg_set (chg_set (chg_set (Chg.refl _ _ w7) h0 h1 0 (.int .i64 s.rt)) h0 h1 1 (.int .i64 s.ov)) h0 h1 2 (.int .i64 s.nx)) h0 h1 3 (.int .i64 s.qt)) h0 h1 4 (.int .i64 s.lim)) h0 h1 5 (.slice (some ⟨B, 0, none⟩) 4 cl)) h0 h1 6 (.slice y n cy))
      refine .inr ⟨HE.out, B, A, C, cl, y, n, cy, tn, by rw [HNO.out], ?_, (TQ.chg HTQ7.out c9 (by omega)).mono (by omega), ?_, by have := HN4.out; omega, c9.bel HBW7.out (by omega)⟩
      · have : outL s L p = L := by unfold outL; rw [HNO.out]; rfl
        rw [this]; exact (LQ.chg HLQ7.out c9 (by omega)).mono (by omega)
      · rw [HTS.out]; unfold outT; rw [HNO.out]; rfl
    case true =>
    by_cases t2 : (cntF L 4 : Int) = s.lim
    case pos =>
      have HNO : Hid (shpB s L p = false) := full_no t2
      have t2' : ((cntF L 4 : Int) == s.lim) = true := by simpa using t2
      go_upto_region 6 with fail
      refine wp_region_quiet (C := fun w' => Below wc.heap.size wc w') (by kernel_rfl) (by kernel_rfl) ((Below.refl _ _).drew) ?_
      simp only []
      repeat (first
        | go_big_quiet_skip
        | (go_big_quiet_want
           unfold Oper.quiet
           apply Exists.intro
           refine ⟨fun w' hw' => ?_, ?_⟩
           (have z4 := (hw'.cell (p := ⟨w.heap.size, 4, none⟩) (by show w.heap.size < _; omega)).trans c4
            have z5 := (hw'.cell (p := ⟨w.heap.size, 5, none⟩) (by show w.heap.size < _; omega)).trans c5
            have e0 := (hw'.cell (p := ⟨w.heap.size + 1, 0, none⟩) (by show w.heap.size + 1 < _; omega)).trans p0
            go_simp
            first
              | (go_at_call 25; refine (icountOf_any a 4 ca L _ (by omega) HCN.out (LR.go HP.out (HBW.out _ hw') (HBW.out _ hw').size)).mono ?_; rintro e w1 ⟨rfl, hb1⟩; exact ⟨rfl, hw'.trans (hb1.mono hw'.size)⟩)
              | (go_at_call 26; refine (ihasId_any a ca L p.id _ HCN.out (LR.go HP.out (HBW.out _ hw') (HBW.out _ hw').size)).mono ?_; rintro e w1 ⟨rfl, hb1⟩; exact ⟨rfl, hw'.trans (hb1.mono hw'.size)⟩)
              | exact rfl)
           simp only [Act.put, List.setIfInBounds_toArray, List.set_cons_zero, List.set_cons_succ]
           go_big_quiet_on))
      refine wpQuiet_nil ?_
      intro w7 hw7
      have sV7 := Sits.below HSVc.out hw7 (Sits.lt HSVc.out)
      obtain ⟨⟨_, _, r2⟩, bw7⟩ := HA.out _ ((H0c.out).trans (hw7.mono (H0c.out).size))
      have d0 := sV7.cell 0
      have d1 := sV7.cell 1
      have d2 := sV7.cell 2
      have d3 := sV7.cell 3
      have d4 := sV7.cell 4
      have d5 := sV7.cell 5
      have d6 := sV7.cell 6
      have r2_0 := r2.cell 0
      have r2_1 := r2.cell 1
      have r2_2 := r2.cell 2
      have r2_3 := r2.cell 3
      have r2_4 := r2.cell 4
      have r2_5 := r2.cell 5
      have r2_6 := r2.cell 6
      have rf := r2.frozen
      have HR2 : Hid (Sits w7 (w.heap.size + 1 + 1) shZero 31) := r2
      have HLQ7 : Hid (LQ w2.heap.size w7 B 4 A C L) := (HLQc.out).below hw7
      have HTQ7 : Hid (TQ w2.heap.size w7 y n cy tn B 4 A) := (HTQc.out).below hw7
      have HBW7 : Hid (Below w.heap.size w w7) := bw7
      clear r2 bw7 sV7 c4 c5 p0
      go_wp2
      refine bodyPost_ret (ret_shb2 Try.results8 rfl rfl (((((((Sits.set HR2.out 0 (.int .i64 s.rt)).set 1 (.int .i64 s.ov)).set 2 (.int .i64 s.nx)).set 3 (.int .i64 s.qt)).set 4 (.int .i64 s.lim)).set 5 (.slice (some ⟨B, 0, none⟩) 4 cl)).set 6 (.slice y n cy))) rfl ?_
      have h0 : w.heap.size + 1 + 1 ≤ w.heap.size + 1 + 1 := Nat.le_refl _
      have h1 : w.heap.size + 1 + 1 < w.heap.size + 1 + 1 + 1 := Nat.lt_succ_self _
      have c9 : Chg (w.heap.size + 1 + 1) (w.heap.size + 1 + 1 + 1) w7 _ := (chg_set (chg_set (chg_set (chg_set (chg_set (chg_set (chg_set (Chg.refl _ _ w7) h0 h1 0 (.int .i64 s.rt)) h0 h1 1 (.int .i64 s.ov)) h0 h1 2 (.int .i64 s.nx)) h0 h1 3 (.int .i64 s.qt)) h0 h1 4 (.int .i64 s.lim)) h0 h1 5 (.slice (some ⟨B, 0, none⟩) 4 cl)) h0 h1 6 (.slice y n cy))
      refine .inr ⟨HE.out, B, A, C, cl, y, n, cy, tn, by rw [HNO.out], ?_, (TQ.chg HTQ7.out c9 (by omega)).mono (by omega), ?_, by have := HN4.out; omega, c9.bel HBW7.out (by omega)⟩
      · have : outL s L p = L := by unfold outL; rw [HNO.out]; rfl
        rw [this]; exact (LQ.chg HLQ7.out c9 (by omega)).mono (by omega)
      · rw [HTS.out]; unfold outT; rw [HNO.out]; rfl
    case neg =>
    have t2' : ((cntF L 4 : Int) == s.lim) = false := by simpa using t2
    cases t3 : hidB L p.id
    case true =>
      have HNO : Hid (shpB s L p = false) := hid_no t3
      go_upto_region 6 with fail
      refine wp_region_quiet (C := fun w' => Below wc.heap.size wc w') (by kernel_rfl) (by kernel_rfl) ((Below.refl _ _).drew) ?_
      simp only []
      repeat (first
        | go_big_quiet_skip
        | (go_big_quiet_want
           unfold Oper.quiet
           apply Exists.intro
           refine ⟨fun w' hw' => ?_, ?_⟩
           (have z4 := (hw'.cell (p := ⟨w.heap.size, 4, none⟩) (by show w.heap.size < _; omega)).trans c4
            have z5 := (hw'.cell (p := ⟨w.heap.size, 5, none⟩) (by show w.heap.size < _; omega)).trans c5
            have e0 := (hw'.cell (p := ⟨w.heap.size + 1, 0, none⟩) (by show w.heap.size + 1 < _; omega)).trans p0
            go_simp
            first
              | (go_at_call 25; refine (icountOf_any a 4 ca L _ (by omega) HCN.out (LR.go HP.out (HBW.out _ hw') (HBW.out _ hw').size)).mono ?_; rintro e w1 ⟨rfl, hb1⟩; exact ⟨rfl, hw'.trans (hb1.mono hw'.size)⟩)
              | (go_at_call 26; refine (ihasId_any a ca L p.id _ HCN.out (LR.go HP.out (HBW.out _ hw') (HBW.out _ hw').size)).mono ?_; rintro e w1 ⟨rfl, hb1⟩; exact ⟨rfl, hw'.trans (hb1.mono hw'.size)⟩)
              | exact rfl)
           simp only [Act.put, List.setIfInBounds_toArray, List.set_cons_zero, List.set_cons_succ]
           go_big_quiet_on))
      refine wpQuiet_nil ?_
      intro w7 hw7
      have sV7 := Sits.below HSVc.out hw7 (Sits.lt HSVc.out)
      obtain ⟨⟨_, _, r2⟩, bw7⟩ := HA.out _ ((H0c.out).trans (hw7.mono (H0c.out).size))
      have d0 := sV7.cell 0
      have d1 := sV7.cell 1
      have d2 := sV7.cell 2
      have d3 := sV7.cell 3
      have d4 := sV7.cell 4
      have d5 := sV7.cell 5
      have d6 := sV7.cell 6
      have r2_0 := r2.cell 0
      have r2_1 := r2.cell 1
      have r2_2 := r2.cell 2
      have r2_3 := r2.cell 3
      have r2_4 := r2.cell 4
      have r2_5 := r2.cell 5
      have r2_6 := r2.cell 6
      have rf := r2.frozen
      have HR2 : Hid (Sits w7 (w.heap.size + 1 + 1) shZero 31) := r2
      have HLQ7 : Hid (LQ w2.heap.size w7 B 4 A C L) := (HLQc.out).below hw7
      have HTQ7 : Hid (TQ w2.heap.size w7 y n cy tn B 4 A) := (HTQc.out).below hw7
      have HBW7 : Hid (Below w.heap.size w w7) := bw7
      clear r2 bw7 sV7 c4 c5 p0
      go_wp2
      refine bodyPost_ret (ret_shb2 Try.results8 rfl rfl (((((((Sits.set HR2.out 0 (.int .i64 s.rt)).set 1 (.int .i64 s.ov)).set 2 (.int .i64 s.nx)).set 3 (.int .i64 s.qt)).set 4 (.int .i64 s.lim)).set 5 (.slice (some ⟨B, 0, none⟩) 4 cl)).set 6 (.slice y n cy))) rfl ?_
      have h0 : w.heap.size + 1 + 1 ≤ w.heap.size + 1 + 1 := Nat.le_refl _
      have h1 : w.heap.size + 1 + 1 < w.heap.size + 1 + 1 + 1 := Nat.lt_succ_self _
      have c9 : Chg (w.heap.size + 1 + 1) (w.heap.size + 1 + 1 + 1) w7 _ := (chg_set (chg_set (chg_set (chg_set (chg_set (chg_set (chg_set (Chg.refl _ _ w7) h0 h1 0 (.int .i64 s.rt)) h0 h1 1 (.int .i64 s.ov)) h0 h1 2 (.int .i64 s.nx)) h0 h1 3 (.int .i64 s.qt)) h0 h1 4 (.int .i64 s.lim)) h0 h1 5 (.slice (some ⟨B, 0, none⟩) 4 cl)) h0 h1 6 (.slice y n cy))
      refine .inr ⟨HE.out, B, A, C, cl, y, n, cy, tn, by rw [HNO.out], ?_, (TQ.chg HTQ7.out c9 (by omega)).mono (by omega), ?_, by have := HN4.out; omega, c9.bel HBW7.out (by omega)⟩
      · have : outL s L p = L := by unfold outL; rw [HNO.out]; rfl
        rw [this]; exact (LQ.chg HLQ7.out c9 (by omega)).mono (by omega)
      · rw [HTS.out]; unfold outT; rw [HNO.out]; rfl
    case false =>
      have HYES : Hid (shpB s L p = true) := all_fits HSP.out HHH.out tf t2 t3
      have hpn : pushN (L h).f (L h).n 40 p = (L h).n + 1 := push_yes tf
      rw [hpn] at HF HPO
      go_upto_region 6 with fail
      refine wp_region_quiet (C := fun w' => Below wc.heap.size wc w') (by kernel_rfl) (by kernel_rfl) ((Below.refl _ _).drew) ?_
      simp only []
      repeat (first
        | go_big_quiet_skip
        | (go_big_quiet_want
           unfold Oper.quiet
           apply Exists.intro
           refine ⟨fun w' hw' => ?_, ?_⟩
           (have z4 := (hw'.cell (p := ⟨w.heap.size, 4, none⟩) (by show w.heap.size < _; omega)).trans c4
            have z5 := (hw'.cell (p := ⟨w.heap.size, 5, none⟩) (by show w.heap.size < _; omega)).trans c5
            have e0 := (hw'.cell (p := ⟨w.heap.size + 1, 0, none⟩) (by show w.heap.size + 1 < _; omega)).trans p0
            go_simp
            first
              | (go_at_call 25; refine (icountOf_any a 4 ca L _ (by omega) HCN.out (LR.go HP.out (HBW.out _ hw') (HBW.out _ hw').size)).mono ?_; rintro e w1 ⟨rfl, hb1⟩; exact ⟨rfl, hw'.trans (hb1.mono hw'.size)⟩)
              | (go_at_call 26; refine (ihasId_any a ca L p.id _ HCN.out (LR.go HP.out (HBW.out _ hw') (HBW.out _ hw').size)).mono ?_; rintro e w1 ⟨rfl, hb1⟩; exact ⟨rfl, hw'.trans (hb1.mono hw'.size)⟩)
              | exact rfl)
           simp only [Act.put, List.setIfInBounds_toArray, List.set_cons_zero, List.set_cons_succ]
           go_big_quiet_on))
      refine wpQuiet_nil ?_
      intro w7 hw7
      obtain ⟨⟨r0, r1, r2⟩, bw7⟩ := HA.out _ ((H0c.out).trans (hw7.mono (H0c.out).size))
      have HR0 : Hid (Sits w7 w.heap.size (shCells s a 4 ca b n c) 31) := r0
      have HR1' : Hid (Sits w7 (w.heap.size + 1) (pkCells p) 35) := r1
      have HR2 : Hid (Sits w7 (w.heap.size + 1 + 1) shZero 31) := r2
      have HLQ7 : Hid (LQ w2.heap.size w7 B 4 A C L) := (HLQc.out).below hw7
      have HTQ7 : Hid (TQ w2.heap.size w7 y n cy tn B 4 A) := (HTQc.out).below hw7
      have HBW7 : Hid (Below w.heap.size w w7) := bw7
      have HSV7 : Hid (Sits w7 V (shCells s (some ⟨B, 0, none⟩) 4 cl y n cy) 31) := Sits.below HSVc.out hw7 (Sits.lt HSVc.out)
      have HF7 : Hid (Sits w7 F #[.slice x ((L h).n + 1) cx, .int .i64 (pushL (L h).f (L h).n 40 p)] 56) := Sits.below HF.out hw7 (Sits.lt HF.out)
      have hs3 : w2.heap.size ≤ v3.heap.size := (H23.out).size
      have HPO7 : Hid (PO w2.heap.size w7 x ((L h).n + 1) cx (pushF (L h).f (L h).n p)) := (PO.below HPO.out hw7).mono hs3
      have hab : Above v3.heap.size x := (HPO.out).above
      have lB : B < v3.heap.size := (HLQ3.out).lt
      have lV : V < v3.heap.size := Sits.lt HSV.out
      have lBb : w2.heap.size ≤ B := (HLQ3.out).lo
      have HXB : Hid (∀ g, x = some g → g.block ≠ B) := fun g hg => by have := hab g hg; omega
      have HXV : Hid (∀ g, x = some g → g.block ≠ V) := fun g hg => by have := hab g hg; omega
      have HXA : Hid (∀ i, i < 4 → Off (A i) x) := fun i hi => off_of ((HLQ3.out).own i hi).under hab
      have HXY : Hid (Off x y) := (off_of (HTQ3.out).1.undr hab).symm
      have hFV : F ≠ V := by omega
      have hFB : F ≠ B := by omega
      have HL2 : Hid ((fun i => if i = h then (⟨(L h).n + 1, pushF (L h).f (L h).n p, if (L h).n = 0 then s.qt else (L h).sh, (L h).cd⟩ : Ln) else L i) = shpL s L p h) := by
        show _ = _
        funext i
        unfold shpL shpLn
        by_cases e : i = h
        · rw [if_pos e, if_pos e]; rfl
        · rw [if_neg e, if_neg e]
      have cA := ((HLQ7.out).at h4).1
      have fB := (HLQ7.out).frozen
      have g0 := Sits.cell HF7.out 0
      have hVB := HVB.out
      clear r0 r1 r2 bw7 c4 c5 p0 hpn tf t2 t2' t3 HPO HF HXF HSVc HTQc HLQc hab
      by_cases hz : (L h).n = 0
      case neg =>
        have hz' : (((L h).n : Int) == 0) = false := by simp; omega
        go_upto_region 12 with fail
        obtain ⟨v8, hv8⟩ : ∃ v, w7.setCell ⟨B, h * 9, none⟩ (.slice x ((L h).n + 1) cx) = v := ⟨_, rfl⟩
        obtain ⟨lq8, tq8⟩ := put_both h4 HLQ7.out HTQ7.out HPO7.out HXB.out HXA.out HXY.out
        rw [hv8] at lq8 tq8 ⊢
        have SE : Hid (Sits v8 V (shCells s (some ⟨B, 0, none⟩) 4 cl y n cy) 31) := by show Sits _ _ _ _; rw [← hv8]; exact Sits.other HSV7.out (by omega) _
        have RE : Hid (Sits v8 (w.heap.size + 1 + 1) shZero 31) := by show Sits _ _ _ _; rw [← hv8]; exact Sits.other HR2.out (by omega) _
        have BE : Hid (Below w.heap.size w v8) := by show Below _ _ _; rw [← hv8]; exact (HBW7.out).setCell (show w.heap.size ≤ B by omega) _
        have LE : Hid (LQ w2.heap.size v8 B 4 _ _ _) := lq8
        have TE : Hid (TQ w2.heap.size v8 y n cy tn B 4 _) := tq8
        have HLL : Hid ((fun i => if i = h then (⟨(L h).n + 1, pushF (L h).f (L h).n p, (L h).sh, (L h).cd⟩ : Ln) else L i) = shpL s L p h) := by show _ = _; rw [← HL2.out, if_neg hz]
        have HTT : Hid ((List.range n).map tn = shpT L ((List.range n).map tn) h) := by show _ = _; unfold shpT; rw [if_neg hz]
        clear lq8 tq8 hv8 cA fB g0
        have d0 := Sits.cell SE.out 0
        have d1 := Sits.cell SE.out 1
        have d2 := Sits.cell SE.out 2
        have d3 := Sits.cell SE.out 3
        have d4 := Sits.cell SE.out 4
        have d5 := Sits.cell SE.out 5
        have d6 := Sits.cell SE.out 6
        have r2_0 := Sits.cell RE.out 0
        have r2_1 := Sits.cell RE.out 1
        have r2_2 := Sits.cell RE.out 2
        have r2_3 := Sits.cell RE.out 3
        have r2_4 := Sits.cell RE.out 4
        have r2_5 := Sits.cell RE.out 5
        have r2_6 := Sits.cell RE.out 6
        have rf := Sits.frozen RE.out
        go_wp2
        refine bodyPost_ret (ret_shb2 Try.results8 rfl rfl (((((((Sits.set RE.out 0 (.int .i64 s.rt)).set 1 (.int .i64 s.ov)).set 2 (.int .i64 s.nx)).set 3 (.int .i64 s.qt)).set 4 (.int .i64 s.lim)).set 5 (.slice (some ⟨B, 0, none⟩) 4 cl)).set 6 (.slice y n cy))) rfl ?_
        have h0 : w.heap.size + 1 + 1 ≤ w.heap.size + 1 + 1 := Nat.le_refl _
        have h1 : w.heap.size + 1 + 1 < w.heap.size + 1 + 1 + 1 := Nat.lt_succ_self _
        have c9 : Chg (w.heap.size + 1 + 1) (w.heap.size + 1 + 1 + 1) v8 _ := (chg_set (chg_set (chg_set (chg_set (chg_set (chg_set (chg_set (Chg.refl _ _ v8) h0 h1 0 (.int .i64 s.rt)) h0 h1 1 (.int .i64 s.ov)) h0 h1 2 (.int .i64 s.nx)) h0 h1 3 (.int .i64 s.qt)) h0 h1 4 (.int .i64 s.lim)) h0 h1 5 (.slice (some ⟨B, 0, none⟩) 4 cl)) h0 h1 6 (.slice y n cy))
        first
          | refine .inr ⟨HE.out, B, (fun i => if i = h then x else A i), (fun i => if i = h then cx else C i), cl, y, n, cy, tn, by rw [HYES.out], ?_, (TQ.chg TE.out c9 (by omega)).mono (by omega), ?_, by have := HN4.out; omega, c9.bel BE.out (by omega)⟩
          | refine .inr ⟨HE.out, B, (fun i => if i = h then x else A i), (fun i => if i = h then cx else C i), cl, y, n, cy, by rw [HYES.out], ?_, tn, (TQ.chg TE.out c9 (by omega)).mono (by omega), ?_, by have := HN4.out; omega, c9.bel BE.out (by omega)⟩
        · have : outL s L p = shpL s L p h := by unfold outL; rw [HYES.out, HHT.out]; rfl
          rw [this, ← HLL.out]; exact (LQ.chg LE.out c9 (by omega)).mono (by omega)
        · rw [HTT.out, HTS.out]; unfold outT; rw [HYES.out, HHT.out]; rfl
      case pos =>
        have hz' : (((L h).n : Int) == 0) = true := by simpa using hz
        have HZ : Hid ((L h).n = 0) := hz
        clear hz
        have HRW : Hid ((w7.alloc (.cells #[.int .i64 p.host] 3)).cell? ⟨w7.heap.size, 0, none⟩ = some (.int .i64 p.host)) := (Sits.new w7 #[.int .i64 p.host] 3).cell 0
        have hni : n ≤ 4 := HN4.out
        have z6 := Sits.cell HSV7.out 6
        have e2 := Sits.cell HR1'.out 2
        have hs7 : w2.heap.size ≤ w7.heap.size := by have := (HLQ7.out).lt; omega
        have lV7 : V < w7.heap.size := Sits.lt HSV7.out
        have HTQA : Hid (JO w2.heap.size (w7.alloc (.cells #[.int .i64 p.host] 3)) y n cy tn) := JO.alloc (HTQ7.out).1 _
        go_upto_region 10 with (at_builtin; refine wpList_append_in1 rfl _ _ rfl w2.heap.size y n cy tn rfl HTQA.out w7.heap.size p.host rfl HRW.out (by omega) (by simp; omega) ?_; intro g6 cy' w8 hj6 hgr hat6 hlt6; obtain ⟨hk6, hy6⟩ := turn_grown hgr hat6; have e6 := hk6 V lV7 (fun a ha e => HVY.out a ha e.symm); have d6 := (cell_of_block e6 6).trans z6; have f6 := (frozen_of_block e6 6).trans (Sits.frozen HSV7.out 6); have HALL : Hid _ := turn_both HLQ7.out HTQ7.out HSV7.out HVB.out HVA.out HVY.out HPO7.out HXV.out HXY.out hgr hat6 hj6 hs7 hbV; clear hgr hk6 hj6 hy6 e6 hat6 hlt6)
        obtain ⟨v8, hv8⟩ : ∃ v, w8.setCell ⟨V, 6, none⟩ (.slice (some ⟨g6, 0, none⟩) (n + 1) cy') = v := ⟨_, rfl⟩
        have hall := HALL.out
        rw [hv8] at hall ⊢
        obtain ⟨lq8, tq8, sv8, po8, off8, b8, k8⟩ := hall
        clear HALL
        have yl : ∀ a, y = some a → w2.heap.size ≤ a.block ∧ a.block < v3.heap.size := fun a ha => ⟨(HTQ3.out).1.abov a ha, (HTQ3.out).1.undr a ha⟩
        have r0 : Sits v8 w.heap.size (shCells s a 4 ca b n c) 31 := (k8 w.heap.size (Sits.lt HR0.out) (fun a ha => by have := (yl a ha).1; omega) (by omega)).trans HR0.out
        have r2 : Sits v8 (w.heap.size + 1 + 1) shZero 31 := (k8 (w.heap.size + 1 + 1) (Sits.lt HR2.out) (fun a ha => by have := (yl a ha).1; omega) (by omega)).trans HR2.out
        have rF : Sits v8 F #[.slice x ((L h).n + 1) cx, .int .i64 (pushL (L h).f (L h).n 40 p)] 56 := (k8 F (Sits.lt HF7.out) (fun a ha => by have := (yl a ha).2; omega) hFV).trans HF7.out
        have bw8 : Below w.heap.size w v8 := (HBW7.out).trans (b8.mono (by omega))
        have HLQ8 : Hid (LQ w2.heap.size v8 B 4 A C L) := lq8
        have HTQ8 : Hid (TQ w2.heap.size v8 (some ⟨g6, 0, none⟩) (n + 1) cy' (fun i => if i = n then p.host else tn i) B 4 A) := tq8
        have HSV8 : Hid (Sits v8 V (shCells s (some ⟨B, 0, none⟩) 4 cl (some ⟨g6, 0, none⟩) (n + 1) cy') 31) := sv8
        have HPO8 : Hid (PO w2.heap.size v8 x ((L h).n + 1) cx (pushF (L h).f (L h).n p)) := po8
        have HOF8 : Hid (Off x (some ⟨g6, 0, none⟩)) := off8
        have HBW8 : Hid (Below w.heap.size w v8) := bw8
        have HR28 : Hid (Sits v8 (w.heap.size + 1 + 1) shZero 31) := r2
        have HF8 : Hid (Sits v8 F #[.slice x ((L h).n + 1) cx, .int .i64 (pushL (L h).f (L h).n 40 p)] 56) := rF
        have x3 := r0.cell 3
        have ab := (lq8.at h4).2.1
        have af := lq8.frozen
        clear hv8 lq8 tq8 sv8 po8 off8 b8 k8 r0 r2 rF bw8 cA fB g0 z6 e2 d6 f6 HLQ7 HTQ7 HPO7 HRW HTQA
        go_upto_region 11 with fail
        obtain ⟨v9, hv9⟩ : ∃ v, v8.setCell ⟨B, h * 9 + 1, none⟩ (.int .i64 s.qt) = v := ⟨_, rfl⟩
        have lq9 := (HLQ8.out).short h4 s.qt
        rw [hv9] at lq9 ⊢
        have tq9 : TQ w2.heap.size v9 (some ⟨g6, 0, none⟩) (n + 1) cy' (fun i => if i = n then p.host else tn i) B 4 A := by rw [← hv9]; exact ⟨(HTQ8.out).1.keep (set_keep _ _ (HTQ8.out).2.1), (HTQ8.out).2.1, (HTQ8.out).2.2⟩
        have po9 : PO w2.heap.size v9 x ((L h).n + 1) cx (pushF (L h).f (L h).n p) := by rw [← hv9]; exact (HPO8.out).keep (set_keep _ _ HXB.out)
        have HF9 : Hid (Sits v9 F #[.slice x ((L h).n + 1) cx, .int .i64 (pushL (L h).f (L h).n 40 p)] 56) := by show Sits _ _ _ _; rw [← hv9]; exact Sits.other HF8.out hFB _
        have HSV9 : Hid (Sits v9 V (shCells s (some ⟨B, 0, none⟩) 4 cl (some ⟨g6, 0, none⟩) (n + 1) cy') 31) := by show Sits _ _ _ _; rw [← hv9]; exact Sits.other HSV8.out hVB _
        have HR29 : Hid (Sits v9 (w.heap.size + 1 + 1) shZero 31) := by show Sits _ _ _ _; rw [← hv9]; exact Sits.other HR28.out (by omega) _
        have HBW9 : Hid (Below w.heap.size w v9) := by show Below _ _ _; rw [← hv9]; exact (HBW8.out).setCell (show w.heap.size ≤ B by omega) _
        obtain ⟨lq10, tq10⟩ := put_both h4 lq9 tq9 po9 HXB.out HXA.out HOF8.out
        have cA := (lq9.at h4).1
        have fB := lq9.frozen
        have g0 := Sits.cell HF9.out 0
        have LE0 : Hid (LQ w2.heap.size (v9.setCell ⟨B, h * 9, none⟩ (.slice x ((L h).n + 1) cx)) B 4 _ _ _) := lq10
        have TE0 : Hid (TQ w2.heap.size (v9.setCell ⟨B, h * 9, none⟩ (.slice x ((L h).n + 1) cx)) (some ⟨g6, 0, none⟩) (n + 1) cy' (fun i => if i = n then p.host else tn i) B 4 _) := tq10
        clear hv9 lq9 tq9 po9 x3 ab af lq10 tq10 HLQ8 HTQ8 HPO8
        go_upto_region 12 with fail
        obtain ⟨v10, hv10⟩ : ∃ v, v9.setCell ⟨B, h * 9, none⟩ (.slice x ((L h).n + 1) cx) = v := ⟨_, rfl⟩
        have LE := LE0
        have TE := TE0
        rw [hv10] at LE TE ⊢
        have SE : Hid (Sits v10 V (shCells s (some ⟨B, 0, none⟩) 4 cl (some ⟨g6, 0, none⟩) (n + 1) cy') 31) := by show Sits _ _ _ _; rw [← hv10]; exact Sits.other HSV9.out (by omega) _
        have RE : Hid (Sits v10 (w.heap.size + 1 + 1) shZero 31) := by show Sits _ _ _ _; rw [← hv10]; exact Sits.other HR29.out (by omega) _
        have BE : Hid (Below w.heap.size w v10) := by show Below _ _ _; rw [← hv10]; exact (HBW9.out).setCell (show w.heap.size ≤ B by omega) _
        have HLL : Hid ((fun i => if i = h then (⟨(L h).n + 1, pushF (L h).f (L h).n p, ((fun i => if i = h then (⟨(L h).n, (L h).f, s.qt, (L h).cd⟩ : Ln) else L i) h).sh, ((fun i => if i = h then (⟨(L h).n, (L h).f, s.qt, (L h).cd⟩ : Ln) else L i) h).cd⟩ : Ln) else (fun i => if i = h then (⟨(L h).n, (L h).f, s.qt, (L h).cd⟩ : Ln) else L i) i) = shpL s L p h) := by
          show _ = _
          rw [← HL2.out]
          funext i
          by_cases e : i = h
          · have hz := HZ.out
            simp [e, hz]
          · simp [e]
        have HTT : Hid ((List.range (n + 1)).map (fun i => if i = n then p.host else tn i) = shpT L ((List.range n).map tn) h) := by show _ = _; unfold shpT; rw [if_pos HZ.out, map_snoc, HHH.out]
        obtain ⟨tn9, htn9⟩ : ∃ f : Nat → Int, (fun i => if i = n then p.host else tn i) = f := ⟨_, rfl⟩
        rw [htn9] at TE HTT
        clear LE0 TE0 hv10 cA fB g0 htn9
        have d0 := Sits.cell SE.out 0
        have d1 := Sits.cell SE.out 1
        have d2 := Sits.cell SE.out 2
        have d3 := Sits.cell SE.out 3
        have d4 := Sits.cell SE.out 4
        have d5 := Sits.cell SE.out 5
        have d6 := Sits.cell SE.out 6
        have r2_0 := Sits.cell RE.out 0
        have r2_1 := Sits.cell RE.out 1
        have r2_2 := Sits.cell RE.out 2
        have r2_3 := Sits.cell RE.out 3
        have r2_4 := Sits.cell RE.out 4
        have r2_5 := Sits.cell RE.out 5
        have r2_6 := Sits.cell RE.out 6
        have rf := Sits.frozen RE.out
        go_wp2
        refine bodyPost_ret (ret_shb2 Try.results8 rfl rfl (((((((Sits.set RE.out 0 (.int .i64 s.rt)).set 1 (.int .i64 s.ov)).set 2 (.int .i64 s.nx)).set 3 (.int .i64 s.qt)).set 4 (.int .i64 s.lim)).set 5 (.slice (some ⟨B, 0, none⟩) 4 cl)).set 6 (.slice (some ⟨g6, 0, none⟩) (n + 1) cy'))) rfl ?_
        have h0 : w.heap.size + 1 + 1 ≤ w.heap.size + 1 + 1 := Nat.le_refl _
        have h1 : w.heap.size + 1 + 1 < w.heap.size + 1 + 1 + 1 := Nat.lt_succ_self _
        have c9 : Chg (w.heap.size + 1 + 1) (w.heap.size + 1 + 1 + 1) v10 _ := (chg_set (chg_set (chg_set (chg_set (chg_set (chg_set (chg_set (Chg.refl _ _ v10) h0 h1 0 (.int .i64 s.rt)) h0 h1 1 (.int .i64 s.ov)) h0 h1 2 (.int .i64 s.nx)) h0 h1 3 (.int .i64 s.qt)) h0 h1 4 (.int .i64 s.lim)) h0 h1 5 (.slice (some ⟨B, 0, none⟩) 4 cl)) h0 h1 6 (.slice (some ⟨g6, 0, none⟩) (n + 1) cy'))
        first
          | refine .inr ⟨HE.out, B, (fun i => if i = h then x else A i), (fun i => if i = h then cx else C i), cl, (some ⟨g6, 0, none⟩), (n + 1), cy', tn9, by rw [HYES.out], ?_, (TQ.chg TE.out c9 (by omega)).mono (by omega), ?_, by have := HN4.out; omega, c9.bel BE.out (by omega)⟩
          | refine .inr ⟨HE.out, B, (fun i => if i = h then x else A i), (fun i => if i = h then cx else C i), cl, (some ⟨g6, 0, none⟩), (n + 1), cy', by rw [HYES.out], ?_, tn9, (TQ.chg TE.out c9 (by omega)).mono (by omega), ?_, by have := HN4.out; omega, c9.bel BE.out (by omega)⟩
        · have : outL s L p = shpL s L p h := by unfold outL; rw [HYES.out, HHT.out]; rfl
          rw [this, ← HLL.out]; exact (LQ.chg LE.out c9 (by omega)).mono (by omega)
        · rw [HTT.out, HTS.out]; unfold outT; rw [HYES.out, HHT.out]; rfl

end Go.Proofs.Ytehlcekfccjahaa
