/-
  Whatever Shape and moment the law FnExactShapePop is given, it returns true and leaves all that lay as it was: the program's ShapePop answers as the specification's, in memory of its own; no condition.
-/
import Derived.Test.YtmjggolllijamaaRows
import Derived.WalkKit
import Derived.ProofKit
import Derived.OpenShut
import Derived.Test.YtmjggolllijamaaPopTail
import Derived.Test.YtmjggolllijamaaShapeMo
import Derived.Deep.RegionHeld3
import Derived.Deep.Cut
import Derived.Deep.Slices
import Derived.ShutString
import Derived.ChangeOld
import Derived.Below
namespace Go.Proofs.Ytmjggolllijamaa.fnExactShapePop
open Go.ChangeShapes Go.WideShapes Go.ChangeAt Go.RowKit
open Go.ChangeMaps (open_string shut_string)
set_option linter.unusedVariables false

theorem own : ownKnob Try.prog.godebug = none := by kernel_rfl
theorem laidOut : laidOutB Try.prog = true := by kernel_rfl
theorem cellsInt : Try.prog.cellsOf 3 = 1 := by kernel_rfl
theorem cellsCodel : Try.prog.cellsOf 97 = 7 := by kernel_rfl
theorem cellsBool : Try.prog.cellsOf 4 = 1 := by kernel_rfl
theorem cellsPkt : Try.prog.cellsOf 138 = 6 := by kernel_rfl
theorem cellsSlice : Try.prog.cellsOf 96 = 1 := by kernel_rfl
theorem cellsLine : Try.prog.cellsOf 99 = 9 := by kernel_rfl
theorem cellsLines : Try.prog.cellsOf 22 = 1 := by kernel_rfl
theorem cellsInts : Try.prog.cellsOf 23 = 1 := by kernel_rfl
theorem cellsShape : Try.prog.cellsOf 25 = 7 := by kernel_rfl

theorem two_boxes {v : World} {a b : Array Value} {t u : TypeId} : Sits ((v.alloc (.cells a t)).alloc (.cells b u)) v.heap.size a t ∧ Sits ((v.alloc (.cells a t)).alloc (.cells b u)) (v.heap.size + 1) b u ∧ Below v.heap.size v ((v.alloc (.cells a t)).alloc (.cells b u)) := ⟨(Sits.new _ _ _).alloc _, Sits.new' (by simp), ((Below.refl _ v).alloc (Nat.le_refl _) _).alloc (by simp) _⟩

set_option maxRecDepth 100000 in
set_option maxHeartbeats 20000000 in
theorem walk (s0 : Sh) (a0 : Option Addr) (N0 ca0 : Nat) (b0 : Option Addr) (n0 cb0 : Nat) (L0 : Nat → Ln) (tn0 : Nat → Int) (z1 : Int) (w1 : (-9223372036854775808 ≤ z1 ∧ z1 ≤ 9223372036854775807)) (w : World) (w0 : ShapeIn w s0 a0 N0 ca0 b0 n0 cb0 L0 tn0) :
    Calls Try.prog 3 #[shVal s0 a0 N0 ca0 b0 n0 cb0, .int .i64 z1] w fun e w' => e = .returned (.bool true) ∧ Below w.heap.size w w' := by
  obtain ⟨i0, i1, i2, i3, i4, n1, n2, n3, m1, m2, hlr, hrb⟩ := w0
  have hN : (N0 : Int) ≤ 9223372036854775807 := by unfold maxLen at n2; omega
  have hn : ∀ i, i < N0 → ((L0 i).n : Int) ≤ 9223372036854775807 := fun i hi => by have := n3 i hi; unfold maxLen at this; omega
  have hm : (n0 : Int) ≤ 9223372036854775807 := by unfold maxLen at m2; omega
  have HLR : Hid (LR w.heap.size w a0 N0 L0) := hlr
  have HRB : Hid (Row .i64 w b0 n0 tn0) := hrb
  have HNN : Hid (∀ i, i < N0 → ((L0 i).n : Int) ≤ 9223372036854775807) := hn
  clear i0 i1 i2 i3 i4 n1 n2 n3 m1 m2 hlr hrb hn
  obtain ⟨W0, hW0⟩ : ∃ W, w.alloc (.cells (shCells s0 a0 N0 ca0 b0 n0 cb0) 25) = W := ⟨_, rfl⟩
  have y0 : Sits W0 w.heap.size (shCells s0 a0 N0 ca0 b0 n0 cb0) 25 := by rw [← hW0]; exact Sits.new _ _ _
  have bb0 : Below w.heap.size w W0 := by rw [← hW0]; exact (Below.refl _ w).alloc (Nat.le_refl _) _
  have HW0 : Hid (w.alloc (.cells (shCells s0 a0 N0 ca0 b0 n0 cb0) 25) = W0) := hW0
  have HA : Hid (∀ W, Below W0.heap.size W0 W → Sits W w.heap.size (shCells s0 a0 N0 ca0 b0 n0 cb0) 25 ∧ Below w.heap.size w W) := fun W hW => ⟨y0.below hW y0.lt, bb0.trans (hW.mono bb0.size)⟩
  have x0 := y0.cell 0
  have x1 := y0.cell 1
  have x2 := y0.cell 2
  have x3 := y0.cell 3
  have x4 := y0.cell 4
  have x5 := y0.cell 5
  have x6 := y0.cell 6
  have hs0 : w.heap.size + 1 ≤ W0.heap.size := y0.lt
  clear y0 bb0 hW0
  go_enter Try.func3, Try.ntmps3
  go_upto_region 2 with fail
  rw [HW0.out]
  clear HW0
  have hb00 : Below w.heap.size w W0 := (HA.out _ (Below.refl _ _)).2
  go_upto_region 3 with (go_at_call 6; refine (szShape_any s0 a0 N0 ca0 b0 n0 cb0 L0 _ hN HNN.out hm (LR.go HLR.out hb00 hb00.size)).mono ?_; rintro e w1 ⟨⟨r, rfl, r0, r1, hr⟩, b1⟩; have HR : Hid (0 ≤ r → (N0 : Int) + (cntF L0 N0 : Int) + n0 ≤ 1048576) := hr; have HB1 : Hid (Below W0.heap.size W0 w1) := b1; clear hr b1)
  clear x0 x1 x2 x3 x4 x5 x6 hN hm HNN hb00
  by_cases hneg : r < 0
  · go_wp2
    go_ret
    exact ⟨rfl, (HA.out _ HB1.out).2⟩
  · have hsz := HR.out (by omega)
    have HC : Hid (cntF L0 N0 ≤ 1048576) := by show _ ≤ _; omega
    have H0 : Hid (N0 ≤ 1048576) := by show _ ≤ _; omega
    have H1 : Hid (n0 ≤ 1048576) := by show _ ≤ _; omega
    have HN : Hid (∀ i, i < N0 → (L0 i).n ≤ 1048576) := fun i hi => Nat.le_trans (cntF_le L0 hi) HC.out
    clear hsz HR
    obtain ⟨S1, N1, L1, T1, p1, ok, hP⟩ := PopIs.total s0 N0 L0 ((List.range n0).map tn0) z1
    have HS : Hid (∀ (W : World) (B : Nat) (d : Option Addr), LR W.heap.size W (some ⟨B, 0, none⟩) N0 L0 → Row .i64 W d n0 tn0 → Calls Try.prog 7 #[shVal s0 (some ⟨B, 0, none⟩) N0 N0 d n0 n0, .int .i64 z1] W fun e w' => ∃ (x : Option Addr) (cl : Nat) (y : Option Addr) (cy : Nat), e = .returned (.tuple #[shVal S1 x N1 cl y T1.length cy, p1.val, .bool ok]) ∧ MO0 W.heap.size w' x N1 L1 y T1.length (seqT T1) ∧ Below W.heap.size W w') := fun W B d h1 h2 => by
      refine (sshapePop_any s0 (some ⟨B, 0, none⟩) N0 N0 d n0 n0 L0 tn0 z1 W H0.out HC.out H1.out h1 h2).mono ?_
      rintro e w' ⟨S2, N2, L2, T2, p2, ok2, x, cl, y, cy, hP2, rfl, hm, hb⟩
      obtain ⟨rfl, rfl, rfl, rfl, rfl, rfl⟩ := PopIs.uniq hP hP2
      exact ⟨x, cl, y, cy, rfl, hm, hb⟩
    have HI : Hid (∀ (W : World) (B : Nat) (d : Option Addr), LR W.heap.size W (some ⟨B, 0, none⟩) N0 L0 → Row .i64 W d n0 tn0 → Calls Try.prog 9 #[shVal s0 (some ⟨B, 0, none⟩) N0 N0 d n0 n0, .int .i64 z1] W fun e w' => ∃ (x : Option Addr) (cl : Nat) (y : Option Addr) (cy : Nat), e = .returned (.tuple #[shVal S1 x N1 cl y T1.length cy, p1.val, .bool ok]) ∧ MO0 W.heap.size w' x N1 L1 y T1.length (seqT T1) ∧ Below W.heap.size W w') := fun W B d h1 h2 => by
      refine (ishapePop_any s0 (some ⟨B, 0, none⟩) N0 N0 d n0 n0 L0 tn0 z1 W H0.out HC.out H1.out h1 h2).mono ?_
      rintro e w' ⟨S2, N2, L2, T2, p2, ok2, x, cl, y, cy, hP2, rfl, hm, hb⟩
      obtain ⟨rfl, rfl, rfl, rfl, rfl, rfl⟩ := PopIs.uniq hP hP2
      exact ⟨x, cl, y, cy, rfl, hm, hb⟩
    have hbd := hP.bd
    have HN1 : Hid (N1 ≤ 1048576) := by show _ ≤ _; omega
    have HC1 : Hid (cntF L1 N1 ≤ 1048576) := hbd.2.1
    have HT1 : Hid (T1.length ≤ 1048576) := hbd.2.2
    have HL1 : Hid (∀ i, i < N1 → (L1 i).n ≤ 1048576) := fun i hi => Nat.le_trans (cntF_le L1 hi) HC1.out
    obtain ⟨Q0, hQ0⟩ : ∃ q, upAt L0 1 N0 + (n0 : Int) = q := ⟨_, rfl⟩
    obtain ⟨Q1, hQ1⟩ : ∃ q, upAt L1 1 N1 + (T1.length : Int) = q := ⟨_, rfl⟩
    have hq0 : ¬ Q0 < 0 := by rw [← hQ0]; unfold upAt; omega
    have hq1 : ¬ Q1 < 0 := by rw [← hQ1]; unfold upAt; omega
    have HQ0 : Hid (upAt L0 1 N0 + (n0 : Int) = Q0) := hQ0
    have HQ1 : Hid (upAt L1 1 N1 + (T1.length : Int) = Q1) := hQ1
    clear hP hbd hQ0 hQ1
    go_upto_region 5 with fail
    have HX : Hid (Below W0.heap.size W0 w1) := HB1.out
    have hz1 := (HB1.out).size
    clear HB1
    have sa := (HA.out _ HX.out).1
    have hbw : Below w.heap.size w w1 := (HA.out _ HX.out).2
    have f0 := sa.cell 0
    have f1 := sa.cell 1
    have f2 := sa.cell 2
    have f3 := sa.cell 3
    have f4 := sa.cell 4
    have f5 := sa.cell 5
    have f6 := sa.cell 6
    go_upto_region 6 with (first | (go_at_call 8; refine (toShape_any s0 a0 N0 ca0 b0 n0 cb0 L0 tn0 _ H0.out HN.out H1.out (LR.go HLR.out hbw hbw.size) (Row.below HRB.out hbw)).mono ?_; rintro o v5 ⟨B5, A5, d5, rfl, so5, b7⟩; have HSO5 : Hid (SO w1.heap.size v5 B5 A5 (fun i => (L0 i).n) N0 L0 d5 n0 tn0) := so5; have hz5 := b7.size; replace HX : Hid (Below W0.heap.size W0 v5) := (HX.out).trans (b7.mono (HX.out).size); clear so5 b7) | (go_at_call 7; refine (HS.out _ B5 d5 (MO0.of_so HSO5.out).lr (MO0.of_so HSO5.out).row).mono ?_; rintro o u5 ⟨x5, c5, y5, cy5, rfl, mk5, b8⟩; have HMK5 : Hid (MO0 v5.heap.size u5 x5 N1 L1 y5 T1.length (seqT T1)) := mk5; have hy5 := b8.size; replace HX : Hid (Below W0.heap.size W0 u5) := (HX.out).trans (b8.mono (HX.out).size); clear mk5 b8))
    clear sa hbw
    clear f0 f1 f2 f3 f4 f5 f6
    obtain ⟨V5, hV5⟩ : ∃ V, u5.heap.size = V := ⟨_, rfl⟩
    obtain ⟨u6, hAl⟩ : ∃ x, (u5.alloc (.cells (shCells S1 x5 N1 c5 y5 T1.length cy5) 29)).alloc (.cells (pkCells p1) 31) = x := ⟨_, rfl⟩
    have tb := two_boxes (v := u5) (a := (shCells S1 x5 N1 c5 y5 T1.length cy5)) (b := pkCells p1) (t := 29) (u := 31)
    have mx : UO v5.heap.size u5.heap.size ((u5.alloc (.cells (shCells S1 x5 N1 c5 y5 T1.length cy5) 29)).alloc (.cells (pkCells p1) 31)) x5 N1 L1 y5 T1.length (seqT T1) := UO.below (UO.of HMK5.out) tb.2.2
    rw [hAl, hV5] at tb mx
    rw [hV5] at hy5
    have gg := tb.1
    have gp := tb.2.1
    have b8 := tb.2.2
    clear tb
    have hx5 : V5 + 1 < u6.heap.size := gp.lt
    first | rw [hAl, hV5] | rw [hAl]
    have b8' : Below u5.heap.size u5 u6 := by rw [hV5]; exact b8
    clear b8
    have _hc := 0; replace HX : Hid (Below W0.heap.size W0 u6) := (HX.out).trans (b8'.mono (HX.out).size)
    have HWb : Hid (Sits u6 V5 (shCells S1 x5 N1 c5 y5 T1.length cy5) 29) := gg
    have HWp : Hid (Sits u6 (V5 + 1) (pkCells p1) 31) := gp
    have HWm : Hid (UO v5.heap.size V5 u6 x5 N1 L1 y5 T1.length (seqT T1)) := mx
    clear gg gp mx b8' hAl hV5 HMK5 _hc
    have sa := (HA.out _ HX.out).1
    have hbw : Below w.heap.size w u6 := (HA.out _ HX.out).2
    have f0 := sa.cell 0
    have f1 := sa.cell 1
    have f2 := sa.cell 2
    have f3 := sa.cell 3
    have f4 := sa.cell 4
    have f5 := sa.cell 5
    have f6 := sa.cell 6
    go_upto_region 7 with (go_at_call 8; refine (toShape_any s0 a0 N0 ca0 b0 n0 cb0 L0 tn0 _ H0.out HN.out H1.out (LR.go HLR.out hbw hbw.size) (Row.below HRB.out hbw)).mono ?_; rintro o v7 ⟨B7, A7, d7, rfl, so7, b7⟩; have HSO7 : Hid (SO u6.heap.size v7 B7 A7 (fun i => (L0 i).n) N0 L0 d7 n0 tn0) := so7; have hz7 := b7.size; replace HX : Hid (Below W0.heap.size W0 v7) := (HX.out).trans (b7.mono (HX.out).size); replace HWb : Hid (Sits v7 V5 (shCells S1 x5 N1 c5 y5 T1.length cy5) 29) := Sits.below HWb.out b7 (Sits.lt HWb.out); replace HWp : Hid (Sits v7 (V5 + 1) (pkCells p1) 31) := Sits.below HWp.out b7 (Sits.lt HWp.out); replace HWm : Hid (UO v5.heap.size V5 v7 x5 N1 L1 y5 T1.length (seqT T1)) := UO.below HWm.out b7; clear so7 b7)
    clear sa hbw
    clear f0 f1 f2 f3 f4 f5 f6
    obtain ⟨V7, hV7⟩ : ∃ V, v7.heap.size = V := ⟨_, rfl⟩
    obtain ⟨wb, hAl⟩ : ∃ x, v7.alloc (.cells (shCells s0 (some ⟨B7, 0, none⟩) N0 N0 d7 n0 n0) 29) = x := ⟨_, rfl⟩
    have gg : Sits wb V7 (shCells s0 (some ⟨B7, 0, none⟩) N0 N0 d7 n0 n0) 29 := by rw [← hAl]; exact Sits.new' hV7
    have b4a : Below v7.heap.size v7 wb := by rw [← hAl]; exact (Below.refl _ _).alloc (Nat.le_refl _) _
    have mx : UO u6.heap.size v7.heap.size wb (some ⟨B7, 0, none⟩) N0 L0 d7 n0 tn0 := UO.below (UO.of (MO0.of_so HSO7.out)) b4a
    rw [hV7] at mx hz7
    have hz7b : V7 < wb.heap.size := gg.lt
    rw [hAl, hV7]
    have _hc := 0; replace HX : Hid (Below W0.heap.size W0 wb) := (HX.out).trans (b4a.mono (HX.out).size); replace HWb : Hid (Sits wb V5 (shCells S1 x5 N1 c5 y5 T1.length cy5) 29) := Sits.below HWb.out b4a (Sits.lt HWb.out); replace HWp : Hid (Sits wb (V5 + 1) (pkCells p1) 31) := Sits.below HWp.out b4a (Sits.lt HWp.out); replace HWm : Hid (UO v5.heap.size V5 wb x5 N1 L1 y5 T1.length (seqT T1)) := UO.below HWm.out b4a
    have HXb : Hid (Sits wb V7 (shCells s0 (some ⟨B7, 0, none⟩) N0 N0 d7 n0 n0) 29) := gg
    have HXm : Hid (UO u6.heap.size V7 wb (some ⟨B7, 0, none⟩) N0 L0 d7 n0 tn0) := mx
    clear gg mx b4a hAl hV7 HSO7 HSO5 _hc
    have f0 := Sits.cell HXb.out 0
    have f1 := Sits.cell HXb.out 1
    have f2 := Sits.cell HXb.out 2
    have f3 := Sits.cell HXb.out 3
    have f4 := Sits.cell HXb.out 4
    have f5 := Sits.cell HXb.out 5
    have f6 := Sits.cell HXb.out 6
    go_upto_region 8 with (go_at_call 9; refine (HI.out _ B7 d7 (UO.mo0 HXm.out).lr (UO.mo0 HXm.out).row).mono ?_; rintro o u8 ⟨x8, c8, y8, cy8, rfl, mk8, b8⟩; have HMK8 : Hid (MO0 wb.heap.size u8 x8 N1 L1 y8 T1.length (seqT T1)) := mk8; have hy8 := b8.size; replace HX : Hid (Below W0.heap.size W0 u8) := (HX.out).trans (b8.mono (HX.out).size); replace HWb : Hid (Sits u8 V5 (shCells S1 x5 N1 c5 y5 T1.length cy5) 29) := Sits.below HWb.out b8 (Sits.lt HWb.out); replace HWp : Hid (Sits u8 (V5 + 1) (pkCells p1) 31) := Sits.below HWp.out b8 (Sits.lt HWp.out); replace HWm : Hid (UO v5.heap.size V5 u8 x5 N1 L1 y5 T1.length (seqT T1)) := UO.below HWm.out b8; replace HXb : Hid (Sits u8 V7 (shCells s0 (some ⟨B7, 0, none⟩) N0 N0 d7 n0 n0) 29) := Sits.below HXb.out b8 (Sits.lt HXb.out); replace HXm : Hid (UO u6.heap.size V7 u8 (some ⟨B7, 0, none⟩) N0 L0 d7 n0 tn0) := UO.below HXm.out b8; clear mk8 b8)
    clear f0 f1 f2 f3 f4 f5 f6
    obtain ⟨V8, hV8⟩ : ∃ V, u8.heap.size = V := ⟨_, rfl⟩
    obtain ⟨u8', hAl⟩ : ∃ x, (u8.alloc (.cells (shCells S1 x8 N1 c8 y8 T1.length cy8) 29)).alloc (.cells (pkCells p1) 31) = x := ⟨_, rfl⟩
    have tb := two_boxes (v := u8) (a := (shCells S1 x8 N1 c8 y8 T1.length cy8)) (b := pkCells p1) (t := 29) (u := 31)
    have mx : UO wb.heap.size u8.heap.size ((u8.alloc (.cells (shCells S1 x8 N1 c8 y8 T1.length cy8) 29)).alloc (.cells (pkCells p1) 31)) x8 N1 L1 y8 T1.length (seqT T1) := UO.below (UO.of HMK8.out) tb.2.2
    rw [hAl, hV8] at tb mx
    rw [hV8] at hy8
    have gg := tb.1
    have gp := tb.2.1
    have b8 := tb.2.2
    clear tb
    have hx8 : V8 + 1 < u8'.heap.size := gp.lt
    first | rw [hAl, hV8] | rw [hAl]
    have b8' : Below u8.heap.size u8 u8' := by rw [hV8]; exact b8
    clear b8
    have _hc := 0; replace HX : Hid (Below W0.heap.size W0 u8') := (HX.out).trans (b8'.mono (HX.out).size); replace HWb : Hid (Sits u8' V5 (shCells S1 x5 N1 c5 y5 T1.length cy5) 29) := Sits.below HWb.out b8' (Sits.lt HWb.out); replace HWp : Hid (Sits u8' (V5 + 1) (pkCells p1) 31) := Sits.below HWp.out b8' (Sits.lt HWp.out); replace HWm : Hid (UO v5.heap.size V5 u8' x5 N1 L1 y5 T1.length (seqT T1)) := UO.below HWm.out b8'; replace HXb : Hid (Sits u8' V7 (shCells s0 (some ⟨B7, 0, none⟩) N0 N0 d7 n0 n0) 29) := Sits.below HXb.out b8' (Sits.lt HXb.out); replace HXm : Hid (UO u6.heap.size V7 u8' (some ⟨B7, 0, none⟩) N0 L0 d7 n0 tn0) := UO.below HXm.out b8'
    have HGb : Hid (Sits u8' V8 (shCells S1 x8 N1 c8 y8 T1.length cy8) 29) := gg
    have HGp : Hid (Sits u8' (V8 + 1) (pkCells p1) 31) := gp
    have HGm : Hid (UO wb.heap.size V8 u8' x8 N1 L1 y8 T1.length (seqT T1)) := mx
    clear gg gp mx b8' hAl hV8 HMK8 _hc
    cases ok
    case false =>
      have g0 := Sits.cell HGb.out 0
      have g1 := Sits.cell HGb.out 1
      have g2 := Sits.cell HGb.out 2
      have g3 := Sits.cell HGb.out 3
      have g4 := Sits.cell HGb.out 4
      have g5 := Sits.cell HGb.out 5
      have g6 := Sits.cell HGb.out 6
      have h0 := Sits.cell HWb.out 0
      have h1 := Sits.cell HWb.out 1
      have h2 := Sits.cell HWb.out 2
      have h3 := Sits.cell HWb.out 3
      have h4 := Sits.cell HWb.out 4
      have h5 := Sits.cell HWb.out 5
      have h6 := Sits.cell HWb.out 6
      go_upto_region 10 with (first | (go_at_call 10; refine (eqShape_yes S1 x8 x5 N1 c8 c5 y8 y5 T1.length cy8 cy5 L1 (seqT T1) _ HN1.out HL1.out HT1.out (UO.mo0 HGm.out).lr (UO.mo0 HWm.out).lr (UO.mo0 HGm.out).row (UO.mo0 HWm.out).row).mono ?_; rintro o q1a ⟨rfl, bq⟩; have hz_q1 := bq.size; replace HX : Hid (Below W0.heap.size W0 q1a) := (HX.out).trans (bq.mono (HX.out).size); replace HWb : Hid (Sits q1a V5 (shCells S1 x5 N1 c5 y5 T1.length cy5) 29) := Sits.below HWb.out bq (Sits.lt HWb.out); replace HWp : Hid (Sits q1a (V5 + 1) (pkCells p1) 31) := Sits.below HWp.out bq (Sits.lt HWp.out); replace HWm : Hid (UO v5.heap.size V5 q1a x5 N1 L1 y5 T1.length (seqT T1)) := UO.below HWm.out bq; replace HXb : Hid (Sits q1a V7 (shCells s0 (some ⟨B7, 0, none⟩) N0 N0 d7 n0 n0) 29) := Sits.below HXb.out bq (Sits.lt HXb.out); replace HXm : Hid (UO u6.heap.size V7 q1a (some ⟨B7, 0, none⟩) N0 L0 d7 n0 tn0) := UO.below HXm.out bq; replace HGb : Hid (Sits q1a V8 (shCells S1 x8 N1 c8 y8 T1.length cy8) 29) := Sits.below HGb.out bq (Sits.lt HGb.out); replace HGp : Hid (Sits q1a (V8 + 1) (pkCells p1) 31) := Sits.below HGp.out bq (Sits.lt HGp.out); replace HGm : Hid (UO wb.heap.size V8 q1a x8 N1 L1 y8 T1.length (seqT T1)) := UO.below HGm.out bq; clear g0 h0 g1 h1 g2 h2 g3 h3 g4 h4 g5 h5 g6 h6; have g0 := Sits.cell HGp.out 0; have g1 := Sits.cell HGp.out 1; have g2 := Sits.cell HGp.out 2; have g3 := Sits.cell HGp.out 3; have g4 := Sits.cell HGp.out 4; have g5 := Sits.cell HGp.out 5; have h0 := Sits.cell HWp.out 0; have h1 := Sits.cell HWp.out 1; have h2 := Sits.cell HWp.out 2; have h3 := Sits.cell HWp.out 3; have h4 := Sits.cell HWp.out 4; have h5 := Sits.cell HWp.out 5; clear bq) | (go_at_call 11; refine (eqPkt_yes p1 _).mono ?_; rintro o q1 ⟨rfl, k3⟩; have bq := k3.1; have hy_q1 := bq.size; replace HX : Hid (Below W0.heap.size W0 q1) := (HX.out).trans (bq.mono (HX.out).size); replace HWb : Hid (Sits q1 V5 (shCells S1 x5 N1 c5 y5 T1.length cy5) 29) := Sits.below HWb.out bq (Sits.lt HWb.out); replace HWp : Hid (Sits q1 (V5 + 1) (pkCells p1) 31) := Sits.below HWp.out bq (Sits.lt HWp.out); replace HWm : Hid (UO v5.heap.size V5 q1 x5 N1 L1 y5 T1.length (seqT T1)) := UO.below HWm.out bq; replace HXb : Hid (Sits q1 V7 (shCells s0 (some ⟨B7, 0, none⟩) N0 N0 d7 n0 n0) 29) := Sits.below HXb.out bq (Sits.lt HXb.out); replace HXm : Hid (UO u6.heap.size V7 q1 (some ⟨B7, 0, none⟩) N0 L0 d7 n0 tn0) := UO.below HXm.out bq; replace HGb : Hid (Sits q1 V8 (shCells S1 x8 N1 c8 y8 T1.length cy8) 29) := Sits.below HGb.out bq (Sits.lt HGb.out); replace HGp : Hid (Sits q1 (V8 + 1) (pkCells p1) 31) := Sits.below HGp.out bq (Sits.lt HGp.out); replace HGm : Hid (UO wb.heap.size V8 q1 x8 N1 L1 y8 T1.length (seqT T1)) := UO.below HGm.out bq; clear bq k3))
      clear g0 g1 g2 g3 g4 g5 h0 h1 h2 h3 h4 h5
      have hSB : Hid (∀ w', Below q1.heap.size q1 w' → ((w'.cell? ⟨V7, 0, none⟩ = some (.int .i64 s0.rt) ∧ w'.cell? ⟨V7, 1, none⟩ = some (.int .i64 s0.ov) ∧ w'.cell? ⟨V7, 2, none⟩ = some (.int .i64 s0.nx) ∧ w'.cell? ⟨V7, 3, none⟩ = some (.int .i64 s0.qt) ∧ w'.cell? ⟨V7, 4, none⟩ = some (.int .i64 s0.lim) ∧ w'.cell? ⟨V7, 5, none⟩ = some (.slice (some ⟨B7, 0, none⟩) N0 N0) ∧ w'.cell? ⟨V7, 6, none⟩ = some (.slice d7 n0 n0)) ∧ (w'.cell? ⟨w.heap.size, 0, none⟩ = some (.int .i64 s0.rt) ∧ w'.cell? ⟨w.heap.size, 1, none⟩ = some (.int .i64 s0.ov) ∧ w'.cell? ⟨w.heap.size, 2, none⟩ = some (.int .i64 s0.nx) ∧ w'.cell? ⟨w.heap.size, 3, none⟩ = some (.int .i64 s0.qt) ∧ w'.cell? ⟨w.heap.size, 4, none⟩ = some (.int .i64 s0.lim) ∧ w'.cell? ⟨w.heap.size, 5, none⟩ = some (.slice a0 N0 ca0) ∧ w'.cell? ⟨w.heap.size, 6, none⟩ = some (.slice b0 n0 cb0)))) := fun w' hw' => by
        have e1 := Sits.below HXb.out hw' (Sits.lt HXb.out)
        obtain ⟨e2, _⟩ := HA.out _ ((HX.out).trans (hw'.mono (HX.out).size))
        exact ⟨⟨e1.cell 0, e1.cell 1, e1.cell 2, e1.cell 3, e1.cell 4, e1.cell 5, e1.cell 6⟩, ⟨e2.cell 0, e2.cell 1, e2.cell 2, e2.cell 3, e2.cell 4, e2.cell 5, e2.cell 6⟩⟩
      have BD : Below w.heap.size w q1.drew := ((HA.out _ HX.out).2).drew
      have HMD : Hid (UO u6.heap.size V7 q1.drew (some ⟨B7, 0, none⟩) N0 L0 d7 n0 tn0) := UO.below HXm.out ((Below.refl _ _).drew)
      set_option maxRecDepth 100000 in go_region_held3 (fun w' => ((w'.cell? ⟨V7, 0, none⟩ = some (.int .i64 s0.rt) ∧ w'.cell? ⟨V7, 1, none⟩ = some (.int .i64 s0.ov) ∧ w'.cell? ⟨V7, 2, none⟩ = some (.int .i64 s0.nx) ∧ w'.cell? ⟨V7, 3, none⟩ = some (.int .i64 s0.qt) ∧ w'.cell? ⟨V7, 4, none⟩ = some (.int .i64 s0.lim) ∧ w'.cell? ⟨V7, 5, none⟩ = some (.slice (some ⟨B7, 0, none⟩) N0 N0) ∧ w'.cell? ⟨V7, 6, none⟩ = some (.slice d7 n0 n0)) ∧ (w'.cell? ⟨w.heap.size, 0, none⟩ = some (.int .i64 s0.rt) ∧ w'.cell? ⟨w.heap.size, 1, none⟩ = some (.int .i64 s0.ov) ∧ w'.cell? ⟨w.heap.size, 2, none⟩ = some (.int .i64 s0.nx) ∧ w'.cell? ⟨w.heap.size, 3, none⟩ = some (.int .i64 s0.qt) ∧ w'.cell? ⟨w.heap.size, 4, none⟩ = some (.int .i64 s0.lim) ∧ w'.cell? ⟨w.heap.size, 5, none⟩ = some (.slice a0 N0 ca0) ∧ w'.cell? ⟨w.heap.size, 6, none⟩ = some (.slice b0 n0 cb0)))) (first | exact hSB.out _ ((Below.refl _ _).drew) | exact hSB.out _ ((Below.refl _ q1).drew.trans b7) | exact hSB.out _ (((Below.refl _ q1).drew.trans b7).trans (b8.mono b7.size))) (first | (go_at_call 8; refine (toShape_any s0 a0 N0 ca0 b0 n0 cb0 L0 tn0 _ H0.out HN.out H1.out (LR.go HLR.out BD (BD).size) (Row.below HRB.out BD)).mono ?_; rintro o w7 ⟨B9, A9, d9, rfl, so7, b7⟩) | (go_at_call 10; refine (eqShape_yes s0 (some ⟨B7, 0, none⟩) (some ⟨B9, 0, none⟩) N0 N0 N0 d7 d9 n0 n0 n0 L0 tn0 _ H0.out HN.out H1.out (UO.mo0 (UO.below HMD.out b7)).lr (MO0.lr (MO0.of_so so7)) (UO.mo0 (UO.below HMD.out b7)).row so7.row).mono ?_; rintro o w8 ⟨rfl, b8⟩))
      have bq : Below q1.heap.size q1 w8 := ((Below.refl _ q1).drew.trans b7).trans (b8.mono b7.size)
      have hz_w8 := bq.size; replace HX : Hid (Below W0.heap.size W0 w8) := (HX.out).trans (bq.mono (HX.out).size); replace HWb : Hid (Sits w8 V5 (shCells S1 x5 N1 c5 y5 T1.length cy5) 29) := Sits.below HWb.out bq (Sits.lt HWb.out); replace HWp : Hid (Sits w8 (V5 + 1) (pkCells p1) 31) := Sits.below HWp.out bq (Sits.lt HWp.out); replace HWm : Hid (UO v5.heap.size V5 w8 x5 N1 L1 y5 T1.length (seqT T1)) := UO.below HWm.out bq; replace HXb : Hid (Sits w8 V7 (shCells s0 (some ⟨B7, 0, none⟩) N0 N0 d7 n0 n0) 29) := Sits.below HXb.out bq (Sits.lt HXb.out); replace HXm : Hid (UO u6.heap.size V7 w8 (some ⟨B7, 0, none⟩) N0 L0 d7 n0 tn0) := UO.below HXm.out bq; replace HGb : Hid (Sits w8 V8 (shCells S1 x8 N1 c8 y8 T1.length cy8) 29) := Sits.below HGb.out bq (Sits.lt HGb.out); replace HGp : Hid (Sits w8 (V8 + 1) (pkCells p1) 31) := Sits.below HGp.out bq (Sits.lt HGp.out); replace HGm : Hid (UO wb.heap.size V8 w8 x8 N1 L1 y8 T1.length (seqT T1)) := UO.below HGm.out bq
      clear bq b7 b8 so7 hSB BD HMD
      go_upto_region 13 with fail
      have g0 := Sits.cell HXb.out 0
      have g1 := Sits.cell HXb.out 1
      have g2 := Sits.cell HXb.out 2
      have g3 := Sits.cell HXb.out 3
      have g4 := Sits.cell HXb.out 4
      have g5 := Sits.cell HXb.out 5
      have g6 := Sits.cell HXb.out 6
      go_upto_region 14 with (go_at_call 12; refine (markShape_uo u6.heap.size V7 s0 (some ⟨B7, 0, none⟩) N0 N0 d7 n0 n0 L0 tn0 1 _ HXm.out H0.out HC.out H1.out (by omega) (by omega)).mono ?_; rintro o w9 ⟨rfl, mm, cc⟩; rw [HQ0.out]; have hz_w9 := cc.size; replace HX : Hid (Below W0.heap.size W0 w9) := Chg.bel cc HX.out (by omega); replace HWb : Hid (Sits w9 V5 (shCells S1 x5 N1 c5 y5 T1.length cy5) 29) := Sits.chg HWb.out cc (.inl (by omega)); replace HWp : Hid (Sits w9 (V5 + 1) (pkCells p1) 31) := Sits.chg HWp.out cc (.inl (by omega)); replace HWm : Hid (UO v5.heap.size V5 w9 x5 N1 L1 y5 T1.length (seqT T1)) := UO.chg HWm.out cc (.inr (by omega)); replace HXb : Hid (Sits w9 V7 (shCells s0 (some ⟨B7, 0, none⟩) N0 N0 d7 n0 n0) 29) := Sits.chg HXb.out cc (.inr (by omega)); replace HGb : Hid (Sits w9 V8 (shCells S1 x8 N1 c8 y8 T1.length cy8) 29) := Sits.chg HGb.out cc (.inr (by omega)); replace HGp : Hid (Sits w9 (V8 + 1) (pkCells p1) 31) := Sits.chg HGp.out cc (.inr (by omega)); replace HGm : Hid (UO wb.heap.size V8 w9 x8 N1 L1 y8 T1.length (seqT T1)) := UO.chg HGm.out cc (.inl (by omega)); clear mm cc)
      clear g0 g1 g2 g3 g4 g5 g6
      clear HXm HXb
      have g0 := Sits.cell HGb.out 0
      have g1 := Sits.cell HGb.out 1
      have g2 := Sits.cell HGb.out 2
      have g3 := Sits.cell HGb.out 3
      have g4 := Sits.cell HGb.out 4
      have g5 := Sits.cell HGb.out 5
      have g6 := Sits.cell HGb.out 6
      have h0 := Sits.cell HWb.out 0
      have h1 := Sits.cell HWb.out 1
      have h2 := Sits.cell HWb.out 2
      have h3 := Sits.cell HWb.out 3
      have h4 := Sits.cell HWb.out 4
      have h5 := Sits.cell HWb.out 5
      have h6 := Sits.cell HWb.out 6
      go_upto_region 17 with (first | (go_at_call 10; refine (eqShape_yes S1 x8 x5 N1 c8 c5 y8 y5 T1.length cy8 cy5 L1 (seqT T1) _ HN1.out HL1.out HT1.out (UO.mo0 HGm.out).lr (UO.mo0 HWm.out).lr (UO.mo0 HGm.out).row (UO.mo0 HWm.out).row).mono ?_; rintro o q2a ⟨rfl, bq⟩; have hz_q2 := bq.size; replace HX : Hid (Below W0.heap.size W0 q2a) := (HX.out).trans (bq.mono (HX.out).size); replace HWb : Hid (Sits q2a V5 (shCells S1 x5 N1 c5 y5 T1.length cy5) 29) := Sits.below HWb.out bq (Sits.lt HWb.out); replace HWp : Hid (Sits q2a (V5 + 1) (pkCells p1) 31) := Sits.below HWp.out bq (Sits.lt HWp.out); replace HWm : Hid (UO v5.heap.size V5 q2a x5 N1 L1 y5 T1.length (seqT T1)) := UO.below HWm.out bq; replace HGb : Hid (Sits q2a V8 (shCells S1 x8 N1 c8 y8 T1.length cy8) 29) := Sits.below HGb.out bq (Sits.lt HGb.out); replace HGp : Hid (Sits q2a (V8 + 1) (pkCells p1) 31) := Sits.below HGp.out bq (Sits.lt HGp.out); replace HGm : Hid (UO wb.heap.size V8 q2a x8 N1 L1 y8 T1.length (seqT T1)) := UO.below HGm.out bq; clear g0 h0 g1 h1 g2 h2 g3 h3 g4 h4 g5 h5 g6 h6; have g0 := Sits.cell HGp.out 0; have g1 := Sits.cell HGp.out 1; have g2 := Sits.cell HGp.out 2; have g3 := Sits.cell HGp.out 3; have g4 := Sits.cell HGp.out 4; have g5 := Sits.cell HGp.out 5; have h0 := Sits.cell HWp.out 0; have h1 := Sits.cell HWp.out 1; have h2 := Sits.cell HWp.out 2; have h3 := Sits.cell HWp.out 3; have h4 := Sits.cell HWp.out 4; have h5 := Sits.cell HWp.out 5; clear bq) | (go_at_call 11; refine (eqPkt_yes p1 _).mono ?_; rintro o q2 ⟨rfl, k3⟩; have bq := k3.1; have hy_q2 := bq.size; replace HX : Hid (Below W0.heap.size W0 q2) := (HX.out).trans (bq.mono (HX.out).size); replace HWb : Hid (Sits q2 V5 (shCells S1 x5 N1 c5 y5 T1.length cy5) 29) := Sits.below HWb.out bq (Sits.lt HWb.out); replace HWp : Hid (Sits q2 (V5 + 1) (pkCells p1) 31) := Sits.below HWp.out bq (Sits.lt HWp.out); replace HWm : Hid (UO v5.heap.size V5 q2 x5 N1 L1 y5 T1.length (seqT T1)) := UO.below HWm.out bq; replace HGb : Hid (Sits q2 V8 (shCells S1 x8 N1 c8 y8 T1.length cy8) 29) := Sits.below HGb.out bq (Sits.lt HGb.out); replace HGp : Hid (Sits q2 (V8 + 1) (pkCells p1) 31) := Sits.below HGp.out bq (Sits.lt HGp.out); replace HGm : Hid (UO wb.heap.size V8 q2 x8 N1 L1 y8 T1.length (seqT T1)) := UO.below HGm.out bq; clear bq k3))
      clear g0 g1 g2 g3 g4 g5 h0 h1 h2 h3 h4 h5
      have g0 := Sits.cell HGb.out 0
      have g1 := Sits.cell HGb.out 1
      have g2 := Sits.cell HGb.out 2
      have g3 := Sits.cell HGb.out 3
      have g4 := Sits.cell HGb.out 4
      have g5 := Sits.cell HGb.out 5
      have g6 := Sits.cell HGb.out 6
      go_upto_region 19 with (go_at_call 12; refine (markShape_uo wb.heap.size V8 S1 x8 N1 c8 y8 T1.length cy8 L1 (seqT T1) 1 _ HGm.out HN1.out HC1.out HT1.out (by omega) (by omega)).mono ?_; rintro o w10 ⟨rfl, mm, cc⟩; rw [HQ1.out]; have hz_w10 := cc.size; replace HX : Hid (Below W0.heap.size W0 w10) := Chg.bel cc HX.out (by omega); replace HWb : Hid (Sits w10 V5 (shCells S1 x5 N1 c5 y5 T1.length cy5) 29) := Sits.chg HWb.out cc (.inl (by omega)); replace HWp : Hid (Sits w10 (V5 + 1) (pkCells p1) 31) := Sits.chg HWp.out cc (.inl (by omega)); replace HWm : Hid (UO v5.heap.size V5 w10 x5 N1 L1 y5 T1.length (seqT T1)) := UO.chg HWm.out cc (.inr (by omega)); replace HGb : Hid (Sits w10 V8 (shCells S1 x8 N1 c8 y8 T1.length cy8) 29) := Sits.chg HGb.out cc (.inr (by omega)); replace HGp : Hid (Sits w10 (V8 + 1) (pkCells p1) 31) := Sits.chg HGp.out cc (.inr (by omega)); replace HGm : Hid (UO wb.heap.size V8 w10 x8 N1 (upL L1 1) y8 T1.length (fun i => upAt L1 1 N1 + i)) := mm; clear mm cc)
      clear g0 g1 g2 g3 g4 g5 g6
      have g0 := Sits.cell HGb.out 0
      have g1 := Sits.cell HGb.out 1
      have g2 := Sits.cell HGb.out 2
      have g3 := Sits.cell HGb.out 3
      have g4 := Sits.cell HGb.out 4
      have g5 := Sits.cell HGb.out 5
      have g6 := Sits.cell HGb.out 6
      go_upto_region 24 with (go_at_call 13; refine (heldShape_mk S1 x8 N1 c8 y8 T1.length cy8 L1 1 _ (UO.mo0 HGm.out).lr (UO.mo0 HGm.out).row HN1.out HC1.out HT1.out (by omega) (by omega)).mono ?_; rintro o w11 ⟨rfl, bq⟩; rw [HQ1.out]; have hz_w11 := bq.size; replace HX : Hid (Below W0.heap.size W0 w11) := (HX.out).trans (bq.mono (HX.out).size); replace HWb : Hid (Sits w11 V5 (shCells S1 x5 N1 c5 y5 T1.length cy5) 29) := Sits.below HWb.out bq (Sits.lt HWb.out); replace HWp : Hid (Sits w11 (V5 + 1) (pkCells p1) 31) := Sits.below HWp.out bq (Sits.lt HWp.out); replace HWm : Hid (UO v5.heap.size V5 w11 x5 N1 L1 y5 T1.length (seqT T1)) := UO.below HWm.out bq; replace HGb : Hid (Sits w11 V8 (shCells S1 x8 N1 c8 y8 T1.length cy8) 29) := Sits.below HGb.out bq (Sits.lt HGb.out); replace HGp : Hid (Sits w11 (V8 + 1) (pkCells p1) 31) := Sits.below HGp.out bq (Sits.lt HGp.out); replace HGm : Hid (UO wb.heap.size V8 w11 x8 N1 (upL L1 1) y8 T1.length (fun i => upAt L1 1 N1 + i)) := UO.below HGm.out bq; clear bq)
      clear g0 g1 g2 g3 g4 g5 g6
      have sa := (HA.out _ HX.out).1
      have hbw : Below w.heap.size w w11 := (HA.out _ HX.out).2
      have f0 := sa.cell 0
      have f1 := sa.cell 1
      have f2 := sa.cell 2
      have f3 := sa.cell 3
      have f4 := sa.cell 4
      have f5 := sa.cell 5
      have f6 := sa.cell 6
      go_upto_region 25 with (first | (go_at_call 8; refine (toShape_any s0 a0 N0 ca0 b0 n0 cb0 L0 tn0 _ H0.out HN.out H1.out (LR.go HLR.out hbw hbw.size) (Row.below HRB.out hbw)).mono ?_; rintro o v24 ⟨B24, A24, d24, rfl, so24, b7⟩; have HSO24 : Hid (SO w11.heap.size v24 B24 A24 (fun i => (L0 i).n) N0 L0 d24 n0 tn0) := so24; have hz24 := b7.size; replace HX : Hid (Below W0.heap.size W0 v24) := (HX.out).trans (b7.mono (HX.out).size); replace HWb : Hid (Sits v24 V5 (shCells S1 x5 N1 c5 y5 T1.length cy5) 29) := Sits.below HWb.out b7 (Sits.lt HWb.out); replace HWp : Hid (Sits v24 (V5 + 1) (pkCells p1) 31) := Sits.below HWp.out b7 (Sits.lt HWp.out); replace HWm : Hid (UO v5.heap.size V5 v24 x5 N1 L1 y5 T1.length (seqT T1)) := UO.below HWm.out b7; replace HGb : Hid (Sits v24 V8 (shCells S1 x8 N1 c8 y8 T1.length cy8) 29) := Sits.below HGb.out b7 (Sits.lt HGb.out); replace HGp : Hid (Sits v24 (V8 + 1) (pkCells p1) 31) := Sits.below HGp.out b7 (Sits.lt HGp.out); replace HGm : Hid (UO wb.heap.size V8 v24 x8 N1 (upL L1 1) y8 T1.length (fun i => upAt L1 1 N1 + i)) := UO.below HGm.out b7; clear so24 b7) | (go_at_call 9; refine (HI.out _ B24 d24 (MO0.of_so HSO24.out).lr (MO0.of_so HSO24.out).row).mono ?_; rintro o u24 ⟨x24, c24, y24, cy24, rfl, mk24, b8⟩; have HMK24 : Hid (MO0 v24.heap.size u24 x24 N1 L1 y24 T1.length (seqT T1)) := mk24; have hy24 := b8.size; replace HX : Hid (Below W0.heap.size W0 u24) := (HX.out).trans (b8.mono (HX.out).size); replace HWb : Hid (Sits u24 V5 (shCells S1 x5 N1 c5 y5 T1.length cy5) 29) := Sits.below HWb.out b8 (Sits.lt HWb.out); replace HWp : Hid (Sits u24 (V5 + 1) (pkCells p1) 31) := Sits.below HWp.out b8 (Sits.lt HWp.out); replace HWm : Hid (UO v5.heap.size V5 u24 x5 N1 L1 y5 T1.length (seqT T1)) := UO.below HWm.out b8; replace HGb : Hid (Sits u24 V8 (shCells S1 x8 N1 c8 y8 T1.length cy8) 29) := Sits.below HGb.out b8 (Sits.lt HGb.out); replace HGp : Hid (Sits u24 (V8 + 1) (pkCells p1) 31) := Sits.below HGp.out b8 (Sits.lt HGp.out); replace HGm : Hid (UO wb.heap.size V8 u24 x8 N1 (upL L1 1) y8 T1.length (fun i => upAt L1 1 N1 + i)) := UO.below HGm.out b8; clear mk24 b8))
      clear sa hbw
      clear f0 f1 f2 f3 f4 f5 f6
      obtain ⟨V24, hV24⟩ : ∃ V, u24.heap.size = V := ⟨_, rfl⟩
      obtain ⟨u25, hAl⟩ : ∃ x, (u24.alloc (.cells (shCells S1 x24 N1 c24 y24 T1.length cy24) 29)).alloc (.cells (pkCells p1) 31) = x := ⟨_, rfl⟩
      have tb := two_boxes (v := u24) (a := (shCells S1 x24 N1 c24 y24 T1.length cy24)) (b := pkCells p1) (t := 29) (u := 31)
      have mx : UO v24.heap.size u24.heap.size ((u24.alloc (.cells (shCells S1 x24 N1 c24 y24 T1.length cy24) 29)).alloc (.cells (pkCells p1) 31)) x24 N1 L1 y24 T1.length (seqT T1) := UO.below (UO.of HMK24.out) tb.2.2
      rw [hAl, hV24] at tb mx
      rw [hV24] at hy24
      have gg := tb.1
      have gp := tb.2.1
      have b8 := tb.2.2
      clear tb
      have hx24 : V24 + 1 < u25.heap.size := gp.lt
      first | rw [hAl, hV24] | rw [hAl]
      have b8' : Below u24.heap.size u24 u25 := by rw [hV24]; exact b8
      clear b8
      have _hc := 0; replace HX : Hid (Below W0.heap.size W0 u25) := (HX.out).trans (b8'.mono (HX.out).size); replace HWb : Hid (Sits u25 V5 (shCells S1 x5 N1 c5 y5 T1.length cy5) 29) := Sits.below HWb.out b8' (Sits.lt HWb.out); replace HWp : Hid (Sits u25 (V5 + 1) (pkCells p1) 31) := Sits.below HWp.out b8' (Sits.lt HWp.out); replace HWm : Hid (UO v5.heap.size V5 u25 x5 N1 L1 y5 T1.length (seqT T1)) := UO.below HWm.out b8'; replace HGb : Hid (Sits u25 V8 (shCells S1 x8 N1 c8 y8 T1.length cy8) 29) := Sits.below HGb.out b8' (Sits.lt HGb.out); replace HGp : Hid (Sits u25 (V8 + 1) (pkCells p1) 31) := Sits.below HGp.out b8' (Sits.lt HGp.out); replace HGm : Hid (UO wb.heap.size V8 u25 x8 N1 (upL L1 1) y8 T1.length (fun i => upAt L1 1 N1 + i)) := UO.below HGm.out b8'
      have HHb : Hid (Sits u25 V24 (shCells S1 x24 N1 c24 y24 T1.length cy24) 29) := gg
      have HHp : Hid (Sits u25 (V24 + 1) (pkCells p1) 31) := gp
      have HHm : Hid (UO v24.heap.size V24 u25 x24 N1 L1 y24 T1.length (seqT T1)) := mx
      clear gg gp mx b8' hAl hV24 HMK24 _hc
      have g0 := Sits.cell HHb.out 0
      have g1 := Sits.cell HHb.out 1
      have g2 := Sits.cell HHb.out 2
      have g3 := Sits.cell HHb.out 3
      have g4 := Sits.cell HHb.out 4
      have g5 := Sits.cell HHb.out 5
      have g6 := Sits.cell HHb.out 6
      have h0 := Sits.cell HWb.out 0
      have h1 := Sits.cell HWb.out 1
      have h2 := Sits.cell HWb.out 2
      have h3 := Sits.cell HWb.out 3
      have h4 := Sits.cell HWb.out 4
      have h5 := Sits.cell HWb.out 5
      have h6 := Sits.cell HWb.out 6
      go_upto_region 28 with (first | (go_at_call 10; refine (eqShape_yes S1 x24 x5 N1 c24 c5 y24 y5 T1.length cy24 cy5 L1 (seqT T1) _ HN1.out HL1.out HT1.out (UO.mo0 HHm.out).lr (UO.mo0 HWm.out).lr (UO.mo0 HHm.out).row (UO.mo0 HWm.out).row).mono ?_; rintro o q3a ⟨rfl, bq⟩; have hz_q3 := bq.size; replace HX : Hid (Below W0.heap.size W0 q3a) := (HX.out).trans (bq.mono (HX.out).size); replace HWb : Hid (Sits q3a V5 (shCells S1 x5 N1 c5 y5 T1.length cy5) 29) := Sits.below HWb.out bq (Sits.lt HWb.out); replace HWp : Hid (Sits q3a (V5 + 1) (pkCells p1) 31) := Sits.below HWp.out bq (Sits.lt HWp.out); replace HWm : Hid (UO v5.heap.size V5 q3a x5 N1 L1 y5 T1.length (seqT T1)) := UO.below HWm.out bq; replace HGb : Hid (Sits q3a V8 (shCells S1 x8 N1 c8 y8 T1.length cy8) 29) := Sits.below HGb.out bq (Sits.lt HGb.out); replace HGp : Hid (Sits q3a (V8 + 1) (pkCells p1) 31) := Sits.below HGp.out bq (Sits.lt HGp.out); replace HGm : Hid (UO wb.heap.size V8 q3a x8 N1 (upL L1 1) y8 T1.length (fun i => upAt L1 1 N1 + i)) := UO.below HGm.out bq; replace HHb : Hid (Sits q3a V24 (shCells S1 x24 N1 c24 y24 T1.length cy24) 29) := Sits.below HHb.out bq (Sits.lt HHb.out); replace HHp : Hid (Sits q3a (V24 + 1) (pkCells p1) 31) := Sits.below HHp.out bq (Sits.lt HHp.out); replace HHm : Hid (UO v24.heap.size V24 q3a x24 N1 L1 y24 T1.length (seqT T1)) := UO.below HHm.out bq; clear g0 h0 g1 h1 g2 h2 g3 h3 g4 h4 g5 h5 g6 h6; have g0 := Sits.cell HHp.out 0; have g1 := Sits.cell HHp.out 1; have g2 := Sits.cell HHp.out 2; have g3 := Sits.cell HHp.out 3; have g4 := Sits.cell HHp.out 4; have g5 := Sits.cell HHp.out 5; have h0 := Sits.cell HWp.out 0; have h1 := Sits.cell HWp.out 1; have h2 := Sits.cell HWp.out 2; have h3 := Sits.cell HWp.out 3; have h4 := Sits.cell HWp.out 4; have h5 := Sits.cell HWp.out 5; clear bq) | (go_at_call 11; refine (eqPkt_yes p1 _).mono ?_; rintro o q3 ⟨rfl, k3⟩; have bq := k3.1; have hy_q3 := bq.size; replace HX : Hid (Below W0.heap.size W0 q3) := (HX.out).trans (bq.mono (HX.out).size); replace HWb : Hid (Sits q3 V5 (shCells S1 x5 N1 c5 y5 T1.length cy5) 29) := Sits.below HWb.out bq (Sits.lt HWb.out); replace HWp : Hid (Sits q3 (V5 + 1) (pkCells p1) 31) := Sits.below HWp.out bq (Sits.lt HWp.out); replace HWm : Hid (UO v5.heap.size V5 q3 x5 N1 L1 y5 T1.length (seqT T1)) := UO.below HWm.out bq; replace HGb : Hid (Sits q3 V8 (shCells S1 x8 N1 c8 y8 T1.length cy8) 29) := Sits.below HGb.out bq (Sits.lt HGb.out); replace HGp : Hid (Sits q3 (V8 + 1) (pkCells p1) 31) := Sits.below HGp.out bq (Sits.lt HGp.out); replace HGm : Hid (UO wb.heap.size V8 q3 x8 N1 (upL L1 1) y8 T1.length (fun i => upAt L1 1 N1 + i)) := UO.below HGm.out bq; replace HHb : Hid (Sits q3 V24 (shCells S1 x24 N1 c24 y24 T1.length cy24) 29) := Sits.below HHb.out bq (Sits.lt HHb.out); replace HHp : Hid (Sits q3 (V24 + 1) (pkCells p1) 31) := Sits.below HHp.out bq (Sits.lt HHp.out); replace HHm : Hid (UO v24.heap.size V24 q3 x24 N1 L1 y24 T1.length (seqT T1)) := UO.below HHm.out bq; clear bq k3))
      clear g0 g1 g2 g3 g4 g5 h0 h1 h2 h3 h4 h5
      have g0 := Sits.cell HGb.out 0
      have g1 := Sits.cell HGb.out 1
      have g2 := Sits.cell HGb.out 2
      have g3 := Sits.cell HGb.out 3
      have g4 := Sits.cell HGb.out 4
      have g5 := Sits.cell HGb.out 5
      have g6 := Sits.cell HGb.out 6
      go_wp2_with (go_at_call 13; refine (heldShape_mk S1 x8 N1 c8 y8 T1.length cy8 L1 1 _ (UO.mo0 HGm.out).lr (UO.mo0 HGm.out).row HN1.out HC1.out HT1.out (by omega) (by omega)).mono ?_; rintro o u14 ⟨rfl, bq⟩; rw [HQ1.out]; have hz_u14 := bq.size; replace HX : Hid (Below W0.heap.size W0 u14) := (HX.out).trans (bq.mono (HX.out).size); replace HWb : Hid (Sits u14 V5 (shCells S1 x5 N1 c5 y5 T1.length cy5) 29) := Sits.below HWb.out bq (Sits.lt HWb.out); replace HWp : Hid (Sits u14 (V5 + 1) (pkCells p1) 31) := Sits.below HWp.out bq (Sits.lt HWp.out); replace HWm : Hid (UO v5.heap.size V5 u14 x5 N1 L1 y5 T1.length (seqT T1)) := UO.below HWm.out bq; replace HGb : Hid (Sits u14 V8 (shCells S1 x8 N1 c8 y8 T1.length cy8) 29) := Sits.below HGb.out bq (Sits.lt HGb.out); replace HGp : Hid (Sits u14 (V8 + 1) (pkCells p1) 31) := Sits.below HGp.out bq (Sits.lt HGp.out); replace HGm : Hid (UO wb.heap.size V8 u14 x8 N1 (upL L1 1) y8 T1.length (fun i => upAt L1 1 N1 + i)) := UO.below HGm.out bq; replace HHb : Hid (Sits u14 V24 (shCells S1 x24 N1 c24 y24 T1.length cy24) 29) := Sits.below HHb.out bq (Sits.lt HHb.out); replace HHp : Hid (Sits u14 (V24 + 1) (pkCells p1) 31) := Sits.below HHp.out bq (Sits.lt HHp.out); replace HHm : Hid (UO v24.heap.size V24 u14 x24 N1 L1 y24 T1.length (seqT T1)) := UO.below HHm.out bq; clear bq)
      go_ret
      exact ⟨rfl, (HA.out _ HX.out).2⟩
    case true =>
      have g0 := Sits.cell HGb.out 0
      have g1 := Sits.cell HGb.out 1
      have g2 := Sits.cell HGb.out 2
      have g3 := Sits.cell HGb.out 3
      have g4 := Sits.cell HGb.out 4
      have g5 := Sits.cell HGb.out 5
      have g6 := Sits.cell HGb.out 6
      have h0 := Sits.cell HWb.out 0
      have h1 := Sits.cell HWb.out 1
      have h2 := Sits.cell HWb.out 2
      have h3 := Sits.cell HWb.out 3
      have h4 := Sits.cell HWb.out 4
      have h5 := Sits.cell HWb.out 5
      have h6 := Sits.cell HWb.out 6
      go_upto_region 10 with (first | (go_at_call 10; refine (eqShape_yes S1 x8 x5 N1 c8 c5 y8 y5 T1.length cy8 cy5 L1 (seqT T1) _ HN1.out HL1.out HT1.out (UO.mo0 HGm.out).lr (UO.mo0 HWm.out).lr (UO.mo0 HGm.out).row (UO.mo0 HWm.out).row).mono ?_; rintro o q1a ⟨rfl, bq⟩; have hz_q1 := bq.size; replace HX : Hid (Below W0.heap.size W0 q1a) := (HX.out).trans (bq.mono (HX.out).size); replace HWb : Hid (Sits q1a V5 (shCells S1 x5 N1 c5 y5 T1.length cy5) 29) := Sits.below HWb.out bq (Sits.lt HWb.out); replace HWp : Hid (Sits q1a (V5 + 1) (pkCells p1) 31) := Sits.below HWp.out bq (Sits.lt HWp.out); replace HWm : Hid (UO v5.heap.size V5 q1a x5 N1 L1 y5 T1.length (seqT T1)) := UO.below HWm.out bq; replace HXb : Hid (Sits q1a V7 (shCells s0 (some ⟨B7, 0, none⟩) N0 N0 d7 n0 n0) 29) := Sits.below HXb.out bq (Sits.lt HXb.out); replace HXm : Hid (UO u6.heap.size V7 q1a (some ⟨B7, 0, none⟩) N0 L0 d7 n0 tn0) := UO.below HXm.out bq; replace HGb : Hid (Sits q1a V8 (shCells S1 x8 N1 c8 y8 T1.length cy8) 29) := Sits.below HGb.out bq (Sits.lt HGb.out); replace HGp : Hid (Sits q1a (V8 + 1) (pkCells p1) 31) := Sits.below HGp.out bq (Sits.lt HGp.out); replace HGm : Hid (UO wb.heap.size V8 q1a x8 N1 L1 y8 T1.length (seqT T1)) := UO.below HGm.out bq; clear g0 h0 g1 h1 g2 h2 g3 h3 g4 h4 g5 h5 g6 h6; have g0 := Sits.cell HGp.out 0; have g1 := Sits.cell HGp.out 1; have g2 := Sits.cell HGp.out 2; have g3 := Sits.cell HGp.out 3; have g4 := Sits.cell HGp.out 4; have g5 := Sits.cell HGp.out 5; have h0 := Sits.cell HWp.out 0; have h1 := Sits.cell HWp.out 1; have h2 := Sits.cell HWp.out 2; have h3 := Sits.cell HWp.out 3; have h4 := Sits.cell HWp.out 4; have h5 := Sits.cell HWp.out 5; clear bq) | (go_at_call 11; refine (eqPkt_yes p1 _).mono ?_; rintro o q1 ⟨rfl, k3⟩; have bq := k3.1; have hy_q1 := bq.size; replace HX : Hid (Below W0.heap.size W0 q1) := (HX.out).trans (bq.mono (HX.out).size); replace HWb : Hid (Sits q1 V5 (shCells S1 x5 N1 c5 y5 T1.length cy5) 29) := Sits.below HWb.out bq (Sits.lt HWb.out); replace HWp : Hid (Sits q1 (V5 + 1) (pkCells p1) 31) := Sits.below HWp.out bq (Sits.lt HWp.out); replace HWm : Hid (UO v5.heap.size V5 q1 x5 N1 L1 y5 T1.length (seqT T1)) := UO.below HWm.out bq; replace HXb : Hid (Sits q1 V7 (shCells s0 (some ⟨B7, 0, none⟩) N0 N0 d7 n0 n0) 29) := Sits.below HXb.out bq (Sits.lt HXb.out); replace HXm : Hid (UO u6.heap.size V7 q1 (some ⟨B7, 0, none⟩) N0 L0 d7 n0 tn0) := UO.below HXm.out bq; replace HGb : Hid (Sits q1 V8 (shCells S1 x8 N1 c8 y8 T1.length cy8) 29) := Sits.below HGb.out bq (Sits.lt HGb.out); replace HGp : Hid (Sits q1 (V8 + 1) (pkCells p1) 31) := Sits.below HGp.out bq (Sits.lt HGp.out); replace HGm : Hid (UO wb.heap.size V8 q1 x8 N1 L1 y8 T1.length (seqT T1)) := UO.below HGm.out bq; clear bq k3))
      clear g0 g1 g2 g3 g4 g5 h0 h1 h2 h3 h4 h5
      have hSB : Hid (∀ w', Below q1.heap.size q1 w' → ((w'.cell? ⟨V7, 0, none⟩ = some (.int .i64 s0.rt) ∧ w'.cell? ⟨V7, 1, none⟩ = some (.int .i64 s0.ov) ∧ w'.cell? ⟨V7, 2, none⟩ = some (.int .i64 s0.nx) ∧ w'.cell? ⟨V7, 3, none⟩ = some (.int .i64 s0.qt) ∧ w'.cell? ⟨V7, 4, none⟩ = some (.int .i64 s0.lim) ∧ w'.cell? ⟨V7, 5, none⟩ = some (.slice (some ⟨B7, 0, none⟩) N0 N0) ∧ w'.cell? ⟨V7, 6, none⟩ = some (.slice d7 n0 n0)) ∧ (w'.cell? ⟨w.heap.size, 0, none⟩ = some (.int .i64 s0.rt) ∧ w'.cell? ⟨w.heap.size, 1, none⟩ = some (.int .i64 s0.ov) ∧ w'.cell? ⟨w.heap.size, 2, none⟩ = some (.int .i64 s0.nx) ∧ w'.cell? ⟨w.heap.size, 3, none⟩ = some (.int .i64 s0.qt) ∧ w'.cell? ⟨w.heap.size, 4, none⟩ = some (.int .i64 s0.lim) ∧ w'.cell? ⟨w.heap.size, 5, none⟩ = some (.slice a0 N0 ca0) ∧ w'.cell? ⟨w.heap.size, 6, none⟩ = some (.slice b0 n0 cb0)))) := fun w' hw' => by
        have e1 := Sits.below HXb.out hw' (Sits.lt HXb.out)
        obtain ⟨e2, _⟩ := HA.out _ ((HX.out).trans (hw'.mono (HX.out).size))
        exact ⟨⟨e1.cell 0, e1.cell 1, e1.cell 2, e1.cell 3, e1.cell 4, e1.cell 5, e1.cell 6⟩, ⟨e2.cell 0, e2.cell 1, e2.cell 2, e2.cell 3, e2.cell 4, e2.cell 5, e2.cell 6⟩⟩
      have BD : Below w.heap.size w q1.drew := ((HA.out _ HX.out).2).drew
      have HMD : Hid (UO u6.heap.size V7 q1.drew (some ⟨B7, 0, none⟩) N0 L0 d7 n0 tn0) := UO.below HXm.out ((Below.refl _ _).drew)
      set_option maxRecDepth 100000 in go_region_held3 (fun w' => ((w'.cell? ⟨V7, 0, none⟩ = some (.int .i64 s0.rt) ∧ w'.cell? ⟨V7, 1, none⟩ = some (.int .i64 s0.ov) ∧ w'.cell? ⟨V7, 2, none⟩ = some (.int .i64 s0.nx) ∧ w'.cell? ⟨V7, 3, none⟩ = some (.int .i64 s0.qt) ∧ w'.cell? ⟨V7, 4, none⟩ = some (.int .i64 s0.lim) ∧ w'.cell? ⟨V7, 5, none⟩ = some (.slice (some ⟨B7, 0, none⟩) N0 N0) ∧ w'.cell? ⟨V7, 6, none⟩ = some (.slice d7 n0 n0)) ∧ (w'.cell? ⟨w.heap.size, 0, none⟩ = some (.int .i64 s0.rt) ∧ w'.cell? ⟨w.heap.size, 1, none⟩ = some (.int .i64 s0.ov) ∧ w'.cell? ⟨w.heap.size, 2, none⟩ = some (.int .i64 s0.nx) ∧ w'.cell? ⟨w.heap.size, 3, none⟩ = some (.int .i64 s0.qt) ∧ w'.cell? ⟨w.heap.size, 4, none⟩ = some (.int .i64 s0.lim) ∧ w'.cell? ⟨w.heap.size, 5, none⟩ = some (.slice a0 N0 ca0) ∧ w'.cell? ⟨w.heap.size, 6, none⟩ = some (.slice b0 n0 cb0)))) (first | exact hSB.out _ ((Below.refl _ _).drew) | exact hSB.out _ ((Below.refl _ q1).drew.trans b7) | exact hSB.out _ (((Below.refl _ q1).drew.trans b7).trans (b8.mono b7.size))) (first | (go_at_call 8; refine (toShape_any s0 a0 N0 ca0 b0 n0 cb0 L0 tn0 _ H0.out HN.out H1.out (LR.go HLR.out BD (BD).size) (Row.below HRB.out BD)).mono ?_; rintro o w7 ⟨B9, A9, d9, rfl, so7, b7⟩) | (go_at_call 10; refine (eqShape_yes s0 (some ⟨B7, 0, none⟩) (some ⟨B9, 0, none⟩) N0 N0 N0 d7 d9 n0 n0 n0 L0 tn0 _ H0.out HN.out H1.out (UO.mo0 (UO.below HMD.out b7)).lr (MO0.lr (MO0.of_so so7)) (UO.mo0 (UO.below HMD.out b7)).row so7.row).mono ?_; rintro o w8 ⟨rfl, b8⟩))
      have bq : Below q1.heap.size q1 w8 := ((Below.refl _ q1).drew.trans b7).trans (b8.mono b7.size)
      have hz_w8 := bq.size; replace HX : Hid (Below W0.heap.size W0 w8) := (HX.out).trans (bq.mono (HX.out).size); replace HWb : Hid (Sits w8 V5 (shCells S1 x5 N1 c5 y5 T1.length cy5) 29) := Sits.below HWb.out bq (Sits.lt HWb.out); replace HWp : Hid (Sits w8 (V5 + 1) (pkCells p1) 31) := Sits.below HWp.out bq (Sits.lt HWp.out); replace HWm : Hid (UO v5.heap.size V5 w8 x5 N1 L1 y5 T1.length (seqT T1)) := UO.below HWm.out bq; replace HXb : Hid (Sits w8 V7 (shCells s0 (some ⟨B7, 0, none⟩) N0 N0 d7 n0 n0) 29) := Sits.below HXb.out bq (Sits.lt HXb.out); replace HXm : Hid (UO u6.heap.size V7 w8 (some ⟨B7, 0, none⟩) N0 L0 d7 n0 tn0) := UO.below HXm.out bq; replace HGb : Hid (Sits w8 V8 (shCells S1 x8 N1 c8 y8 T1.length cy8) 29) := Sits.below HGb.out bq (Sits.lt HGb.out); replace HGp : Hid (Sits w8 (V8 + 1) (pkCells p1) 31) := Sits.below HGp.out bq (Sits.lt HGp.out); replace HGm : Hid (UO wb.heap.size V8 w8 x8 N1 L1 y8 T1.length (seqT T1)) := UO.below HGm.out bq
      clear bq b7 b8 so7 hSB BD HMD
      go_upto_region 13 with fail
      have g0 := Sits.cell HXb.out 0
      have g1 := Sits.cell HXb.out 1
      have g2 := Sits.cell HXb.out 2
      have g3 := Sits.cell HXb.out 3
      have g4 := Sits.cell HXb.out 4
      have g5 := Sits.cell HXb.out 5
      have g6 := Sits.cell HXb.out 6
      go_upto_region 14 with (go_at_call 12; refine (markShape_uo u6.heap.size V7 s0 (some ⟨B7, 0, none⟩) N0 N0 d7 n0 n0 L0 tn0 1 _ HXm.out H0.out HC.out H1.out (by omega) (by omega)).mono ?_; rintro o w9 ⟨rfl, mm, cc⟩; rw [HQ0.out]; have hz_w9 := cc.size; replace HX : Hid (Below W0.heap.size W0 w9) := Chg.bel cc HX.out (by omega); replace HWb : Hid (Sits w9 V5 (shCells S1 x5 N1 c5 y5 T1.length cy5) 29) := Sits.chg HWb.out cc (.inl (by omega)); replace HWp : Hid (Sits w9 (V5 + 1) (pkCells p1) 31) := Sits.chg HWp.out cc (.inl (by omega)); replace HWm : Hid (UO v5.heap.size V5 w9 x5 N1 L1 y5 T1.length (seqT T1)) := UO.chg HWm.out cc (.inr (by omega)); replace HXb : Hid (Sits w9 V7 (shCells s0 (some ⟨B7, 0, none⟩) N0 N0 d7 n0 n0) 29) := Sits.chg HXb.out cc (.inr (by omega)); replace HGb : Hid (Sits w9 V8 (shCells S1 x8 N1 c8 y8 T1.length cy8) 29) := Sits.chg HGb.out cc (.inr (by omega)); replace HGp : Hid (Sits w9 (V8 + 1) (pkCells p1) 31) := Sits.chg HGp.out cc (.inr (by omega)); replace HGm : Hid (UO wb.heap.size V8 w9 x8 N1 L1 y8 T1.length (seqT T1)) := UO.chg HGm.out cc (.inl (by omega)); clear mm cc)
      clear g0 g1 g2 g3 g4 g5 g6
      clear HXm HXb
      have g0 := Sits.cell HGb.out 0
      have g1 := Sits.cell HGb.out 1
      have g2 := Sits.cell HGb.out 2
      have g3 := Sits.cell HGb.out 3
      have g4 := Sits.cell HGb.out 4
      have g5 := Sits.cell HGb.out 5
      have g6 := Sits.cell HGb.out 6
      have h0 := Sits.cell HWb.out 0
      have h1 := Sits.cell HWb.out 1
      have h2 := Sits.cell HWb.out 2
      have h3 := Sits.cell HWb.out 3
      have h4 := Sits.cell HWb.out 4
      have h5 := Sits.cell HWb.out 5
      have h6 := Sits.cell HWb.out 6
      go_upto_region 17 with (first | (go_at_call 10; refine (eqShape_yes S1 x8 x5 N1 c8 c5 y8 y5 T1.length cy8 cy5 L1 (seqT T1) _ HN1.out HL1.out HT1.out (UO.mo0 HGm.out).lr (UO.mo0 HWm.out).lr (UO.mo0 HGm.out).row (UO.mo0 HWm.out).row).mono ?_; rintro o q2a ⟨rfl, bq⟩; have hz_q2 := bq.size; replace HX : Hid (Below W0.heap.size W0 q2a) := (HX.out).trans (bq.mono (HX.out).size); replace HWb : Hid (Sits q2a V5 (shCells S1 x5 N1 c5 y5 T1.length cy5) 29) := Sits.below HWb.out bq (Sits.lt HWb.out); replace HWp : Hid (Sits q2a (V5 + 1) (pkCells p1) 31) := Sits.below HWp.out bq (Sits.lt HWp.out); replace HWm : Hid (UO v5.heap.size V5 q2a x5 N1 L1 y5 T1.length (seqT T1)) := UO.below HWm.out bq; replace HGb : Hid (Sits q2a V8 (shCells S1 x8 N1 c8 y8 T1.length cy8) 29) := Sits.below HGb.out bq (Sits.lt HGb.out); replace HGp : Hid (Sits q2a (V8 + 1) (pkCells p1) 31) := Sits.below HGp.out bq (Sits.lt HGp.out); replace HGm : Hid (UO wb.heap.size V8 q2a x8 N1 L1 y8 T1.length (seqT T1)) := UO.below HGm.out bq; clear g0 h0 g1 h1 g2 h2 g3 h3 g4 h4 g5 h5 g6 h6; have g0 := Sits.cell HGp.out 0; have g1 := Sits.cell HGp.out 1; have g2 := Sits.cell HGp.out 2; have g3 := Sits.cell HGp.out 3; have g4 := Sits.cell HGp.out 4; have g5 := Sits.cell HGp.out 5; have h0 := Sits.cell HWp.out 0; have h1 := Sits.cell HWp.out 1; have h2 := Sits.cell HWp.out 2; have h3 := Sits.cell HWp.out 3; have h4 := Sits.cell HWp.out 4; have h5 := Sits.cell HWp.out 5; clear bq) | (go_at_call 11; refine (eqPkt_yes p1 _).mono ?_; rintro o q2 ⟨rfl, k3⟩; have bq := k3.1; have hy_q2 := bq.size; replace HX : Hid (Below W0.heap.size W0 q2) := (HX.out).trans (bq.mono (HX.out).size); replace HWb : Hid (Sits q2 V5 (shCells S1 x5 N1 c5 y5 T1.length cy5) 29) := Sits.below HWb.out bq (Sits.lt HWb.out); replace HWp : Hid (Sits q2 (V5 + 1) (pkCells p1) 31) := Sits.below HWp.out bq (Sits.lt HWp.out); replace HWm : Hid (UO v5.heap.size V5 q2 x5 N1 L1 y5 T1.length (seqT T1)) := UO.below HWm.out bq; replace HGb : Hid (Sits q2 V8 (shCells S1 x8 N1 c8 y8 T1.length cy8) 29) := Sits.below HGb.out bq (Sits.lt HGb.out); replace HGp : Hid (Sits q2 (V8 + 1) (pkCells p1) 31) := Sits.below HGp.out bq (Sits.lt HGp.out); replace HGm : Hid (UO wb.heap.size V8 q2 x8 N1 L1 y8 T1.length (seqT T1)) := UO.below HGm.out bq; clear bq k3))
      clear g0 g1 g2 g3 g4 g5 h0 h1 h2 h3 h4 h5
      have g0 := Sits.cell HGb.out 0
      have g1 := Sits.cell HGb.out 1
      have g2 := Sits.cell HGb.out 2
      have g3 := Sits.cell HGb.out 3
      have g4 := Sits.cell HGb.out 4
      have g5 := Sits.cell HGb.out 5
      have g6 := Sits.cell HGb.out 6
      go_upto_region 19 with (go_at_call 12; refine (markShape_uo wb.heap.size V8 S1 x8 N1 c8 y8 T1.length cy8 L1 (seqT T1) 1 _ HGm.out HN1.out HC1.out HT1.out (by omega) (by omega)).mono ?_; rintro o w10 ⟨rfl, mm, cc⟩; rw [HQ1.out]; have hz_w10 := cc.size; replace HX : Hid (Below W0.heap.size W0 w10) := Chg.bel cc HX.out (by omega); replace HWb : Hid (Sits w10 V5 (shCells S1 x5 N1 c5 y5 T1.length cy5) 29) := Sits.chg HWb.out cc (.inl (by omega)); replace HWp : Hid (Sits w10 (V5 + 1) (pkCells p1) 31) := Sits.chg HWp.out cc (.inl (by omega)); replace HWm : Hid (UO v5.heap.size V5 w10 x5 N1 L1 y5 T1.length (seqT T1)) := UO.chg HWm.out cc (.inr (by omega)); replace HGb : Hid (Sits w10 V8 (shCells S1 x8 N1 c8 y8 T1.length cy8) 29) := Sits.chg HGb.out cc (.inr (by omega)); replace HGp : Hid (Sits w10 (V8 + 1) (pkCells p1) 31) := Sits.chg HGp.out cc (.inr (by omega)); replace HGm : Hid (UO wb.heap.size V8 w10 x8 N1 (upL L1 1) y8 T1.length (fun i => upAt L1 1 N1 + i)) := mm; clear mm cc)
      clear g0 g1 g2 g3 g4 g5 g6
      have g0 := Sits.cell HGb.out 0
      have g1 := Sits.cell HGb.out 1
      have g2 := Sits.cell HGb.out 2
      have g3 := Sits.cell HGb.out 3
      have g4 := Sits.cell HGb.out 4
      have g5 := Sits.cell HGb.out 5
      have g6 := Sits.cell HGb.out 6
      go_upto_region 24 with (go_at_call 13; refine (heldShape_mk S1 x8 N1 c8 y8 T1.length cy8 L1 1 _ (UO.mo0 HGm.out).lr (UO.mo0 HGm.out).row HN1.out HC1.out HT1.out (by omega) (by omega)).mono ?_; rintro o w11 ⟨rfl, bq⟩; rw [HQ1.out]; have hz_w11 := bq.size; replace HX : Hid (Below W0.heap.size W0 w11) := (HX.out).trans (bq.mono (HX.out).size); replace HWb : Hid (Sits w11 V5 (shCells S1 x5 N1 c5 y5 T1.length cy5) 29) := Sits.below HWb.out bq (Sits.lt HWb.out); replace HWp : Hid (Sits w11 (V5 + 1) (pkCells p1) 31) := Sits.below HWp.out bq (Sits.lt HWp.out); replace HWm : Hid (UO v5.heap.size V5 w11 x5 N1 L1 y5 T1.length (seqT T1)) := UO.below HWm.out bq; replace HGb : Hid (Sits w11 V8 (shCells S1 x8 N1 c8 y8 T1.length cy8) 29) := Sits.below HGb.out bq (Sits.lt HGb.out); replace HGp : Hid (Sits w11 (V8 + 1) (pkCells p1) 31) := Sits.below HGp.out bq (Sits.lt HGp.out); replace HGm : Hid (UO wb.heap.size V8 w11 x8 N1 (upL L1 1) y8 T1.length (fun i => upAt L1 1 N1 + i)) := UO.below HGm.out bq; clear bq)
      clear g0 g1 g2 g3 g4 g5 g6
      have sa := (HA.out _ HX.out).1
      have hbw : Below w.heap.size w w11 := (HA.out _ HX.out).2
      have f0 := sa.cell 0
      have f1 := sa.cell 1
      have f2 := sa.cell 2
      have f3 := sa.cell 3
      have f4 := sa.cell 4
      have f5 := sa.cell 5
      have f6 := sa.cell 6
      go_upto_region 25 with (first | (go_at_call 8; refine (toShape_any s0 a0 N0 ca0 b0 n0 cb0 L0 tn0 _ H0.out HN.out H1.out (LR.go HLR.out hbw hbw.size) (Row.below HRB.out hbw)).mono ?_; rintro o v24 ⟨B24, A24, d24, rfl, so24, b7⟩; have HSO24 : Hid (SO w11.heap.size v24 B24 A24 (fun i => (L0 i).n) N0 L0 d24 n0 tn0) := so24; have hz24 := b7.size; replace HX : Hid (Below W0.heap.size W0 v24) := (HX.out).trans (b7.mono (HX.out).size); replace HWb : Hid (Sits v24 V5 (shCells S1 x5 N1 c5 y5 T1.length cy5) 29) := Sits.below HWb.out b7 (Sits.lt HWb.out); replace HWp : Hid (Sits v24 (V5 + 1) (pkCells p1) 31) := Sits.below HWp.out b7 (Sits.lt HWp.out); replace HWm : Hid (UO v5.heap.size V5 v24 x5 N1 L1 y5 T1.length (seqT T1)) := UO.below HWm.out b7; replace HGb : Hid (Sits v24 V8 (shCells S1 x8 N1 c8 y8 T1.length cy8) 29) := Sits.below HGb.out b7 (Sits.lt HGb.out); replace HGp : Hid (Sits v24 (V8 + 1) (pkCells p1) 31) := Sits.below HGp.out b7 (Sits.lt HGp.out); replace HGm : Hid (UO wb.heap.size V8 v24 x8 N1 (upL L1 1) y8 T1.length (fun i => upAt L1 1 N1 + i)) := UO.below HGm.out b7; clear so24 b7) | (go_at_call 9; refine (HI.out _ B24 d24 (MO0.of_so HSO24.out).lr (MO0.of_so HSO24.out).row).mono ?_; rintro o u24 ⟨x24, c24, y24, cy24, rfl, mk24, b8⟩; have HMK24 : Hid (MO0 v24.heap.size u24 x24 N1 L1 y24 T1.length (seqT T1)) := mk24; have hy24 := b8.size; replace HX : Hid (Below W0.heap.size W0 u24) := (HX.out).trans (b8.mono (HX.out).size); replace HWb : Hid (Sits u24 V5 (shCells S1 x5 N1 c5 y5 T1.length cy5) 29) := Sits.below HWb.out b8 (Sits.lt HWb.out); replace HWp : Hid (Sits u24 (V5 + 1) (pkCells p1) 31) := Sits.below HWp.out b8 (Sits.lt HWp.out); replace HWm : Hid (UO v5.heap.size V5 u24 x5 N1 L1 y5 T1.length (seqT T1)) := UO.below HWm.out b8; replace HGb : Hid (Sits u24 V8 (shCells S1 x8 N1 c8 y8 T1.length cy8) 29) := Sits.below HGb.out b8 (Sits.lt HGb.out); replace HGp : Hid (Sits u24 (V8 + 1) (pkCells p1) 31) := Sits.below HGp.out b8 (Sits.lt HGp.out); replace HGm : Hid (UO wb.heap.size V8 u24 x8 N1 (upL L1 1) y8 T1.length (fun i => upAt L1 1 N1 + i)) := UO.below HGm.out b8; clear mk24 b8))
      clear sa hbw
      clear f0 f1 f2 f3 f4 f5 f6
      obtain ⟨V24, hV24⟩ : ∃ V, u24.heap.size = V := ⟨_, rfl⟩
      obtain ⟨u25, hAl⟩ : ∃ x, (u24.alloc (.cells (shCells S1 x24 N1 c24 y24 T1.length cy24) 29)).alloc (.cells (pkCells p1) 31) = x := ⟨_, rfl⟩
      have tb := two_boxes (v := u24) (a := (shCells S1 x24 N1 c24 y24 T1.length cy24)) (b := pkCells p1) (t := 29) (u := 31)
      have mx : UO v24.heap.size u24.heap.size ((u24.alloc (.cells (shCells S1 x24 N1 c24 y24 T1.length cy24) 29)).alloc (.cells (pkCells p1) 31)) x24 N1 L1 y24 T1.length (seqT T1) := UO.below (UO.of HMK24.out) tb.2.2
      rw [hAl, hV24] at tb mx
      rw [hV24] at hy24
      have gg := tb.1
      have gp := tb.2.1
      have b8 := tb.2.2
      clear tb
      have hx24 : V24 + 1 < u25.heap.size := gp.lt
      first | rw [hAl, hV24] | rw [hAl]
      have b8' : Below u24.heap.size u24 u25 := by rw [hV24]; exact b8
      clear b8
      have _hc := 0; replace HX : Hid (Below W0.heap.size W0 u25) := (HX.out).trans (b8'.mono (HX.out).size); replace HWb : Hid (Sits u25 V5 (shCells S1 x5 N1 c5 y5 T1.length cy5) 29) := Sits.below HWb.out b8' (Sits.lt HWb.out); replace HWp : Hid (Sits u25 (V5 + 1) (pkCells p1) 31) := Sits.below HWp.out b8' (Sits.lt HWp.out); replace HWm : Hid (UO v5.heap.size V5 u25 x5 N1 L1 y5 T1.length (seqT T1)) := UO.below HWm.out b8'; replace HGb : Hid (Sits u25 V8 (shCells S1 x8 N1 c8 y8 T1.length cy8) 29) := Sits.below HGb.out b8' (Sits.lt HGb.out); replace HGp : Hid (Sits u25 (V8 + 1) (pkCells p1) 31) := Sits.below HGp.out b8' (Sits.lt HGp.out); replace HGm : Hid (UO wb.heap.size V8 u25 x8 N1 (upL L1 1) y8 T1.length (fun i => upAt L1 1 N1 + i)) := UO.below HGm.out b8'
      have HHb : Hid (Sits u25 V24 (shCells S1 x24 N1 c24 y24 T1.length cy24) 29) := gg
      have HHp : Hid (Sits u25 (V24 + 1) (pkCells p1) 31) := gp
      have HHm : Hid (UO v24.heap.size V24 u25 x24 N1 L1 y24 T1.length (seqT T1)) := mx
      clear gg gp mx b8' hAl hV24 HMK24 _hc
      have g0 := Sits.cell HHb.out 0
      have g1 := Sits.cell HHb.out 1
      have g2 := Sits.cell HHb.out 2
      have g3 := Sits.cell HHb.out 3
      have g4 := Sits.cell HHb.out 4
      have g5 := Sits.cell HHb.out 5
      have g6 := Sits.cell HHb.out 6
      have h0 := Sits.cell HWb.out 0
      have h1 := Sits.cell HWb.out 1
      have h2 := Sits.cell HWb.out 2
      have h3 := Sits.cell HWb.out 3
      have h4 := Sits.cell HWb.out 4
      have h5 := Sits.cell HWb.out 5
      have h6 := Sits.cell HWb.out 6
      go_upto_region 28 with (first | (go_at_call 10; refine (eqShape_yes S1 x24 x5 N1 c24 c5 y24 y5 T1.length cy24 cy5 L1 (seqT T1) _ HN1.out HL1.out HT1.out (UO.mo0 HHm.out).lr (UO.mo0 HWm.out).lr (UO.mo0 HHm.out).row (UO.mo0 HWm.out).row).mono ?_; rintro o q3a ⟨rfl, bq⟩; have hz_q3 := bq.size; replace HX : Hid (Below W0.heap.size W0 q3a) := (HX.out).trans (bq.mono (HX.out).size); replace HWb : Hid (Sits q3a V5 (shCells S1 x5 N1 c5 y5 T1.length cy5) 29) := Sits.below HWb.out bq (Sits.lt HWb.out); replace HWp : Hid (Sits q3a (V5 + 1) (pkCells p1) 31) := Sits.below HWp.out bq (Sits.lt HWp.out); replace HWm : Hid (UO v5.heap.size V5 q3a x5 N1 L1 y5 T1.length (seqT T1)) := UO.below HWm.out bq; replace HGb : Hid (Sits q3a V8 (shCells S1 x8 N1 c8 y8 T1.length cy8) 29) := Sits.below HGb.out bq (Sits.lt HGb.out); replace HGp : Hid (Sits q3a (V8 + 1) (pkCells p1) 31) := Sits.below HGp.out bq (Sits.lt HGp.out); replace HGm : Hid (UO wb.heap.size V8 q3a x8 N1 (upL L1 1) y8 T1.length (fun i => upAt L1 1 N1 + i)) := UO.below HGm.out bq; replace HHb : Hid (Sits q3a V24 (shCells S1 x24 N1 c24 y24 T1.length cy24) 29) := Sits.below HHb.out bq (Sits.lt HHb.out); replace HHp : Hid (Sits q3a (V24 + 1) (pkCells p1) 31) := Sits.below HHp.out bq (Sits.lt HHp.out); replace HHm : Hid (UO v24.heap.size V24 q3a x24 N1 L1 y24 T1.length (seqT T1)) := UO.below HHm.out bq; clear g0 h0 g1 h1 g2 h2 g3 h3 g4 h4 g5 h5 g6 h6; have g0 := Sits.cell HHp.out 0; have g1 := Sits.cell HHp.out 1; have g2 := Sits.cell HHp.out 2; have g3 := Sits.cell HHp.out 3; have g4 := Sits.cell HHp.out 4; have g5 := Sits.cell HHp.out 5; have h0 := Sits.cell HWp.out 0; have h1 := Sits.cell HWp.out 1; have h2 := Sits.cell HWp.out 2; have h3 := Sits.cell HWp.out 3; have h4 := Sits.cell HWp.out 4; have h5 := Sits.cell HWp.out 5; clear bq) | (go_at_call 11; refine (eqPkt_yes p1 _).mono ?_; rintro o q3 ⟨rfl, k3⟩; have bq := k3.1; have hy_q3 := bq.size; replace HX : Hid (Below W0.heap.size W0 q3) := (HX.out).trans (bq.mono (HX.out).size); replace HWb : Hid (Sits q3 V5 (shCells S1 x5 N1 c5 y5 T1.length cy5) 29) := Sits.below HWb.out bq (Sits.lt HWb.out); replace HWp : Hid (Sits q3 (V5 + 1) (pkCells p1) 31) := Sits.below HWp.out bq (Sits.lt HWp.out); replace HWm : Hid (UO v5.heap.size V5 q3 x5 N1 L1 y5 T1.length (seqT T1)) := UO.below HWm.out bq; replace HGb : Hid (Sits q3 V8 (shCells S1 x8 N1 c8 y8 T1.length cy8) 29) := Sits.below HGb.out bq (Sits.lt HGb.out); replace HGp : Hid (Sits q3 (V8 + 1) (pkCells p1) 31) := Sits.below HGp.out bq (Sits.lt HGp.out); replace HGm : Hid (UO wb.heap.size V8 q3 x8 N1 (upL L1 1) y8 T1.length (fun i => upAt L1 1 N1 + i)) := UO.below HGm.out bq; replace HHb : Hid (Sits q3 V24 (shCells S1 x24 N1 c24 y24 T1.length cy24) 29) := Sits.below HHb.out bq (Sits.lt HHb.out); replace HHp : Hid (Sits q3 (V24 + 1) (pkCells p1) 31) := Sits.below HHp.out bq (Sits.lt HHp.out); replace HHm : Hid (UO v24.heap.size V24 q3 x24 N1 L1 y24 T1.length (seqT T1)) := UO.below HHm.out bq; clear bq k3))
      clear g0 g1 g2 g3 g4 g5 h0 h1 h2 h3 h4 h5
      have g0 := Sits.cell HGb.out 0
      have g1 := Sits.cell HGb.out 1
      have g2 := Sits.cell HGb.out 2
      have g3 := Sits.cell HGb.out 3
      have g4 := Sits.cell HGb.out 4
      have g5 := Sits.cell HGb.out 5
      have g6 := Sits.cell HGb.out 6
      go_wp2_with (go_at_call 13; refine (heldShape_mk S1 x8 N1 c8 y8 T1.length cy8 L1 1 _ (UO.mo0 HGm.out).lr (UO.mo0 HGm.out).row HN1.out HC1.out HT1.out (by omega) (by omega)).mono ?_; rintro o u14 ⟨rfl, bq⟩; rw [HQ1.out]; have hz_u14 := bq.size; replace HX : Hid (Below W0.heap.size W0 u14) := (HX.out).trans (bq.mono (HX.out).size); replace HWb : Hid (Sits u14 V5 (shCells S1 x5 N1 c5 y5 T1.length cy5) 29) := Sits.below HWb.out bq (Sits.lt HWb.out); replace HWp : Hid (Sits u14 (V5 + 1) (pkCells p1) 31) := Sits.below HWp.out bq (Sits.lt HWp.out); replace HWm : Hid (UO v5.heap.size V5 u14 x5 N1 L1 y5 T1.length (seqT T1)) := UO.below HWm.out bq; replace HGb : Hid (Sits u14 V8 (shCells S1 x8 N1 c8 y8 T1.length cy8) 29) := Sits.below HGb.out bq (Sits.lt HGb.out); replace HGp : Hid (Sits u14 (V8 + 1) (pkCells p1) 31) := Sits.below HGp.out bq (Sits.lt HGp.out); replace HGm : Hid (UO wb.heap.size V8 u14 x8 N1 (upL L1 1) y8 T1.length (fun i => upAt L1 1 N1 + i)) := UO.below HGm.out bq; replace HHb : Hid (Sits u14 V24 (shCells S1 x24 N1 c24 y24 T1.length cy24) 29) := Sits.below HHb.out bq (Sits.lt HHb.out); replace HHp : Hid (Sits u14 (V24 + 1) (pkCells p1) 31) := Sits.below HHp.out bq (Sits.lt HHp.out); replace HHm : Hid (UO v24.heap.size V24 u14 x24 N1 L1 y24 T1.length (seqT T1)) := UO.below HHm.out bq; clear bq)
      go_ret
      exact ⟨rfl, (HA.out _ HX.out).2⟩

section
variable {H : Type} {enc : TypeId × Value → H} {W : World} {base : Nat} {sp : Nat → Bool} {held : Bool}

set_option maxRecDepth 100000 in
theorem openInt {n : Nat} {c : Value} {y : DataW H × List MemPlace} (h : DataW.trod enc Try.prog W base sp held n 3 [c] = some y) : ∃ z : Int, c = .int .i64 z ∧ (-9223372036854775808 ≤ z ∧ z ≤ 9223372036854775807) := by
  obtain ⟨z, h1, _, hw⟩ := DataW.trod_int Try.underlying3 h
  simp only [List.cons.injEq, and_true] at h1
  exact ⟨z, h1, bd hw⟩

set_option maxRecDepth 100000 in
theorem openBool {n : Nat} {c : Value} {y : DataW H × List MemPlace} (h : DataW.trod enc Try.prog W base sp held n 4 [c] = some y) : ∃ z : Bool, c = .bool z := by
  obtain ⟨z, h1, _⟩ := DataW.trod_bool Try.underlying4 h
  simp only [List.cons.injEq, and_true] at h1
  exact ⟨z, h1⟩

set_option maxRecDepth 100000 in
theorem openCodel {fuel : Nat} {cs : List Value} {x : DataW H × List MemPlace} (h : DataW.trod enc Try.prog W base sp held fuel 97 cs = some x) :
    ∃ r : Cd, r.In ∧ cs = [.int .i64 r.tg, .int .i64 r.iv, .int .i64 r.fi, .int .i64 r.nx, .int .i64 r.ct, .int .i64 r.la, .bool r.dr] := by
  obtain ⟨xs, n, rfl, hx, hl, hxl, hall⟩ := DataW.trod_struct Try.underlying97 h
  rw [cellsCodel] at hl
  match cs, hl with
  | [c0, c1, c2, c3, c4, c5, c6], _ =>
  match xs, hxl with
  | [y0, y1, y2, y3, y4, y5, y6], _ =>
  have b0 : DataW.trod enc Try.prog W base sp held n 3 (([c0, c1, c2, c3, c4, c5, c6].drop 0).take (Try.prog.cellsOf 3)) = some y0 := hall 0 _ rfl
  rw [cellsInt] at b0
  replace b0 : DataW.trod enc Try.prog W base sp held n 3 [c0] = some y0 := b0
  have b1 : DataW.trod enc Try.prog W base sp held n 3 (([c0, c1, c2, c3, c4, c5, c6].drop 1).take (Try.prog.cellsOf 3)) = some y1 := hall 1 _ rfl
  rw [cellsInt] at b1
  replace b1 : DataW.trod enc Try.prog W base sp held n 3 [c1] = some y1 := b1
  have b2 : DataW.trod enc Try.prog W base sp held n 3 (([c0, c1, c2, c3, c4, c5, c6].drop 2).take (Try.prog.cellsOf 3)) = some y2 := hall 2 _ rfl
  rw [cellsInt] at b2
  replace b2 : DataW.trod enc Try.prog W base sp held n 3 [c2] = some y2 := b2
  have b3 : DataW.trod enc Try.prog W base sp held n 3 (([c0, c1, c2, c3, c4, c5, c6].drop 3).take (Try.prog.cellsOf 3)) = some y3 := hall 3 _ rfl
  rw [cellsInt] at b3
  replace b3 : DataW.trod enc Try.prog W base sp held n 3 [c3] = some y3 := b3
  have b4 : DataW.trod enc Try.prog W base sp held n 3 (([c0, c1, c2, c3, c4, c5, c6].drop 4).take (Try.prog.cellsOf 3)) = some y4 := hall 4 _ rfl
  rw [cellsInt] at b4
  replace b4 : DataW.trod enc Try.prog W base sp held n 3 [c4] = some y4 := b4
  have b5 : DataW.trod enc Try.prog W base sp held n 3 (([c0, c1, c2, c3, c4, c5, c6].drop 5).take (Try.prog.cellsOf 3)) = some y5 := hall 5 _ rfl
  rw [cellsInt] at b5
  replace b5 : DataW.trod enc Try.prog W base sp held n 3 [c5] = some y5 := b5
  have b6 : DataW.trod enc Try.prog W base sp held n 4 (([c0, c1, c2, c3, c4, c5, c6].drop 6).take (Try.prog.cellsOf 4)) = some y6 := hall 6 _ rfl
  rw [cellsBool] at b6
  replace b6 : DataW.trod enc Try.prog W base sp held n 4 [c6] = some y6 := b6
  obtain ⟨z0, rfl, i0⟩ := openInt (y := y0) b0
  obtain ⟨z1, rfl, i1⟩ := openInt (y := y1) b1
  obtain ⟨z2, rfl, i2⟩ := openInt (y := y2) b2
  obtain ⟨z3, rfl, i3⟩ := openInt (y := y3) b3
  obtain ⟨z4, rfl, i4⟩ := openInt (y := y4) b4
  obtain ⟨z5, rfl, i5⟩ := openInt (y := y5) b5
  obtain ⟨z6, rfl⟩ := openBool (y := y6) b6
  exact ⟨⟨z0, z1, z2, z3, z4, z5, z6⟩, ⟨i0, i1, i2, i3, i4, i5⟩, rfl⟩

set_option maxRecDepth 100000 in
theorem openPkt {fuel : Nat} {cs : List Value} {x : DataW H × List MemPlace} (h : DataW.trod enc Try.prog W base sp held fuel 138 cs = some x) :
    ∃ r : Pk, r.In ∧ cs = [.int .i64 r.id, .int .i64 r.flow, .int .i64 r.host, .int .i64 r.size, .int .i64 r.tm, .int .i64 r.ecn] := by
  obtain ⟨xs, n, rfl, hx, hl, hxl, hall⟩ := DataW.trod_struct Try.underlying138 h
  rw [cellsPkt] at hl
  match cs, hl with
  | [c0, c1, c2, c3, c4, c5], _ =>
  match xs, hxl with
  | [y0, y1, y2, y3, y4, y5], _ =>
  have b0 : DataW.trod enc Try.prog W base sp held n 3 (([c0, c1, c2, c3, c4, c5].drop 0).take (Try.prog.cellsOf 3)) = some y0 := hall 0 _ rfl
  rw [cellsInt] at b0
  replace b0 : DataW.trod enc Try.prog W base sp held n 3 [c0] = some y0 := b0
  have b1 : DataW.trod enc Try.prog W base sp held n 3 (([c0, c1, c2, c3, c4, c5].drop 1).take (Try.prog.cellsOf 3)) = some y1 := hall 1 _ rfl
  rw [cellsInt] at b1
  replace b1 : DataW.trod enc Try.prog W base sp held n 3 [c1] = some y1 := b1
  have b2 : DataW.trod enc Try.prog W base sp held n 3 (([c0, c1, c2, c3, c4, c5].drop 2).take (Try.prog.cellsOf 3)) = some y2 := hall 2 _ rfl
  rw [cellsInt] at b2
  replace b2 : DataW.trod enc Try.prog W base sp held n 3 [c2] = some y2 := b2
  have b3 : DataW.trod enc Try.prog W base sp held n 3 (([c0, c1, c2, c3, c4, c5].drop 3).take (Try.prog.cellsOf 3)) = some y3 := hall 3 _ rfl
  rw [cellsInt] at b3
  replace b3 : DataW.trod enc Try.prog W base sp held n 3 [c3] = some y3 := b3
  have b4 : DataW.trod enc Try.prog W base sp held n 3 (([c0, c1, c2, c3, c4, c5].drop 4).take (Try.prog.cellsOf 3)) = some y4 := hall 4 _ rfl
  rw [cellsInt] at b4
  replace b4 : DataW.trod enc Try.prog W base sp held n 3 [c4] = some y4 := b4
  have b5 : DataW.trod enc Try.prog W base sp held n 3 (([c0, c1, c2, c3, c4, c5].drop 5).take (Try.prog.cellsOf 3)) = some y5 := hall 5 _ rfl
  rw [cellsInt] at b5
  replace b5 : DataW.trod enc Try.prog W base sp held n 3 [c5] = some y5 := b5
  obtain ⟨z0, rfl, i0⟩ := openInt (y := y0) b0
  obtain ⟨z1, rfl, i1⟩ := openInt (y := y1) b1
  obtain ⟨z2, rfl, i2⟩ := openInt (y := y2) b2
  obtain ⟨z3, rfl, i3⟩ := openInt (y := y3) b3
  obtain ⟨z4, rfl, i4⟩ := openInt (y := y4) b4
  obtain ⟨z5, rfl, i5⟩ := openInt (y := y5) b5
  exact ⟨⟨z0, z1, z2, z3, z4, z5⟩, ⟨i0, i1, i2, i3, i4, i5⟩, rfl⟩

set_option maxRecDepth 100000 in
theorem openPkts {fuel : Nat} {cs : List Value} {x : DataW H × List MemPlace} (h : DataW.trod enc Try.prog W base sp held fuel 96 cs = some x) :
    ∃ (a : Option Addr) (len cap : Nat) (f : Nat → Pk), cs = [.slice a len cap] ∧ len ≤ cap ∧ cap ≤ maxLen ∧ PR W.heap.size W a len f ∧ ∀ i, i < len → (f i).In := by
  rcases Go.Deep.open_slice Try.underlying96 h with ⟨rfl, _⟩ | ⟨a, len, cap, m, n, D, Pl, rfl, hb, hl, hm, hmm, _, hx⟩
  · exact ⟨none, 0, 0, fun _ => default, rfl, Nat.le_refl _, Nat.zero_le _, .inl rfl, fun i hi => absurd hi (Nat.not_lt_zero _)⟩
  · have hlm : len ≤ m := by rw [hmm]; split <;> omega
    have each : ∀ i, i < len → ∃ r : Pk, r.In ∧ (∀ t, t < 6 → W.cell? ((a.add (i * 6)).add t) = some (.int .i64 (r.nth t))) := by
      intro i hi
      obtain ⟨cs', h1, h2⟩ := hx i (by omega)
      rw [cellsPkt] at h1
      obtain ⟨_, hlen, hcell⟩ := World.cells?_some h1
      obtain ⟨r, hr, rfl⟩ := openPkt h2
      refine ⟨r, hr, fun t ht => ?_⟩
      have := hcell t (by omega)
      rw [this]
      have hc : t = 0 ∨ t = 1 ∨ t = 2 ∨ t = 3 ∨ t = 4 ∨ t = 5 := by omega
      rcases hc with rfl | rfl | rfl | rfl | rfl | rfl <;> rfl
    obtain ⟨f, hf⟩ := Go.Deep.choose_lt each
    refine ⟨some a, len, cap, f, rfl, hl, hm, ?_, fun i hi => (hf i hi).1⟩
    by_cases h0 : len = 0
    · exact .inl h0
    · obtain ⟨b, off, inner⟩ := a
      have hc0 := (hf 0 (by omega)).2 0 (by omega)
      have hin : inner = none := by simpa [Addr.add] using World.cell?_spot hc0
      subst hin
      refine .inr ⟨b, off, rfl, World.block_lt_of_cell? W _ hc0, fun i hi => ?_⟩
      have hh : ∀ t, t < 6 → W.cell? ⟨b, off + i * 6 + t, none⟩ = some (.int .i64 ((f i).nth t)) := fun t ht => by
        have := (hf i hi).2 t ht
        rw [Go.WideShapes.add_plain, Go.WideShapes.add_plain] at this
        exact this
      exact ⟨hh 0 (by omega), hh 1 (by omega), hh 2 (by omega), hh 3 (by omega), hh 4 (by omega), hh 5 (by omega)⟩

set_option maxRecDepth 100000 in
theorem openLine {fuel : Nat} {cs : List Value} {x : DataW H × List MemPlace} (h : DataW.trod enc Try.prog W base sp held fuel 99 cs = some x) :
    ∃ (l : Ln) (p : Option Addr) (cap : Nat), cs = (lnCells p cap l).toList ∧ l.n ≤ cap ∧ cap ≤ maxLen ∧ PR W.heap.size W p l.n l.f := by
  obtain ⟨xs, n, rfl, hx, hl, hxl, hall⟩ := DataW.trod_struct Try.underlying99 h
  rw [cellsLine] at hl
  match cs, hl with
  | [c0, c1, c2, c3, c4, c5, c6, c7, c8], _ =>
  match xs, hxl with
  | [y0, y1, y2], _ =>
  have b0 : DataW.trod enc Try.prog W base sp held n 96 (([c0, c1, c2, c3, c4, c5, c6, c7, c8].drop 0).take (Try.prog.cellsOf 96)) = some y0 := hall 0 _ rfl
  rw [cellsSlice] at b0
  replace b0 : DataW.trod enc Try.prog W base sp held n 96 [c0] = some y0 := b0
  have b1 : DataW.trod enc Try.prog W base sp held n 3 (([c0, c1, c2, c3, c4, c5, c6, c7, c8].drop 1).take (Try.prog.cellsOf 3)) = some y1 := hall 1 _ rfl
  rw [cellsInt] at b1
  replace b1 : DataW.trod enc Try.prog W base sp held n 3 [c1] = some y1 := b1
  have b2 : DataW.trod enc Try.prog W base sp held n 97 (([c0, c1, c2, c3, c4, c5, c6, c7, c8].drop 2).take (Try.prog.cellsOf 97)) = some y2 := hall 2 _ rfl
  rw [cellsCodel] at b2
  replace b2 : DataW.trod enc Try.prog W base sp held n 97 [c2, c3, c4, c5, c6, c7, c8] = some y2 := b2
  obtain ⟨p, len, cap, f, hs, h1, h2, h3, h4⟩ := openPkts (x := y0) b0
  obtain ⟨z, rfl, iz⟩ := openInt (y := y1) b1
  obtain ⟨r, hr, hcs⟩ := openCodel (x := y2) b2
  simp only [List.cons.injEq, and_true] at hs hcs
  obtain ⟨rfl, rfl, rfl, rfl, rfl, rfl, rfl⟩ := hcs
  subst hs
  exact ⟨⟨len, f, z, r⟩, p, cap, rfl, h1, h2, h3⟩

set_option maxRecDepth 100000 in
theorem openInts {fuel : Nat} {cs : List Value} {x : DataW H × List MemPlace} (h : DataW.trod enc Try.prog W base sp held fuel 23 cs = some x) :
    ∃ (a : Option Addr) (len cap : Nat) (f : Nat → Int), cs = [.slice a len cap] ∧ len ≤ cap ∧ cap ≤ maxLen ∧ Row .i64 W a len f := by
  rcases Go.Deep.open_slice Try.underlying23 h with ⟨rfl, _⟩ | ⟨a, len, cap, m, n, D, Pl, rfl, hb, hl, hm, hmm, _, hx⟩
  · exact ⟨none, 0, 0, fun _ => 0, rfl, Nat.le_refl _, Nat.zero_le _, .inl rfl⟩
  · have hlm : len ≤ m := by rw [hmm]; split <;> omega
    have each : ∀ i, i < len → ∃ r : Int, W.cell? (a.add (i * 1)) = some (.int .i64 r) := by
      intro i hi
      obtain ⟨cs', h1, h2⟩ := hx i (by omega)
      rw [cellsInt] at h1
      obtain ⟨_, hlen, hcell⟩ := World.cells?_some h1
      match cs', hlen with
      | [c0], _ =>
      obtain ⟨z, rfl, _⟩ := openInt h2
      have := hcell 0 (by omega)
      exact ⟨z, by simpa [Addr.add] using this⟩
    obtain ⟨f, hf⟩ := Go.Deep.choose_lt each
    refine ⟨some a, len, cap, f, rfl, hl, hm, ?_⟩
    by_cases h0 : len = 0
    · exact .inl h0
    · obtain ⟨b, off, inner⟩ := a
      have hc0 := hf 0 (by omega)
      have hin : inner = none := by simpa [Addr.add] using World.cell?_spot hc0
      subst hin
      refine .inr ⟨b, off, rfl, World.block_lt_of_cell? W _ hc0, fun i hi => ?_⟩
      have := hf i hi
      rw [Go.WideShapes.add_plain, Nat.mul_one] at this
      exact this

set_option maxRecDepth 100000 in
theorem openLines {fuel : Nat} {cs : List Value} {x : DataW H × List MemPlace} (h : DataW.trod enc Try.prog W base sp held fuel 22 cs = some x) :
    ∃ (a : Option Addr) (len cap : Nat) (L : Nat → Ln), cs = [.slice a len cap] ∧ len ≤ cap ∧ cap ≤ maxLen ∧ LR W.heap.size W a len L ∧ ∀ i, i < len → (L i).n ≤ maxLen := by
  rcases Go.Deep.open_slice Try.underlying22 h with ⟨rfl, _⟩ | ⟨a, len, cap, m, n, D, Pl, rfl, hb, hl, hm, hmm, _, hx⟩
  · exact ⟨none, 0, 0, fun _ => default, rfl, Nat.le_refl _, Nat.zero_le _, .inl rfl, fun i hi => absurd hi (Nat.not_lt_zero _)⟩
  · have hlm : len ≤ m := by rw [hmm]; split <;> omega
    have each : ∀ i, i < len → ∃ l : Ln, ∃ (p : Option Addr) (c : Nat), (∀ t, t < 9 → W.cell? ((a.add (i * 9)).add t) = (lnCells p c l)[t]?) ∧ l.n ≤ c ∧ c ≤ maxLen ∧ PR W.heap.size W p l.n l.f := by
      intro i hi
      obtain ⟨cs', h1, h2⟩ := hx i (by omega)
      rw [cellsLine] at h1
      obtain ⟨_, hlen, hcell⟩ := World.cells?_some h1
      obtain ⟨l, p, c, rfl, hc1, hc2, hc3⟩ := openLine h2
      refine ⟨l, p, c, fun t ht => ?_, hc1, hc2, hc3⟩
      have := hcell t (by omega)
      rw [this]
      simp
    obtain ⟨L, hL⟩ := Go.Deep.choose_lt each
    refine ⟨some a, len, cap, L, rfl, hl, hm, ?_, fun i hi => by obtain ⟨_, c, _, h1, h2, _⟩ := hL i hi; omega⟩
    by_cases h0 : len = 0
    · exact .inl h0
    · obtain ⟨b, off, inner⟩ := a
      obtain ⟨p0, c0, hc0, _, _, _⟩ := hL 0 (by omega)
      have hc00 : W.cell? ((Addr.add ⟨b, off, inner⟩ (0 * 9)).add 0) = some (.slice p0 (L 0).n c0) := hc0 0 (by omega)
      have hin : inner = none := by simpa [Addr.add] using World.cell?_spot hc00
      subst hin
      refine .inr ⟨b, off, rfl, World.block_lt_of_cell? W _ hc00, fun i hi => ?_⟩
      obtain ⟨p, c, hc, h1, _, h3⟩ := hL i hi
      refine ⟨p, c, ?_, h1, h3⟩
      have hh : ∀ t, t < 9 → W.cell? ⟨b, off + i * 9 + t, none⟩ = (lnCells p c (L i))[t]? := fun t ht => by
        have := hc t ht
        rw [Go.WideShapes.add_plain, Go.WideShapes.add_plain] at this
        exact this
      exact ⟨hh 0 (by omega), hh 1 (by omega), hh 2 (by omega), hh 3 (by omega), hh 4 (by omega), hh 5 (by omega), hh 6 (by omega), hh 7 (by omega), hh 8 (by omega)⟩

set_option maxRecDepth 100000 in
theorem openShape {fuel : Nat} {cs : List Value} {x : DataW H × List MemPlace} (h : DataW.trod enc Try.prog W base sp held fuel 25 cs = some x) :
    ∃ (s : Sh) (a : Option Addr) (N ca : Nat) (b : Option Addr) (n c : Nat) (L : Nat → Ln) (tn : Nat → Int), ShapeIn W s a N ca b n c L tn ∧ cs = (shCells s a N ca b n c).toList := by
  obtain ⟨xs, n, rfl, hx, hl, hxl, hall⟩ := DataW.trod_struct Try.underlying25 h
  rw [cellsShape] at hl
  match cs, hl with
  | [c0, c1, c2, c3, c4, c5, c6], _ =>
  match xs, hxl with
  | [y0, y1, y2, y3, y4, y5, y6], _ =>
  have b0 : DataW.trod enc Try.prog W base sp held n 3 (([c0, c1, c2, c3, c4, c5, c6].drop 0).take (Try.prog.cellsOf 3)) = some y0 := hall 0 _ rfl
  rw [cellsInt] at b0
  replace b0 : DataW.trod enc Try.prog W base sp held n 3 [c0] = some y0 := b0
  have b1 : DataW.trod enc Try.prog W base sp held n 3 (([c0, c1, c2, c3, c4, c5, c6].drop 1).take (Try.prog.cellsOf 3)) = some y1 := hall 1 _ rfl
  rw [cellsInt] at b1
  replace b1 : DataW.trod enc Try.prog W base sp held n 3 [c1] = some y1 := b1
  have b2 : DataW.trod enc Try.prog W base sp held n 3 (([c0, c1, c2, c3, c4, c5, c6].drop 2).take (Try.prog.cellsOf 3)) = some y2 := hall 2 _ rfl
  rw [cellsInt] at b2
  replace b2 : DataW.trod enc Try.prog W base sp held n 3 [c2] = some y2 := b2
  have b3 : DataW.trod enc Try.prog W base sp held n 3 (([c0, c1, c2, c3, c4, c5, c6].drop 3).take (Try.prog.cellsOf 3)) = some y3 := hall 3 _ rfl
  rw [cellsInt] at b3
  replace b3 : DataW.trod enc Try.prog W base sp held n 3 [c3] = some y3 := b3
  have b4 : DataW.trod enc Try.prog W base sp held n 3 (([c0, c1, c2, c3, c4, c5, c6].drop 4).take (Try.prog.cellsOf 3)) = some y4 := hall 4 _ rfl
  rw [cellsInt] at b4
  replace b4 : DataW.trod enc Try.prog W base sp held n 3 [c4] = some y4 := b4
  have b5 : DataW.trod enc Try.prog W base sp held n 22 (([c0, c1, c2, c3, c4, c5, c6].drop 5).take (Try.prog.cellsOf 22)) = some y5 := hall 5 _ rfl
  rw [cellsLines] at b5
  replace b5 : DataW.trod enc Try.prog W base sp held n 22 [c5] = some y5 := b5
  have b6 : DataW.trod enc Try.prog W base sp held n 23 (([c0, c1, c2, c3, c4, c5, c6].drop 6).take (Try.prog.cellsOf 23)) = some y6 := hall 6 _ rfl
  rw [cellsInts] at b6
  replace b6 : DataW.trod enc Try.prog W base sp held n 23 [c6] = some y6 := b6
  obtain ⟨z0, rfl, i0⟩ := openInt (y := y0) b0
  obtain ⟨z1, rfl, i1⟩ := openInt (y := y1) b1
  obtain ⟨z2, rfl, i2⟩ := openInt (y := y2) b2
  obtain ⟨z3, rfl, i3⟩ := openInt (y := y3) b3
  obtain ⟨z4, rfl, i4⟩ := openInt (y := y4) b4
  obtain ⟨a, N, ca, L, hs2, l1, l2, l3, l4⟩ := openLines (x := y5) b5
  obtain ⟨b, m, cb, tn, hs3, m1, m2, m3⟩ := openInts (x := y6) b6
  simp only [List.cons.injEq, and_true] at hs2 hs3
  subst hs2 hs3
  exact ⟨⟨z0, z1, z2, z3, z4⟩, a, N, ca, b, m, cb, L, tn, ⟨i0, i1, i2, i3, i4, l1, l2, l4, m1, m2, l3, m3⟩, rfl⟩

end

set_option maxRecDepth 100000 in
theorem lifted (os : Os) (started : os.Started) (H : Type) (enc : TypeId × Value → H) :
    ReturnsInHanded {} Try.checked os 3 .any (Rows.fnExactShapePopSpec.pre6 enc Try.prog Try.f3 Rows.fnExactShapePopRow.domain false) (Rows.fnExactShapePopSpec.post enc Try.prog Try.f3 false true false false) := by
  refine returnsInHanded_of_change (C := Try.checked) own started (by kernel_rfl) Try.func3
    (ChangeSpec.witness6 (enc := enc) (C := Try.checked) false ⟨#[], #[.agg #[.int .i64 0, .int .i64 0, .int .i64 0, .int .i64 0, .int .i64 0, .slice none 0 0, .slice none 0 0], .int .i64 0], []⟩ 8 (by kernel_rfl) (by kernel_rfl) (by kernel_rfl) (by kernel_rfl)) ?_
  intro W base args ds gs before hval0 hW hcnd _
  have hval : ∀ (j : Nat) t v, Try.f3.params[j]? = some t → args[j]? = some v → Value.okWide Try.prog W .any base t v := hval0
  have hW' := hW
  obtain ⟨p, q, hA0, hV, rfl, hfz, hnd⟩ := hW
  have hA : DataW.TrodAll enc Try.prog W 0 (fun _ => true) true Try.f3.params.toList args.toList ds p := hA0
  rw [Try.params3] at hA hval
  obtain ⟨v0, vs0, d0, ds0, p0, q0, hargs, rfl, rfl, h0, tl0⟩ := trodAll_cons hA
  obtain ⟨v1, vs1, d1, ds1, p1, q1, rfl, rfl, rfl, h1, tl1⟩ := trodAll_cons tl0
  obtain ⟨rfl, rfl, rfl⟩ := trodAll_nil tl1
  obtain rfl : args = #[v0, v1] := by cases args; simp_all
  obtain ⟨rfl, rfl⟩ := trodVars_none hV
  have k0 := h0
  have lt0 : ∀ x ∈ p0, x.block < W.heap.size := by obtain ⟨m, hm⟩ := k0; exact DataW.trod_lt m _ _ _ hm
  have k1 := h1
  have lt1 : ∀ x ∈ p1, x.block < W.heap.size := by obtain ⟨m, hm⟩ := k1; exact DataW.trod_lt m _ _ _ hm
  obtain ⟨cs0, rfl, hcs0⟩ := okWide_struct Try.underlying25 (hval 0 25 v0 rfl rfl)
  obtain ⟨s0, a0, N0, ca0, b0, n0, cb0, L0, tn0, hin0, hrc0⟩ : ∃ (s : Sh) (a : Option Addr) (N ca : Nat) (b : Option Addr) (n c : Nat) (L : Nat → Ln) (tn : Nat → Int), ShapeIn W s a N ca b n c L tn ∧ cs0 = shCells s a N ca b n c := by
    obtain ⟨fuel, hf⟩ := h0
    obtain ⟨s, a, N, ca, b, n, c, L, tn, hin, hcs'⟩ := openShape hf
    have hc2 : cs0 = (cs0.toList).toArray := by simp
    have hcl : cs0.toList = (shCells s a N ca b n c).toList := by simpa [Value.cells] using hcs'
    rw [hcl] at hc2
    exact ⟨s, a, N, ca, b, n, c, L, tn, hin, hc2⟩
  subst hrc0
  obtain ⟨z1, hzv1, _, _, hzw1⟩ := open_int Try.underlying3 (hval 1 3 v1 rfl rfl) h1
  subst hzv1
  clear hA0 hval0
  refine (walk s0 a0 N0 ca0 b0 n0 cb0 L0 tn0 z1 (bd hzw1) W hin0).mono fun e W' ⟨he, bel⟩ => ?_
  subst he
  exact ⟨_, rfl, _, _, _, [], _, [], hW', trodAll_mk1 (shut_bool Try.underlying4 _), (trodAll_cons_mk (Below.trod laidOut (by kernel_rfl) (of_decide_eq_true (by kernel_rfl)) k0 bel lt0) (trodAll_cons_mk (Below.trod laidOut (by kernel_rfl) (of_decide_eq_true (by kernel_rfl)) k1 bel lt1) trodAll_mk0)), rfl, bel.frame _, fun h => by cases h⟩

theorem over : Rows.fnExactShapePopRow.holds Try.pinned (OpenSpec.ofChange Rows.fnExactShapePopSpec) :=
  OpenClaim.holds_of_wide 3 Try.f3 rfl rfl rfl rfl rfl rfl rfl ⟨rfl, rfl, rfl, rfl, rfl⟩ rfl rfl rfl rfl rfl (by kernel_rfl) Try.func3 (by kernel_rfl)
    (of_decide_eq_true (by kernel_rfl)) (by unfold Func.isWrapper; first | (rw [if_pos (by decide +kernel)]; kernel_rfl) | (rw [if_neg (by decide +kernel)]; exact ⟨rfl, rfl⟩))
    (fun os started H enc _ => lifted os started H enc)

theorem proved : Rows.FnExactShapePopSaid := over
end Go.Proofs.Ytmjggolllijamaa.fnExactShapePop
namespace Go.Proofs.Ytmjggolllijamaa
theorem fnExactShapePop_holds : Rows.FnExactShapePopSaid := fnExactShapePop.proved
#print axioms fnExactShapePop_holds
end Go.Proofs.Ytmjggolllijamaa
