/-
  Whatever Fair the law FnExactFattest is given, it returns true and leaves all that lay as it was: the program's Fattest answers as the specification's; no condition.
-/
import Derived.Test.YtdhdigjghchdjaaRows
import Derived.WalkKit
import Derived.ProofKit
import Derived.OpenShut
import Derived.Test.YtdhdigjghchdjaaFatT
import Derived.Test.YtdhdigjghchdjaaFatI
import Derived.Deep.RegionHeld3
import Derived.Deep.Cut
import Derived.Deep.Slices
import Derived.ShutString
import Derived.ChangeOld
import Derived.Below
namespace Go.Proofs.Ytdhdigjghchdjaa.fnExactFattest
open Go.ChangeShapes Go.WideShapes Go.ChangeAt Go.RowKit
open Go.ChangeMaps (open_string shut_string)
set_option linter.unusedVariables false

theorem own : ownKnob Try.prog.godebug = none := by kernel_rfl
theorem laidOut : laidOutB Try.prog = true := by kernel_rfl
theorem cellsInt : Try.prog.cellsOf 3 = 1 := by kernel_rfl
theorem cellsCodel : Try.prog.cellsOf 47 = 7 := by kernel_rfl
theorem cellsBool : Try.prog.cellsOf 4 = 1 := by kernel_rfl
theorem cellsPkt : Try.prog.cellsOf 94 = 6 := by kernel_rfl
theorem cellsSlice : Try.prog.cellsOf 45 = 1 := by kernel_rfl
theorem cellsLine : Try.prog.cellsOf 49 = 9 := by kernel_rfl
theorem cellsLines : Try.prog.cellsOf 22 = 1 := by kernel_rfl
theorem cellsInts : Try.prog.cellsOf 23 = 1 := by kernel_rfl
theorem cellsFair : Try.prog.cellsOf 25 = 5 := by kernel_rfl


set_option maxHeartbeats 4000000 in
theorem walk (q0 lim0 : Int) (a0 : Option Addr) (N0 ca0 : Nat) (b0 : Option Addr) (nn0 cb0 : Nat) (d0 : Option Addr) (no0 cd0 : Nat) (L0 : Nat → Ln) (nw0 od0 : Nat → Int) (w : World) (w0 : FairIn w q0 lim0 a0 N0 ca0 b0 nn0 cb0 d0 no0 cd0 L0 nw0 od0) :
    Calls Try.prog 3 #[faVal q0 lim0 a0 N0 ca0 b0 nn0 cb0 d0 no0 cd0] w fun e w' => e = .returned (.bool true) ∧ Below w.heap.size w w' := by
  obtain ⟨hq, hl, n1, n2, n3, m1, m2, k1, k2, hlr, hrb, hrc⟩ := w0
  have hN : (N0 : Int) ≤ 9223372036854775807 := by unfold maxLen at n2; omega
  have hn : ∀ i, i < N0 → ((L0 i).n : Int) ≤ 9223372036854775807 := fun i hi => by have := n3 i hi; unfold maxLen at this; omega
  have hm : (nn0 : Int) ≤ 9223372036854775807 := by unfold maxLen at m2; omega
  have hk : (no0 : Int) ≤ 9223372036854775807 := by unfold maxLen at k2; omega
  have HLR : Hid (LR w.heap.size w a0 N0 L0) := hlr
  have HRB : Hid (Row .i64 w b0 nn0 nw0) := hrb
  have HRC : Hid (Row .i64 w d0 no0 od0) := hrc
  have HNN : Hid (∀ i, i < N0 → ((L0 i).n : Int) ≤ 9223372036854775807) := hn
  clear hq hl n1 n2 n3 m1 m2 k1 k2 hlr hrb hrc hn
  obtain ⟨W0, hW0⟩ : ∃ W, w.alloc (.cells (faCells q0 lim0 a0 N0 ca0 b0 nn0 cb0 d0 no0 cd0) 25) = W := ⟨_, rfl⟩
  have s0 : Sits W0 w.heap.size (faCells q0 lim0 a0 N0 ca0 b0 nn0 cb0 d0 no0 cd0) 25 := by rw [← hW0]; exact Sits.new _ _ _
  have bb0 : Below w.heap.size w W0 := by rw [← hW0]; exact (Below.refl _ w).alloc (Nat.le_refl _) _
  have HW0 : Hid (w.alloc (.cells (faCells q0 lim0 a0 N0 ca0 b0 nn0 cb0 d0 no0 cd0) 25) = W0) := hW0
  have HB0 : Hid (Below w.heap.size w W0) := bb0
  have HS0 : Hid (Sits W0 w.heap.size (faCells q0 lim0 a0 N0 ca0 b0 nn0 cb0 d0 no0 cd0) 25) := s0
  have x0 := s0.cell 0
  have x1 := s0.cell 1
  have x2 := s0.cell 2
  have x3 := s0.cell 3
  have x4' := s0.cell 4
  clear s0 bb0 hW0
  go_enter Try.func3, Try.ntmps3
  go_upto_region 2 with fail
  rw [HW0.out]
  clear HW0
  go_upto_region 3 with (go_at_call 4; refine (szFair_any q0 lim0 a0 N0 ca0 b0 nn0 cb0 d0 no0 cd0 L0 _ hN HNN.out hm hk (LR.go HLR.out HB0.out (HB0.out).size)).mono ?_; rintro e w1 ⟨⟨r, rfl, r0, r1, hr⟩, b1⟩; have HR : Hid (0 ≤ r → (N0 : Int) + (cntF L0 N0 : Int) + nn0 + no0 ≤ 1048576) := hr; have HB1 : Hid (Below w.heap.size w w1) := (HB0.out).trans (b1.mono (HB0.out).size); have HS1 : Hid (Sits w1 w.heap.size (faCells q0 lim0 a0 N0 ca0 b0 nn0 cb0 d0 no0 cd0) 25) := Sits.below HS0.out b1 (Sits.lt HS0.out); clear hr b1)
  clear x0 x1 x2 x3 x4' HS0 HB0 hN hm hk HNN
  by_cases hneg : r < 0
  · go_wp2
    go_ret
    exact ⟨rfl, HB1.out⟩
  · have hsz := HR.out (by omega)
    have HC : Hid (cntF L0 N0 ≤ 1048576) := by show _ ≤ _; omega
    have H0 : Hid (N0 ≤ 1048576) := by show _ ≤ _; omega
    have H1 : Hid (nn0 ≤ 1048576) := by show _ ≤ _; omega
    have H2 : Hid (no0 ≤ 1048576) := by show _ ≤ _; omega
    have H12 : Hid (nn0 + no0 ≤ 1048576) := by show _ ≤ _; omega
    have HN : Hid (∀ i, i < N0 → (L0 i).n ≤ 1048576) := fun i hi => Nat.le_trans (cntF_le L0 hi) HC.out
    clear hsz HR
    have x0 := Sits.cell HS1.out 0
    have x1 := Sits.cell HS1.out 1
    have x2 := Sits.cell HS1.out 2
    have x3 := Sits.cell HS1.out 3
    have x4' := Sits.cell HS1.out 4
    go_upto_region 6 with (first
      | (go_at_call 6; refine (toFair_any q0 lim0 a0 N0 ca0 b0 nn0 cb0 d0 no0 cd0 L0 nw0 od0 _ H0.out HN.out H1.out H2.out (LR.go HLR.out HB1.out (HB1.out).size) (Row.below HRB.out HB1.out) (Row.below HRC.out HB1.out)).mono ?_; rintro o w2 ⟨B2, A2, x2', y2', rfl, fo2, b2⟩; have FO2 : Hid (FO _ _ _ _ _ _ _ _ _ _ _ _ _) := fo2; have HBB2 : Hid (Below w.heap.size w w2) := (HB1.out).trans (b2.mono (HB1.out).size); have HS2 : Hid (Sits w2 w.heap.size (faCells q0 lim0 a0 N0 ca0 b0 nn0 cb0 d0 no0 cd0) 25) := Sits.below HS1.out b2 (Sits.lt HS1.out); clear fo2 b2)
      | (go_at_call 5; refine (sfattest_any q0 lim0 (some ⟨B2, 0, none⟩) N0 N0 x2' nn0 nn0 y2' no0 no0 L0 nw0 od0 _ H0.out HC.out H12.out ((FO2.out).1.lr) ((FO2.out).rows).1 ((FO2.out).rows).2).mono ?_; rintro o w3 ⟨rfl, b3⟩; have HB3 : Hid (Below w.heap.size w w3) := (HBB2.out).trans (b3.mono (HBB2.out).size); have HS3 : Hid (Sits w3 w.heap.size (faCells q0 lim0 a0 N0 ca0 b0 nn0 cb0 d0 no0 cd0) 25) := Sits.below HS2.out b3 (Sits.lt HS2.out); clear b3))
    clear x0 x1 x2 x3 x4' HS1 HB1 HS2 HBB2 FO2
    have x0 := Sits.cell HS3.out 0
    have x1 := Sits.cell HS3.out 1
    have x2 := Sits.cell HS3.out 2
    have x3 := Sits.cell HS3.out 3
    have x4' := Sits.cell HS3.out 4
    go_upto_region 7 with (go_at_call 6; refine (toFair_any q0 lim0 a0 N0 ca0 b0 nn0 cb0 d0 no0 cd0 L0 nw0 od0 _ H0.out HN.out H1.out H2.out (LR.go HLR.out HB3.out (HB3.out).size) (Row.below HRB.out HB3.out) (Row.below HRC.out HB3.out)).mono ?_; rintro o w4 ⟨B4, A4, x4, y4, rfl, fo4, b4⟩; have FO4 : Hid (FO _ _ _ _ _ _ _ _ _ _ _ _ _) := fo4; have HB4 : Hid (Below w.heap.size w w4) := (HB3.out).trans (b4.mono (HB3.out).size); have HS4 : Hid (Sits w4 w.heap.size (faCells q0 lim0 a0 N0 ca0 b0 nn0 cb0 d0 no0 cd0) 25) := Sits.below HS3.out b4 (Sits.lt HS3.out); clear fo4 b4)
    obtain ⟨V4, hV4⟩ : ∃ V, w4.heap.size = V := ⟨_, rfl⟩
    obtain ⟨wb, hA⟩ : ∃ x, w4.alloc (.cells (faCells q0 lim0 (some ⟨B4, 0, none⟩) N0 N0 x4 nn0 nn0 y4 no0 no0) 30) = x := ⟨_, rfl⟩
    have gg : Sits wb V4 (faCells q0 lim0 (some ⟨B4, 0, none⟩) N0 N0 x4 nn0 nn0 y4 no0 no0) 30 := by rw [← hA]; exact Sits.new' hV4
    have b4a : Below w4.heap.size w4 wb := by rw [← hA]; exact (Below.refl _ _).alloc (Nat.le_refl _) _
    have HB5 : Hid (Below w.heap.size w wb) := (HB4.out).trans (b4a.mono (HB4.out).size)
    have HS5 : Hid (Sits wb w.heap.size (faCells q0 lim0 a0 N0 ca0 b0 nn0 cb0 d0 no0 cd0) 25) := Sits.below HS4.out b4a (Sits.lt HS4.out)
    have FO5 : Hid (FO _ wb _ _ _ _ _ _ _ _ _ _ _) := FO.below FO4.out b4a
    have HGG : Hid (Sits wb V4 (faCells q0 lim0 (some ⟨B4, 0, none⟩) N0 N0 x4 nn0 nn0 y4 no0 no0) 30) := gg
    rw [hA, hV4]
    clear x0 x1 x2 x3 x4' hA hV4 b4a HB4 HB3 HS3 HS4 FO4
    have y0 := gg.cell 0
    have y1 := gg.cell 1
    have y2 := gg.cell 2
    have y3 := gg.cell 3
    have y4' := gg.cell 4
    clear gg
    go_upto_region 8 with (go_at_call 7; refine (ifattest_any q0 lim0 (some ⟨B4, 0, none⟩) N0 N0 x4 nn0 nn0 y4 no0 no0 L0 nw0 od0 _ H0.out HC.out H12.out ((FO5.out).1.lr) ((FO5.out).rows).1 ((FO5.out).rows).2).mono ?_; rintro o w6 ⟨rfl, b6⟩; have HB6 : Hid (Below w.heap.size w w6) := (HB5.out).trans (b6.mono (HB5.out).size); have HS6 : Hid (Sits w6 w.heap.size (faCells q0 lim0 a0 N0 ca0 b0 nn0 cb0 d0 no0 cd0) 25) := Sits.below HS5.out b6 (Sits.lt HS5.out); have HG6 : Hid (Sits w6 V4 (faCells q0 lim0 (some ⟨B4, 0, none⟩) N0 N0 x4 nn0 nn0 y4 no0 no0) 30) := Sits.below HGG.out b6 (Sits.lt HGG.out); have FO6 : Hid (FO _ w6 _ _ _ _ _ _ _ _ _ _ _) := FO.below FO5.out b6; clear b6)
    clear y0 y1 y2 y3 y4' HB5 HS5 HGG FO5
    go_upto_region 10 with fail
    have hSB : Hid (∀ w', Below w6.heap.size w6 w' → ((w'.cell? ⟨V4, 0, none⟩ = some (.int .i64 q0) ∧ w'.cell? ⟨V4, 1, none⟩ = some (.int .i64 lim0) ∧ w'.cell? ⟨V4, 2, none⟩ = some (.slice (some ⟨B4, 0, none⟩) N0 N0) ∧ w'.cell? ⟨V4, 3, none⟩ = some (.slice x4 nn0 nn0) ∧ w'.cell? ⟨V4, 4, none⟩ = some (.slice y4 no0 no0)) ∧ (w'.cell? ⟨w.heap.size, 0, none⟩ = some (.int .i64 q0) ∧ w'.cell? ⟨w.heap.size, 1, none⟩ = some (.int .i64 lim0) ∧ w'.cell? ⟨w.heap.size, 2, none⟩ = some (.slice a0 N0 ca0) ∧ w'.cell? ⟨w.heap.size, 3, none⟩ = some (.slice b0 nn0 cb0) ∧ w'.cell? ⟨w.heap.size, 4, none⟩ = some (.slice d0 no0 cd0)))) := fun w' hw' => by
      have e1 := Sits.below HG6.out hw' (Sits.lt HG6.out)
      have e2 := Sits.below HS6.out hw' (Sits.lt HS6.out)
      exact ⟨⟨e1.cell 0, e1.cell 1, e1.cell 2, e1.cell 3, e1.cell 4⟩, ⟨e2.cell 0, e2.cell 1, e2.cell 2, e2.cell 3, e2.cell 4⟩⟩
    have BD : Below w.heap.size w w6.drew := (HB6.out).drew
    have FOD : Hid (FO _ w6.drew _ _ _ _ _ _ _ _ _ _ _) := FO.below FO6.out ((Below.refl _ _).drew)
    set_option maxRecDepth 100000 in go_region_held3 (fun w' => ((w'.cell? ⟨V4, 0, none⟩ = some (.int .i64 q0) ∧ w'.cell? ⟨V4, 1, none⟩ = some (.int .i64 lim0) ∧ w'.cell? ⟨V4, 2, none⟩ = some (.slice (some ⟨B4, 0, none⟩) N0 N0) ∧ w'.cell? ⟨V4, 3, none⟩ = some (.slice x4 nn0 nn0) ∧ w'.cell? ⟨V4, 4, none⟩ = some (.slice y4 no0 no0)) ∧ (w'.cell? ⟨w.heap.size, 0, none⟩ = some (.int .i64 q0) ∧ w'.cell? ⟨w.heap.size, 1, none⟩ = some (.int .i64 lim0) ∧ w'.cell? ⟨w.heap.size, 2, none⟩ = some (.slice a0 N0 ca0) ∧ w'.cell? ⟨w.heap.size, 3, none⟩ = some (.slice b0 nn0 cb0) ∧ w'.cell? ⟨w.heap.size, 4, none⟩ = some (.slice d0 no0 cd0)))) (first | exact hSB.out _ ((Below.refl _ _).drew) | exact hSB.out _ ((Below.refl _ w6).drew.trans b7) | exact hSB.out _ (((Below.refl _ w6).drew.trans b7).trans (b8.mono b7.size))) (first | (go_at_call 6; refine (toFair_any q0 lim0 a0 N0 ca0 b0 nn0 cb0 d0 no0 cd0 L0 nw0 od0 _ H0.out HN.out H1.out H2.out (LR.go HLR.out BD (BD).size) (Row.below HRB.out BD) (Row.below HRC.out BD)).mono ?_; rintro o w7 ⟨B7, A7, x7, y7, rfl, fo7, b7⟩) | (go_at_call 8; refine (eqFair_yes q0 lim0 (some ⟨B4, 0, none⟩) (some ⟨B7, 0, none⟩) N0 N0 N0 x4 x7 nn0 nn0 nn0 y4 y7 no0 no0 no0 L0 nw0 od0 _ H0.out HN.out H1.out H2.out ((FO.below FOD.out b7).1.lr) fo7.1.lr ((FO.below FOD.out b7).rows).1 (fo7.rows).1 ((FO.below FOD.out b7).rows).2 (fo7.rows).2).mono ?_; rintro o w8 ⟨rfl, b8⟩))
    set_option maxRecDepth 100000 in all_goals
      go_wp2
      go_ret
      have B7' := BD.trans (b7.mono BD.size)
      exact ⟨rfl, B7'.trans (b8.mono B7'.size)⟩

section
variable {H : Type} {enc : TypeId × Value → H} {W : World} {base : Nat} {sp : Nat → Bool} {held : Bool}

set_option maxRecDepth 100000 in
theorem openInt {n : Nat} {c : Value} {y : DataW H × List MemPlace} (h : DataW.trod enc Try.prog W base sp held n 3 [c] = some y) : ∃ z : Int, c = .int .i64 z ∧ (-9223372036854775808 ≤ z ∧ z ≤ 9223372036854775807) := by
  obtain ⟨z, h1, _, hw⟩ := DataW.trod_int Try.underlying3 h
  simp only [List.cons.injEq, and_true] at h1
  exact ⟨z, h1, bd hw⟩

set_option maxRecDepth 100000 in
theorem openBool {n : Nat} {c : Value} {y : DataW H × List MemPlace} (h : DataW.trod enc Try.prog W base sp held n 4 [c] = some y) : ∃ z : Bool, c = .bool z := by
  obtain ⟨z, h1, _⟩ := DataW.trod_bool Try.underlying4 h
  simp only [List.cons.injEq, and_true] at h1
  exact ⟨z, h1⟩

set_option maxRecDepth 100000 in
theorem openCodel {fuel : Nat} {cs : List Value} {x : DataW H × List MemPlace} (h : DataW.trod enc Try.prog W base sp held fuel 47 cs = some x) :
    ∃ r : Cd, r.In ∧ cs = [.int .i64 r.tg, .int .i64 r.iv, .int .i64 r.fi, .int .i64 r.nx, .int .i64 r.ct, .int .i64 r.la, .bool r.dr] := by
  obtain ⟨xs, n, rfl, hx, hl, hxl, hall⟩ := DataW.trod_struct Try.underlying47 h
  rw [cellsCodel] at hl
  match cs, hl with
  | [c0, c1, c2, c3, c4, c5, c6], _ =>
  match xs, hxl with
  | [y0, y1, y2, y3, y4, y5, y6], _ =>
  have b0 : DataW.trod enc Try.prog W base sp held n 3 (([c0, c1, c2, c3, c4, c5, c6].drop 0).take (Try.prog.cellsOf 3)) = some y0 := hall 0 _ rfl
  rw [cellsInt] at b0
  replace b0 : DataW.trod enc Try.prog W base sp held n 3 [c0] = some y0 := b0
  have b1 : DataW.trod enc Try.prog W base sp held n 3 (([c0, c1, c2, c3, c4, c5, c6].drop 1).take (Try.prog.cellsOf 3)) = some y1 := hall 1 _ rfl
  rw [cellsInt] at b1
  replace b1 : DataW.trod enc Try.prog W base sp held n 3 [c1] = some y1 := b1
  have b2 : DataW.trod enc Try.prog W base sp held n 3 (([c0, c1, c2, c3, c4, c5, c6].drop 2).take (Try.prog.cellsOf 3)) = some y2 := hall 2 _ rfl
  rw [cellsInt] at b2
  replace b2 : DataW.trod enc Try.prog W base sp held n 3 [c2] = some y2 := b2
  have b3 : DataW.trod enc Try.prog W base sp held n 3 (([c0, c1, c2, c3, c4, c5, c6].drop 3).take (Try.prog.cellsOf 3)) = some y3 := hall 3 _ rfl
  rw [cellsInt] at b3
  replace b3 : DataW.trod enc Try.prog W base sp held n 3 [c3] = some y3 := b3
  have b4 : DataW.trod enc Try.prog W base sp held n 3 (([c0, c1, c2, c3, c4, c5, c6].drop 4).take (Try.prog.cellsOf 3)) = some y4 := hall 4 _ rfl
  rw [cellsInt] at b4
  replace b4 : DataW.trod enc Try.prog W base sp held n 3 [c4] = some y4 := b4
  have b5 : DataW.trod enc Try.prog W base sp held n 3 (([c0, c1, c2, c3, c4, c5, c6].drop 5).take (Try.prog.cellsOf 3)) = some y5 := hall 5 _ rfl
  rw [cellsInt] at b5
  replace b5 : DataW.trod enc Try.prog W base sp held n 3 [c5] = some y5 := b5
  have b6 : DataW.trod enc Try.prog W base sp held n 4 (([c0, c1, c2, c3, c4, c5, c6].drop 6).take (Try.prog.cellsOf 4)) = some y6 := hall 6 _ rfl
  rw [cellsBool] at b6
  replace b6 : DataW.trod enc Try.prog W base sp held n 4 [c6] = some y6 := b6
  obtain ⟨z0, rfl, i0⟩ := openInt (y := y0) b0
  obtain ⟨z1, rfl, i1⟩ := openInt (y := y1) b1
  obtain ⟨z2, rfl, i2⟩ := openInt (y := y2) b2
  obtain ⟨z3, rfl, i3⟩ := openInt (y := y3) b3
  obtain ⟨z4, rfl, i4⟩ := openInt (y := y4) b4
  obtain ⟨z5, rfl, i5⟩ := openInt (y := y5) b5
  obtain ⟨z6, rfl⟩ := openBool (y := y6) b6
  exact ⟨⟨z0, z1, z2, z3, z4, z5, z6⟩, ⟨i0, i1, i2, i3, i4, i5⟩, rfl⟩

set_option maxRecDepth 100000 in
theorem openPkt {fuel : Nat} {cs : List Value} {x : DataW H × List MemPlace} (h : DataW.trod enc Try.prog W base sp held fuel 94 cs = some x) :
    ∃ r : Pk, r.In ∧ cs = [.int .i64 r.id, .int .i64 r.flow, .int .i64 r.host, .int .i64 r.size, .int .i64 r.tm, .int .i64 r.ecn] := by
  obtain ⟨xs, n, rfl, hx, hl, hxl, hall⟩ := DataW.trod_struct Try.underlying94 h
  rw [cellsPkt] at hl
  match cs, hl with
  | [c0, c1, c2, c3, c4, c5], _ =>
  match xs, hxl with
  | [y0, y1, y2, y3, y4, y5], _ =>
  have b0 : DataW.trod enc Try.prog W base sp held n 3 (([c0, c1, c2, c3, c4, c5].drop 0).take (Try.prog.cellsOf 3)) = some y0 := hall 0 _ rfl
  rw [cellsInt] at b0
  replace b0 : DataW.trod enc Try.prog W base sp held n 3 [c0] = some y0 := b0
  have b1 : DataW.trod enc Try.prog W base sp held n 3 (([c0, c1, c2, c3, c4, c5].drop 1).take (Try.prog.cellsOf 3)) = some y1 := hall 1 _ rfl
  rw [cellsInt] at b1
  replace b1 : DataW.trod enc Try.prog W base sp held n 3 [c1] = some y1 := b1
  have b2 : DataW.trod enc Try.prog W base sp held n 3 (([c0, c1, c2, c3, c4, c5].drop 2).take (Try.prog.cellsOf 3)) = some y2 := hall 2 _ rfl
  rw [cellsInt] at b2
  replace b2 : DataW.trod enc Try.prog W base sp held n 3 [c2] = some y2 := b2
  have b3 : DataW.trod enc Try.prog W base sp held n 3 (([c0, c1, c2, c3, c4, c5].drop 3).take (Try.prog.cellsOf 3)) = some y3 := hall 3 _ rfl
  rw [cellsInt] at b3
  replace b3 : DataW.trod enc Try.prog W base sp held n 3 [c3] = some y3 := b3
  have b4 : DataW.trod enc Try.prog W base sp held n 3 (([c0, c1, c2, c3, c4, c5].drop 4).take (Try.prog.cellsOf 3)) = some y4 := hall 4 _ rfl
  rw [cellsInt] at b4
  replace b4 : DataW.trod enc Try.prog W base sp held n 3 [c4] = some y4 := b4
  have b5 : DataW.trod enc Try.prog W base sp held n 3 (([c0, c1, c2, c3, c4, c5].drop 5).take (Try.prog.cellsOf 3)) = some y5 := hall 5 _ rfl
  rw [cellsInt] at b5
  replace b5 : DataW.trod enc Try.prog W base sp held n 3 [c5] = some y5 := b5
  obtain ⟨z0, rfl, i0⟩ := openInt (y := y0) b0
  obtain ⟨z1, rfl, i1⟩ := openInt (y := y1) b1
  obtain ⟨z2, rfl, i2⟩ := openInt (y := y2) b2
  obtain ⟨z3, rfl, i3⟩ := openInt (y := y3) b3
  obtain ⟨z4, rfl, i4⟩ := openInt (y := y4) b4
  obtain ⟨z5, rfl, i5⟩ := openInt (y := y5) b5
  exact ⟨⟨z0, z1, z2, z3, z4, z5⟩, ⟨i0, i1, i2, i3, i4, i5⟩, rfl⟩

set_option maxRecDepth 100000 in
theorem openPkts {fuel : Nat} {cs : List Value} {x : DataW H × List MemPlace} (h : DataW.trod enc Try.prog W base sp held fuel 45 cs = some x) :
    ∃ (a : Option Addr) (len cap : Nat) (f : Nat → Pk), cs = [.slice a len cap] ∧ len ≤ cap ∧ cap ≤ maxLen ∧ PR W.heap.size W a len f ∧ ∀ i, i < len → (f i).In := by
  rcases Go.Deep.open_slice Try.underlying45 h with ⟨rfl, _⟩ | ⟨a, len, cap, m, n, D, Pl, rfl, hb, hl, hm, hmm, _, hx⟩
  · exact ⟨none, 0, 0, fun _ => default, rfl, Nat.le_refl _, Nat.zero_le _, .inl rfl, fun i hi => absurd hi (Nat.not_lt_zero _)⟩
  · have hlm : len ≤ m := by rw [hmm]; split <;> omega
    have each : ∀ i, i < len → ∃ r : Pk, r.In ∧ (∀ t, t < 6 → W.cell? ((a.add (i * 6)).add t) = some (.int .i64 (r.nth t))) := by
      intro i hi
      obtain ⟨cs', h1, h2⟩ := hx i (by omega)
      rw [cellsPkt] at h1
      obtain ⟨_, hlen, hcell⟩ := World.cells?_some h1
      obtain ⟨r, hr, rfl⟩ := openPkt h2
      refine ⟨r, hr, fun t ht => ?_⟩
      have := hcell t (by omega)
      rw [this]
      have hc : t = 0 ∨ t = 1 ∨ t = 2 ∨ t = 3 ∨ t = 4 ∨ t = 5 := by omega
      rcases hc with rfl | rfl | rfl | rfl | rfl | rfl <;> rfl
    obtain ⟨f, hf⟩ := Go.Deep.choose_lt each
    refine ⟨some a, len, cap, f, rfl, hl, hm, ?_, fun i hi => (hf i hi).1⟩
    by_cases h0 : len = 0
    · exact .inl h0
    · obtain ⟨b, off, inner⟩ := a
      have hc0 := (hf 0 (by omega)).2 0 (by omega)
      have hin : inner = none := by simpa [Addr.add] using World.cell?_spot hc0
      subst hin
      refine .inr ⟨b, off, rfl, World.block_lt_of_cell? W _ hc0, fun i hi => ?_⟩
      have hh : ∀ t, t < 6 → W.cell? ⟨b, off + i * 6 + t, none⟩ = some (.int .i64 ((f i).nth t)) := fun t ht => by
        have := (hf i hi).2 t ht
        rw [Go.WideShapes.add_plain, Go.WideShapes.add_plain] at this
        exact this
      exact ⟨hh 0 (by omega), hh 1 (by omega), hh 2 (by omega), hh 3 (by omega), hh 4 (by omega), hh 5 (by omega)⟩

set_option maxRecDepth 100000 in
theorem openLine {fuel : Nat} {cs : List Value} {x : DataW H × List MemPlace} (h : DataW.trod enc Try.prog W base sp held fuel 49 cs = some x) :
    ∃ (l : Ln) (p : Option Addr) (cap : Nat), cs = (lnCells p cap l).toList ∧ l.n ≤ cap ∧ cap ≤ maxLen ∧ PR W.heap.size W p l.n l.f := by
  obtain ⟨xs, n, rfl, hx, hl, hxl, hall⟩ := DataW.trod_struct Try.underlying49 h
  rw [cellsLine] at hl
  match cs, hl with
  | [c0, c1, c2, c3, c4, c5, c6, c7, c8], _ =>
  match xs, hxl with
  | [y0, y1, y2], _ =>
  have b0 : DataW.trod enc Try.prog W base sp held n 45 (([c0, c1, c2, c3, c4, c5, c6, c7, c8].drop 0).take (Try.prog.cellsOf 45)) = some y0 := hall 0 _ rfl
  rw [cellsSlice] at b0
  replace b0 : DataW.trod enc Try.prog W base sp held n 45 [c0] = some y0 := b0
  have b1 : DataW.trod enc Try.prog W base sp held n 3 (([c0, c1, c2, c3, c4, c5, c6, c7, c8].drop 1).take (Try.prog.cellsOf 3)) = some y1 := hall 1 _ rfl
  rw [cellsInt] at b1
  replace b1 : DataW.trod enc Try.prog W base sp held n 3 [c1] = some y1 := b1
  have b2 : DataW.trod enc Try.prog W base sp held n 47 (([c0, c1, c2, c3, c4, c5, c6, c7, c8].drop 2).take (Try.prog.cellsOf 47)) = some y2 := hall 2 _ rfl
  rw [cellsCodel] at b2
  replace b2 : DataW.trod enc Try.prog W base sp held n 47 [c2, c3, c4, c5, c6, c7, c8] = some y2 := b2
  obtain ⟨p, len, cap, f, hs, h1, h2, h3, h4⟩ := openPkts (x := y0) b0
  obtain ⟨z, rfl, iz⟩ := openInt (y := y1) b1
  obtain ⟨r, hr, hcs⟩ := openCodel (x := y2) b2
  simp only [List.cons.injEq, and_true] at hs hcs
  obtain ⟨rfl, rfl, rfl, rfl, rfl, rfl, rfl⟩ := hcs
  subst hs
  exact ⟨⟨len, f, z, r⟩, p, cap, rfl, h1, h2, h3⟩

set_option maxRecDepth 100000 in
theorem openInts {fuel : Nat} {cs : List Value} {x : DataW H × List MemPlace} (h : DataW.trod enc Try.prog W base sp held fuel 23 cs = some x) :
    ∃ (a : Option Addr) (len cap : Nat) (f : Nat → Int), cs = [.slice a len cap] ∧ len ≤ cap ∧ cap ≤ maxLen ∧ Row .i64 W a len f := by
  rcases Go.Deep.open_slice Try.underlying23 h with ⟨rfl, _⟩ | ⟨a, len, cap, m, n, D, Pl, rfl, hb, hl, hm, hmm, _, hx⟩
  · exact ⟨none, 0, 0, fun _ => 0, rfl, Nat.le_refl _, Nat.zero_le _, .inl rfl⟩
  · have hlm : len ≤ m := by rw [hmm]; split <;> omega
    have each : ∀ i, i < len → ∃ r : Int, W.cell? (a.add (i * 1)) = some (.int .i64 r) := by
      intro i hi
      obtain ⟨cs', h1, h2⟩ := hx i (by omega)
      rw [cellsInt] at h1
      obtain ⟨_, hlen, hcell⟩ := World.cells?_some h1
      match cs', hlen with
      | [c0], _ =>
      obtain ⟨z, rfl, _⟩ := openInt h2
      have := hcell 0 (by omega)
      exact ⟨z, by simpa [Addr.add] using this⟩
    obtain ⟨f, hf⟩ := Go.Deep.choose_lt each
    refine ⟨some a, len, cap, f, rfl, hl, hm, ?_⟩
    by_cases h0 : len = 0
    · exact .inl h0
    · obtain ⟨b, off, inner⟩ := a
      have hc0 := hf 0 (by omega)
      have hin : inner = none := by simpa [Addr.add] using World.cell?_spot hc0
      subst hin
      refine .inr ⟨b, off, rfl, World.block_lt_of_cell? W _ hc0, fun i hi => ?_⟩
      have := hf i hi
      rw [Go.WideShapes.add_plain, Nat.mul_one] at this
      exact this

set_option maxRecDepth 100000 in
theorem openLines {fuel : Nat} {cs : List Value} {x : DataW H × List MemPlace} (h : DataW.trod enc Try.prog W base sp held fuel 22 cs = some x) :
    ∃ (a : Option Addr) (len cap : Nat) (L : Nat → Ln), cs = [.slice a len cap] ∧ len ≤ cap ∧ cap ≤ maxLen ∧ LR W.heap.size W a len L ∧ ∀ i, i < len → (L i).n ≤ maxLen := by
  rcases Go.Deep.open_slice Try.underlying22 h with ⟨rfl, _⟩ | ⟨a, len, cap, m, n, D, Pl, rfl, hb, hl, hm, hmm, _, hx⟩
  · exact ⟨none, 0, 0, fun _ => default, rfl, Nat.le_refl _, Nat.zero_le _, .inl rfl, fun i hi => absurd hi (Nat.not_lt_zero _)⟩
  · have hlm : len ≤ m := by rw [hmm]; split <;> omega
    have each : ∀ i, i < len → ∃ l : Ln, ∃ (p : Option Addr) (c : Nat), (∀ t, t < 9 → W.cell? ((a.add (i * 9)).add t) = (lnCells p c l)[t]?) ∧ l.n ≤ c ∧ c ≤ maxLen ∧ PR W.heap.size W p l.n l.f := by
      intro i hi
      obtain ⟨cs', h1, h2⟩ := hx i (by omega)
      rw [cellsLine] at h1
      obtain ⟨_, hlen, hcell⟩ := World.cells?_some h1
      obtain ⟨l, p, c, rfl, hc1, hc2, hc3⟩ := openLine h2
      refine ⟨l, p, c, fun t ht => ?_, hc1, hc2, hc3⟩
      have := hcell t (by omega)
      rw [this]
      simp
    obtain ⟨L, hL⟩ := Go.Deep.choose_lt each
    refine ⟨some a, len, cap, L, rfl, hl, hm, ?_, fun i hi => by obtain ⟨_, c, _, h1, h2, _⟩ := hL i hi; omega⟩
    by_cases h0 : len = 0
    · exact .inl h0
    · obtain ⟨b, off, inner⟩ := a
      obtain ⟨p0, c0, hc0, _, _, _⟩ := hL 0 (by omega)
      have hc00 : W.cell? ((Addr.add ⟨b, off, inner⟩ (0 * 9)).add 0) = some (.slice p0 (L 0).n c0) := hc0 0 (by omega)
      have hin : inner = none := by simpa [Addr.add] using World.cell?_spot hc00
      subst hin
      refine .inr ⟨b, off, rfl, World.block_lt_of_cell? W _ hc00, fun i hi => ?_⟩
      obtain ⟨p, c, hc, h1, _, h3⟩ := hL i hi
      refine ⟨p, c, ?_, h1, h3⟩
      have hh : ∀ t, t < 9 → W.cell? ⟨b, off + i * 9 + t, none⟩ = (lnCells p c (L i))[t]? := fun t ht => by
        have := hc t ht
        rw [Go.WideShapes.add_plain, Go.WideShapes.add_plain] at this
        exact this
      exact ⟨hh 0 (by omega), hh 1 (by omega), hh 2 (by omega), hh 3 (by omega), hh 4 (by omega), hh 5 (by omega), hh 6 (by omega), hh 7 (by omega), hh 8 (by omega)⟩

set_option maxRecDepth 100000 in
theorem openFair {fuel : Nat} {cs : List Value} {x : DataW H × List MemPlace} (h : DataW.trod enc Try.prog W base sp held fuel 25 cs = some x) :
    ∃ (q lim : Int) (a : Option Addr) (N ca : Nat) (b : Option Addr) (nn cb : Nat) (c : Option Addr) (no cc : Nat) (L : Nat → Ln) (nw od : Nat → Int), FairIn W q lim a N ca b nn cb c no cc L nw od ∧ cs = (faCells q lim a N ca b nn cb c no cc).toList := by
  obtain ⟨xs, n, rfl, hx, hl, hxl, hall⟩ := DataW.trod_struct Try.underlying25 h
  rw [cellsFair] at hl
  match cs, hl with
  | [c0, c1, c2, c3, c4], _ =>
  match xs, hxl with
  | [y0, y1, y2, y3, y4], _ =>
  have b0 : DataW.trod enc Try.prog W base sp held n 3 (([c0, c1, c2, c3, c4].drop 0).take (Try.prog.cellsOf 3)) = some y0 := hall 0 _ rfl
  have b1 : DataW.trod enc Try.prog W base sp held n 3 (([c0, c1, c2, c3, c4].drop 1).take (Try.prog.cellsOf 3)) = some y1 := hall 1 _ rfl
  rw [cellsInt] at b0 b1
  replace b0 : DataW.trod enc Try.prog W base sp held n 3 [c0] = some y0 := b0
  replace b1 : DataW.trod enc Try.prog W base sp held n 3 [c1] = some y1 := b1
  have b2 : DataW.trod enc Try.prog W base sp held n 22 (([c0, c1, c2, c3, c4].drop 2).take (Try.prog.cellsOf 22)) = some y2 := hall 2 _ rfl
  rw [cellsLines] at b2
  replace b2 : DataW.trod enc Try.prog W base sp held n 22 [c2] = some y2 := b2
  have b3 : DataW.trod enc Try.prog W base sp held n 23 (([c0, c1, c2, c3, c4].drop 3).take (Try.prog.cellsOf 23)) = some y3 := hall 3 _ rfl
  have b4 : DataW.trod enc Try.prog W base sp held n 23 (([c0, c1, c2, c3, c4].drop 4).take (Try.prog.cellsOf 23)) = some y4 := hall 4 _ rfl
  rw [cellsInts] at b3 b4
  replace b3 : DataW.trod enc Try.prog W base sp held n 23 [c3] = some y3 := b3
  replace b4 : DataW.trod enc Try.prog W base sp held n 23 [c4] = some y4 := b4
  obtain ⟨q, rfl, iq⟩ := openInt (y := y0) b0
  obtain ⟨lim, rfl, il⟩ := openInt (y := y1) b1
  obtain ⟨a, N, ca, L, hs2, l1, l2, l3, l4⟩ := openLines (x := y2) b2
  obtain ⟨b, nn, cb, nw, hs3, m1, m2, m3⟩ := openInts (x := y3) b3
  obtain ⟨d, no, cd, od, hs4, k1, k2, k3⟩ := openInts (x := y4) b4
  simp only [List.cons.injEq, and_true] at hs2 hs3 hs4
  subst hs2 hs3 hs4
  exact ⟨q, lim, a, N, ca, b, nn, cb, d, no, cd, L, nw, od, ⟨iq, il, l1, l2, l4, m1, m2, k1, k2, l3, m3, k3⟩, rfl⟩

end

set_option maxRecDepth 100000 in
theorem lifted (os : Os) (started : os.Started) (H : Type) (enc : TypeId × Value → H) :
    ReturnsInHanded {} Try.checked os 3 .any (Rows.fnExactFattestSpec.pre6 enc Try.prog Try.f3 Rows.fnExactFattestRow.domain false) (Rows.fnExactFattestSpec.post enc Try.prog Try.f3 false true false false) := by
  refine returnsInHanded_of_change (C := Try.checked) own started (by kernel_rfl) Try.func3
    (ChangeSpec.witness6 (enc := enc) (C := Try.checked) false ⟨#[], #[.agg #[.int .i64 0, .int .i64 0, .slice none 0 0, .slice none 0 0, .slice none 0 0]], []⟩ 8 (by kernel_rfl) (by kernel_rfl) (by kernel_rfl) (by kernel_rfl)) ?_
  intro W base args ds gs before hval0 hW hcnd _
  have hval : ∀ (j : Nat) t v, Try.f3.params[j]? = some t → args[j]? = some v → Value.okWide Try.prog W .any base t v := hval0
  have hW' := hW
  obtain ⟨p, q, hA0, hV, rfl, hfz, hnd⟩ := hW
  have hA : DataW.TrodAll enc Try.prog W 0 (fun _ => true) true Try.f3.params.toList args.toList ds p := hA0
  rw [Try.params3] at hA hval
  obtain ⟨v0, vs0, d0, ds0, p0, q0, hargs, rfl, rfl, h0, tl0⟩ := trodAll_cons hA
  obtain ⟨rfl, rfl, rfl⟩ := trodAll_nil tl0
  obtain rfl : args = #[v0] := by cases args; simp_all
  obtain ⟨rfl, rfl⟩ := trodVars_none hV
  have k0 := h0
  have lt0 : ∀ x ∈ p0, x.block < W.heap.size := by obtain ⟨m, hm⟩ := k0; exact DataW.trod_lt m _ _ _ hm
  obtain ⟨cs0, rfl, hcs0⟩ := okWide_struct Try.underlying25 (hval 0 25 v0 rfl rfl)
  obtain ⟨q0, lim0, a0, N0, ca0, b0, nn0, cb0, d0, no0, cd0, L0, nw0, od0, hin0, hrc0⟩ : ∃ (q lim : Int) (a : Option Addr) (N ca : Nat) (b : Option Addr) (nn cb : Nat) (c : Option Addr) (no cc : Nat) (L : Nat → Ln) (nw od : Nat → Int), FairIn W q lim a N ca b nn cb c no cc L nw od ∧ cs0 = faCells q lim a N ca b nn cb c no cc := by
    obtain ⟨fuel, hf⟩ := h0
    obtain ⟨q, lim, a, N, ca, b, nn, cb, c, no, cc, L, nw, od, hin, hcs'⟩ := openFair hf
    have hc2 : cs0 = (cs0.toList).toArray := by simp
    have hcl : cs0.toList = (faCells q lim a N ca b nn cb c no cc).toList := by simpa [Value.cells] using hcs'
    rw [hcl] at hc2
    exact ⟨q, lim, a, N, ca, b, nn, cb, c, no, cc, L, nw, od, hin, hc2⟩
  subst hrc0
  clear hA0 hval0
  refine (walk q0 lim0 a0 N0 ca0 b0 nn0 cb0 d0 no0 cd0 L0 nw0 od0 W hin0).mono fun e W' ⟨he, bel⟩ => ?_
  subst he
  exact ⟨_, rfl, _, _, _, [], _, [], hW', trodAll_mk1 (shut_bool Try.underlying4 _), (trodAll_cons_mk (Below.trod laidOut (by kernel_rfl) (of_decide_eq_true (by kernel_rfl)) k0 bel lt0) trodAll_mk0), rfl, bel.frame _, fun h => by cases h⟩

theorem over : Rows.fnExactFattestRow.holds Try.pinned (OpenSpec.ofChange Rows.fnExactFattestSpec) :=
  OpenClaim.holds_of_wide 3 Try.f3 rfl rfl rfl rfl rfl rfl rfl ⟨rfl, rfl, rfl, rfl, rfl⟩ rfl rfl rfl rfl rfl (by kernel_rfl) Try.func3 (by kernel_rfl)
    (of_decide_eq_true (by kernel_rfl)) (by unfold Func.isWrapper; first | (rw [if_pos (by decide +kernel)]; kernel_rfl) | (rw [if_neg (by decide +kernel)]; exact ⟨rfl, rfl⟩))
    (fun os started H enc _ => lifted os started H enc)

theorem proved : Rows.FnExactFattestSaid := over
end Go.Proofs.Ytdhdigjghchdjaa.fnExactFattest
namespace Go.Proofs.Ytdhdigjghchdjaa
theorem fnExactFattest_holds : Rows.FnExactFattestSaid := fnExactFattest.proved
#print axioms fnExactFattest_holds
end Go.Proofs.Ytdhdigjghchdjaa
