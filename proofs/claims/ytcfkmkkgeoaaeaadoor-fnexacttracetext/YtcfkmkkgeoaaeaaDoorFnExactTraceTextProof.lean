/-
  Whatever trace the law FnExactTraceText is given, it returns true and leaves all that lay as it was: the program's TraceText answers as the specification's, in memory of its own; no condition.
-/
import Derived.Test.YtcfkmkkgeoaaeaaDoorRows
import Derived.WalkKit
import Derived.ProofKit
import Derived.OpenShut
import Derived.Test.YtcfkmkkgeoaaeaaDoorLaidT
import Derived.Test.YtcfkmkkgeoaaeaaDoorTextI
import Derived.Test.YtcfkmkkgeoaaeaaDoorTextT
import Derived.Test.YtcfkmkkgeoaaeaaDoorZone
import Derived.Deep.RegionHeld3
import Derived.Deep.Cut
import Derived.Deep.Slices
import Derived.ShutString
import Derived.ChangeOld
import Derived.Below
namespace Go.Proofs.YtcfkmkkgeoaaeaaDoor.fnExactTraceText
open Go.ChangeShapes Go.WideShapes Go.ChangeAt Go.RowKit
open Go.ChangeMaps (open_string shut_string)
set_option linter.unusedVariables false

theorem own : ownKnob Tryd.prog.godebug = none := by kernel_rfl
theorem laidOut : laidOutB Tryd.prog = true := by kernel_rfl
theorem cellsInt : Tryd.prog.cellsOf 3 = 1 := by kernel_rfl
theorem cellsTrace : Tryd.prog.cellsOf 25 = 6 := by kernel_rfl
theorem cellsBool : Tryd.prog.cellsOf 4 = 1 := by kernel_rfl
theorem cellsPkt : Tryd.prog.cellsOf 56 = 6 := by kernel_rfl
theorem cellsSlice : Tryd.prog.cellsOf 22 = 1 := by kernel_rfl
theorem cellsInts : Tryd.prog.cellsOf 23 = 1 := by kernel_rfl


set_option maxRecDepth 100000 in
set_option maxHeartbeats 12000000 in
theorem walk (T0 : Tr) (A0 : Ta) (w : World) (w0 : TraceIn w T0 A0) (hs : Lib.TabIs Tryd.prog w "internal/strconv.uint64pow10" .u64 Lib.pow10Tab) :
    Calls Tryd.prog 3 #[T0.val A0] w fun e w' => e = .returned (.bool true) ∧ Below w.heap.size w w' := by
  obtain ⟨hA, hno, hnd, hnl, hnt, hnow, hpo, hpd, hpt⟩ := w0
  have HA : Hid (∀ V, Below w.heap.size w V → TrAt V T0 A0) := fun V h => hA.below h
  have HM : Hid ((T0.no : Int) ≤ 9223372036854775807 ∧ (T0.nd : Int) ≤ 9223372036854775807 ∧ (T0.nl : Int) ≤ 9223372036854775807 ∧ (T0.nt : Int) ≤ 9223372036854775807) := ⟨by have := hno.1; have := hno.2; unfold maxLen at this; omega, by have := hnd.1; have := hnd.2; unfold maxLen at this; omega, by have := hnl.1; have := hnl.2; unfold maxLen at this; omega, by have := hnt.1; have := hnt.2; unfold maxLen at this; omega⟩
  clear hA hno hnd hnl hnt hnow hpo hpd hpt
  have lA : Sits (w.alloc (.cells (trCells T0 A0) 25)) w.heap.size (trCells T0 A0) 25 := Sits.new w _ _
  have B : Below w.heap.size w (w.alloc (.cells (trCells T0 A0) 25)) := (Below.refl _ w).alloc (Nat.le_refl _) _
  obtain ⟨l, hl⟩ : ∃ l, txR T0 = l := ⟨_, rfl⟩
  obtain ⟨N, hN⟩ : ∃ N, l.length = N := ⟨_, rfl⟩
  obtain ⟨G, hG⟩ : ∃ G, (fun i => l.getD i 0) = G := ⟨_, rfl⟩
  have HTB : Hid (Lib.TabBelow Tryd.prog w.heap.size w "internal/strconv.uint64pow10" .u64 Lib.pow10Tab) := Lib.tabBelow_of_tabIs hs
  clear hs
  have HS : Hid (∀ (W : World) (d : Ta), TrAt W T0 d → Calls Tryd.prog 5 #[T0.val d] W fun e w' => ∃ (x : Option Addr) (cap : Nat), e = .returned (.slice x N cap) ∧ Zn W.heap.size w'.heap.size w' x N G ∧ Below W.heap.size W w') := fun W d hd => by
    refine (straceText_any T0 d W hd).mono ?_
    rintro e w' ⟨x, cap, rfl, h3, h4⟩
    rw [hl] at h3 ⊢
    have h5 := h3
    rw [hN, hG] at h5
    rw [hN]
    exact ⟨x, cap, rfl, h5, h4⟩
  have HI : Hid (∀ (W : World) (d : Ta), TrAt W T0 d → T0.no ≤ 1048576 → T0.nd ≤ 1048576 → Lib.TabIs Tryd.prog W "internal/strconv.uint64pow10" .u64 Lib.pow10Tab → Calls Tryd.prog 7 #[T0.val d] W fun e w' => ∃ (x : Option Addr) (cap : Nat), e = .returned (.slice x N cap) ∧ Zn W.heap.size w'.heap.size w' x N G ∧ Below W.heap.size W w') := fun W d hd h1 h2 hT => by
    refine (itraceText_any T0 d W hd h1 h2 hT).mono ?_
    rintro e w' ⟨x, cap, rfl, h3, h4⟩
    rw [hl] at h3 ⊢
    have h5 := OB.zn h3
    rw [hN, hG] at h5
    rw [hN]
    exact ⟨x, cap, rfl, h5, h4⟩
  have hNn : N ≤ 1048576 := by
    rw [← hN, ← hl]
    exact txR_len T0
  clear hl hN hG
  have hNi : N ≤ 9223372036854775807 := by omega
  go_enter Tryd.func3, Tryd.ntmps3
  go_upto_region 3 with (go_at_call 4; refine (szTrace_any T0 A0 _ (HM.out).1 (HM.out).2.1 (HM.out).2.2.1 (HM.out).2.2.2).mono ?_; rintro o v1 ⟨⟨r, rfl, hr1, hr2, hr3⟩, b1⟩)
  replace lA := Sits.below lA b1 lA.lt
  replace B := B.trans (b1.mono B.size)
  clear b1 HM
  by_cases hneg : r < 0
  · go_wp2
    go_ret
    exact ⟨rfl, B⟩
  have hall := hr3 (by omega)
  have HL : Hid (T0.no ≤ 1048576 ∧ T0.nd ≤ 1048576 ∧ T0.nl ≤ 1048576 ∧ T0.nt ≤ 1048576) := ⟨by omega, by omega, by omega, by omega⟩
  clear hall hr3
  obtain ⟨qlA0, qlA1, qlA2, qlA3, qlA4, qlA5⟩ := tr_cells lA
  go_upto_region 6 with (first | (go_at_call 6; refine (toTrace_any T0 A0 _ ((HA.out) _ B) (HL.out).1 (HL.out).2.1 (HL.out).2.2.1 (HL.out).2.2.2).mono ?_; rintro o v2 ⟨A2, rfl, -, -, -, -, z2, b2⟩) | (go_at_call 5; refine ((HS.out) _ A2 z2.at).mono ?_; rintro o v4 ⟨x4, c4, rfl, zw, b4⟩))
  clear qlA0 qlA1 qlA2 qlA3 qlA4 qlA5
  clear hneg hr1 hr2
  have tA := Nat.lt_of_lt_of_le lA.lt b2.size
  replace lA := Sits.below lA b2 lA.lt
  replace B := B.trans (b2.mono B.size)
  have t4 := b4.size
  replace lA := Sits.below lA b4 lA.lt
  replace B := B.trans (b4.mono B.size)
  obtain ⟨Lw, hLw⟩ : ∃ n, v2.heap.size = n := ⟨_, rfl⟩
  obtain ⟨Uw, hUw⟩ : ∃ n, v4.heap.size = n := ⟨_, rfl⟩
  rw [hLw] at zw t4 tA
  rw [hUw] at zw t4
  clear b2 b4 z2 hLw
  obtain ⟨qlA0, qlA1, qlA2, qlA3, qlA4, qlA5⟩ := tr_cells lA
  go_upto_region 7 with (go_at_call 6; refine (toTrace_any T0 A0 _ ((HA.out) _ B) (HL.out).1 (HL.out).2.1 (HL.out).2.2.1 (HL.out).2.2.2).mono ?_; rintro o v5 ⟨A5, rfl, -, -, -, -, zx, b1⟩)
  clear qlA0 qlA1 qlA2 qlA3 qlA4 qlA5
  replace lA := Sits.below lA b1 lA.lt
  replace zw := Zn.below zw b1
  replace B := B.trans (b1.mono B.size)
  have t6 := b1.size
  rw [hUw] at zx t6
  clear b1
  obtain ⟨Vx, hV⟩ : ∃ V, v5.heap.size = V := ⟨_, rfl⟩
  obtain ⟨y5, hA⟩ : ∃ x, v5.alloc (.cells (trCells T0 A5) 31) = x := ⟨_, rfl⟩
  have lx : Sits y5 Vx (trCells T0 A5) 31 := by rw [← hA, ← hV]; exact Sits.new _ _ _
  have bA : Below v5.heap.size v5 y5 := by rw [← hA]; go_grown
  replace lA := Sits.below lA bA lA.lt
  replace zw := Zn.below zw bA
  replace zx := TrZ.below zx bA
  replace B := B.trans (bA.mono B.size)
  change Code.wp _ _ _ _ (v5.alloc (.cells (trCells T0 A5) 31))
  rw [hA, hV]
  rw [hV] at zx t6
  clear hA hV bA hUw
  obtain ⟨Lg, hLg⟩ : ∃ n, y5.heap.size = n := ⟨_, rfl⟩
  have t7 : Vx < Lg := by rw [← hLg]; exact lx.lt
  obtain ⟨qlx0, qlx1, qlx2, qlx3, qlx4, qlx5⟩ := tr_cells lx
  go_upto_region 8 with (go_at_call 7; refine ((HI.out) _ A5 zx.at (HL.out).1 (HL.out).2.1 (HTB.out _ B)).mono ?_; rintro o v7 ⟨x7, c7, rfl, zg, b1⟩)
  clear qlx0 qlx1 qlx2 qlx3 qlx4 qlx5
  replace lA := Sits.below lA b1 lA.lt
  replace lx := Sits.below lx b1 lx.lt
  replace zw := Zn.below zw b1
  replace zx := TrZ.below zx b1
  replace B := B.trans (b1.mono B.size)
  have t8 := b1.size
  obtain ⟨Ug, hUg⟩ : ∃ n, v7.heap.size = n := ⟨_, rfl⟩
  rw [hLg] at zg t8
  rw [hUg] at zg t8
  have t9 : Ug ≤ v7.heap.size := by omega
  clear b1 hLg hUg
  go_upto_region 10 with (go_at_call 8; refine (eqByteS_yes x7 x4 N c7 c4 G G _ (Zn.row zg) (Zn.row zw) (fun _ _ => rfl) hNi).mono ?_; rintro o v8 ⟨rfl, b1⟩)
  replace b1 := b1.1
  replace lA := Sits.below lA b1 lA.lt
  replace lx := Sits.below lx b1 lx.lt
  replace zw := Zn.below zw b1
  replace zx := TrZ.below zx b1
  replace zg := Zn.below zg b1
  replace B := B.trans (b1.mono B.size)
  replace t9 := Nat.le_trans t9 b1.size
  clear b1
  go_region_held3 (fun w' => (w'.cell? ⟨Vx, 0, none⟩ = some (.bool T0.ok) ∧ w'.cell? ⟨Vx, 1, none⟩ = some (.slice A5.o T0.no A5.co) ∧ w'.cell? ⟨Vx, 2, none⟩ = some (.slice A5.d T0.nd A5.cd) ∧ w'.cell? ⟨Vx, 3, none⟩ = some (.slice A5.l T0.nl A5.cl) ∧ w'.cell? ⟨Vx, 4, none⟩ = some (.slice A5.t T0.nt A5.ct) ∧ w'.cell? ⟨Vx, 5, none⟩ = some (.int .i64 T0.now)) ∧ (w'.cell? ⟨w.heap.size, 0, none⟩ = some (.bool T0.ok) ∧ w'.cell? ⟨w.heap.size, 1, none⟩ = some (.slice A0.o T0.no A0.co) ∧ w'.cell? ⟨w.heap.size, 2, none⟩ = some (.slice A0.d T0.nd A0.cd) ∧ w'.cell? ⟨w.heap.size, 3, none⟩ = some (.slice A0.l T0.nl A0.cl) ∧ w'.cell? ⟨w.heap.size, 4, none⟩ = some (.slice A0.t T0.nt A0.ct) ∧ w'.cell? ⟨w.heap.size, 5, none⟩ = some (.int .i64 T0.now))) (first | exact ⟨tr_cells lx, tr_cells lA⟩ | exact ⟨tr_cells (Sits.below (W := v8.drew) lx b7 lx.lt), tr_cells (Sits.below (W := v8.drew) lA b7 lA.lt)⟩ | exact ⟨tr_cells ((Sits.below (W := v8.drew) lx b7 lx.lt).below b8 (Sits.below (W := v8.drew) lx b7 lx.lt).lt), tr_cells ((Sits.below (W := v8.drew) lA b7 lA.lt).below b8 (Sits.below (W := v8.drew) lA b7 lA.lt).lt)⟩) (first | (go_at_call 6; refine (toTrace_any T0 A0 _ ((HA.out) _ (Below.drew B)) (HL.out).1 (HL.out).2.1 (HL.out).2.2.1 (HL.out).2.2.2).mono ?_; rintro o v9 ⟨A9, rfl, -, -, -, -, z9, b7⟩) | (go_at_call 9; refine (eqTrace_yes T0 A5 A9 _ (TrAt.below (TrAt.below zx.at ((Below.refl _ _).drew)) b7) z9.at (HL.out).1 (HL.out).2.1 (HL.out).2.2.1 (HL.out).2.2.2).mono ?_; rintro o v10 ⟨rfl, b8⟩))
  replace lA := Sits.below (W := v8.drew) lA b7 lA.lt
  replace lx := Sits.below (W := v8.drew) lx b7 lx.lt
  replace zw := Zn.below (w := v8.drew) zw b7
  replace zx := TrZ.below (TrZ.below zx ((Below.refl _ _).drew)) b7
  replace zg := Zn.below (w := v8.drew) zg b7
  replace B := B.drew.trans (b7.mono B.size)
  replace lA := Sits.below lA b8 lA.lt
  replace lx := Sits.below lx b8 lx.lt
  replace zw := Zn.below zw b8
  replace zx := TrZ.below zx b8
  replace zg := Zn.below zg b8
  replace B := B.trans (b8.mono B.size)
  replace t9 := Nat.le_trans (Nat.le_trans t9 b7.size) b8.size
  clear b7 b8 z9
  have hk2 : decide (1 + (N : Int) < 0) = false := by simp; omega
  obtain ⟨qlx0, qlx1, qlx2, qlx3, qlx4, qlx5⟩ := tr_cells lx
  go_upto_region 14 with (go_at_call 10; refine (markTrace_z Uw Vx T0 A5 _ zx (by omega) (HL.out).1 (HL.out).2.1 (HL.out).2.2.1 (HL.out).2.2.2).mono ?_; rintro o v11 ⟨⟨km, rfl, hkm⟩, c1⟩)
  clear qlx0 qlx1 qlx2 qlx3 qlx4 qlx5
  have hk1 : decide (km < 0) = false := by simp; omega
  replace lA := Sits.chg lA c1 (by omega)
  replace lx := Sits.chg lx c1 (by omega)
  replace zw := Zn.chg zw c1 (by omega)
  replace zg := Zn.chg zg c1 (by omega)
  replace B := B.trans ((c1.below (by omega)).mono (by omega))
  replace t9 := Nat.le_trans t9 c1.size
  clear c1 zx
  go_upto_region 17 with (go_at_call 8; refine (eqByteS_yes x7 x4 N c7 c4 G G _ (Zn.row zg) (Zn.row zw) (fun _ _ => rfl) hNi).mono ?_; rintro o v12 ⟨rfl, b1⟩)
  replace b1 := b1.1
  replace lA := Sits.below lA b1 lA.lt
  replace lx := Sits.below lx b1 lx.lt
  replace zw := Zn.below zw b1
  replace zg := Zn.below zg b1
  replace B := B.trans (b1.mono B.size)
  replace t9 := Nat.le_trans t9 b1.size
  clear b1 hk1 hkm
  go_upto_region 19 with (go_at_call 11; refine (markByteS_zn Lg Ug x7 N c7 G 1 _ zg hNn (by omega) (by omega)).mono ?_; rintro o v13 ⟨rfl, zn, c1⟩)
  replace lA := Sits.chg lA c1 (by omega)
  replace lx := Sits.chg lx c1 (by omega)
  replace zw := Zn.chg zw c1 (by omega)
  replace B := B.trans ((c1.below (by omega)).mono (by omega))
  replace t9 := Nat.le_trans t9 c1.size
  replace zg := zn
  clear c1 zn
  go_upto_region 24 with (go_at_call 12; refine (heldByteS_any x7 N c7 1 _ (Zn.row zg) hNn (by omega) (by omega)).mono ?_; rintro o v14 ⟨rfl, b1⟩)
  replace b1 := b1.1
  replace lA := Sits.below lA b1 lA.lt
  replace lx := Sits.below lx b1 lx.lt
  replace zw := Zn.below zw b1
  replace zg := Zn.below zg b1
  replace B := B.trans (b1.mono B.size)
  clear b1 t9
  obtain ⟨qlA0, qlA1, qlA2, qlA3, qlA4, qlA5⟩ := tr_cells lA
  go_upto_region 25 with (first | (go_at_call 6; refine (toTrace_any T0 A0 _ ((HA.out) _ B) (HL.out).1 (HL.out).2.1 (HL.out).2.2.1 (HL.out).2.2.2).mono ?_; rintro o v15 ⟨A15, rfl, -, -, -, -, z15, b2⟩) | (go_at_call 7; refine ((HI.out) _ A15 z15.at (HL.out).1 (HL.out).2.1 (HTB.out _ (B.trans (b2.mono B.size)))).mono ?_; rintro o v17 ⟨x17, c17, rfl, zh, b4⟩))
  clear qlA0 qlA1 qlA2 qlA3 qlA4 qlA5
  replace lA := Sits.below lA b2 lA.lt
  replace lx := Sits.below lx b2 lx.lt
  replace zw := Zn.below zw b2
  replace zg := Zn.below zg b2
  replace B := B.trans (b2.mono B.size)
  replace lA := Sits.below lA b4 lA.lt
  replace lx := Sits.below lx b4 lx.lt
  replace zw := Zn.below zw b4
  replace zg := Zn.below zg b4
  replace B := B.trans (b4.mono B.size)
  clear b2 b4 z15
  go_upto_region 28 with (go_at_call 8; refine (eqByteS_yes x17 x4 N c17 c4 G G _ (Zn.row zh) (Zn.row zw) (fun _ _ => rfl) hNi).mono ?_; rintro o v18 ⟨rfl, b1⟩)
  replace b1 := b1.1
  replace lA := Sits.below lA b1 lA.lt
  replace lx := Sits.below lx b1 lx.lt
  replace zw := Zn.below zw b1
  replace zg := Zn.below zg b1
  replace zh := Zn.below zh b1
  replace B := B.trans (b1.mono B.size)
  clear b1
  go_wp2_with (go_at_call 12; refine (heldByteS_any x7 N c7 1 _ (Zn.row zg) hNn (by omega) (by omega)).mono ?_; rintro o v20 ⟨rfl, b1⟩)
  replace b1 := b1.1
  replace lA := Sits.below lA b1 lA.lt
  replace lx := Sits.below lx b1 lx.lt
  replace zw := Zn.below zw b1
  replace zg := Zn.below zg b1
  replace zh := Zn.below zh b1
  replace B := B.trans (b1.mono B.size)
  go_ret
  exact ⟨rfl, B⟩

section
variable {H : Type} {enc : TypeId × Value → H} {W : World} {base : Nat} {sp : Nat → Bool} {held : Bool}

set_option maxRecDepth 100000 in
theorem openInt {n : Nat} {c : Value} {y : DataW H × List MemPlace} (h : DataW.trod enc Tryd.prog W base sp held n 3 [c] = some y) : ∃ z : Int, c = .int .i64 z ∧ (-9223372036854775808 ≤ z ∧ z ≤ 9223372036854775807) := by
  obtain ⟨z, h1, _, hw⟩ := DataW.trod_int Tryd.underlying3 h
  simp only [List.cons.injEq, and_true] at h1
  exact ⟨z, h1, bd hw⟩

set_option maxRecDepth 100000 in
theorem openBool {n : Nat} {c : Value} {y : DataW H × List MemPlace} (h : DataW.trod enc Tryd.prog W base sp held n 4 [c] = some y) : ∃ z : Bool, c = .bool z := by
  obtain ⟨z, h1, _⟩ := DataW.trod_bool Tryd.underlying4 h
  simp only [List.cons.injEq, and_true] at h1
  exact ⟨z, h1⟩

set_option maxRecDepth 100000 in
theorem openPkt {fuel : Nat} {cs : List Value} {x : DataW H × List MemPlace} (h : DataW.trod enc Tryd.prog W base sp held fuel 56 cs = some x) :
    ∃ r : Pk, r.In ∧ cs = [.int .i64 r.id, .int .i64 r.flow, .int .i64 r.host, .int .i64 r.size, .int .i64 r.tm, .int .i64 r.ecn] := by
  obtain ⟨xs, n, rfl, hx, hl, hxl, hall⟩ := DataW.trod_struct Tryd.underlying56 h
  rw [cellsPkt] at hl
  match cs, hl with
  | [c0, c1, c2, c3, c4, c5], _ =>
  match xs, hxl with
  | [y0, y1, y2, y3, y4, y5], _ =>
  have b0 : DataW.trod enc Tryd.prog W base sp held n 3 (([c0, c1, c2, c3, c4, c5].drop 0).take (Tryd.prog.cellsOf 3)) = some y0 := hall 0 _ rfl
  rw [cellsInt] at b0
  replace b0 : DataW.trod enc Tryd.prog W base sp held n 3 [c0] = some y0 := b0
  have b1 : DataW.trod enc Tryd.prog W base sp held n 3 (([c0, c1, c2, c3, c4, c5].drop 1).take (Tryd.prog.cellsOf 3)) = some y1 := hall 1 _ rfl
  rw [cellsInt] at b1
  replace b1 : DataW.trod enc Tryd.prog W base sp held n 3 [c1] = some y1 := b1
  have b2 : DataW.trod enc Tryd.prog W base sp held n 3 (([c0, c1, c2, c3, c4, c5].drop 2).take (Tryd.prog.cellsOf 3)) = some y2 := hall 2 _ rfl
  rw [cellsInt] at b2
  replace b2 : DataW.trod enc Tryd.prog W base sp held n 3 [c2] = some y2 := b2
  have b3 : DataW.trod enc Tryd.prog W base sp held n 3 (([c0, c1, c2, c3, c4, c5].drop 3).take (Tryd.prog.cellsOf 3)) = some y3 := hall 3 _ rfl
  rw [cellsInt] at b3
  replace b3 : DataW.trod enc Tryd.prog W base sp held n 3 [c3] = some y3 := b3
  have b4 : DataW.trod enc Tryd.prog W base sp held n 3 (([c0, c1, c2, c3, c4, c5].drop 4).take (Tryd.prog.cellsOf 3)) = some y4 := hall 4 _ rfl
  rw [cellsInt] at b4
  replace b4 : DataW.trod enc Tryd.prog W base sp held n 3 [c4] = some y4 := b4
  have b5 : DataW.trod enc Tryd.prog W base sp held n 3 (([c0, c1, c2, c3, c4, c5].drop 5).take (Tryd.prog.cellsOf 3)) = some y5 := hall 5 _ rfl
  rw [cellsInt] at b5
  replace b5 : DataW.trod enc Tryd.prog W base sp held n 3 [c5] = some y5 := b5
  obtain ⟨z0, rfl, i0⟩ := openInt (y := y0) b0
  obtain ⟨z1, rfl, i1⟩ := openInt (y := y1) b1
  obtain ⟨z2, rfl, i2⟩ := openInt (y := y2) b2
  obtain ⟨z3, rfl, i3⟩ := openInt (y := y3) b3
  obtain ⟨z4, rfl, i4⟩ := openInt (y := y4) b4
  obtain ⟨z5, rfl, i5⟩ := openInt (y := y5) b5
  exact ⟨⟨z0, z1, z2, z3, z4, z5⟩, ⟨i0, i1, i2, i3, i4, i5⟩, rfl⟩

set_option maxRecDepth 100000 in
theorem openPkts {fuel : Nat} {cs : List Value} {x : DataW H × List MemPlace} (h : DataW.trod enc Tryd.prog W base sp held fuel 22 cs = some x) :
    ∃ (a : Option Addr) (len cap : Nat) (f : Nat → Pk), cs = [.slice a len cap] ∧ len ≤ cap ∧ cap ≤ maxLen ∧ PR W.heap.size W a len f ∧ ∀ i, i < len → (f i).In := by
  rcases Go.Deep.open_slice Tryd.underlying22 h with ⟨rfl, _⟩ | ⟨a, len, cap, m, n, D, Pl, rfl, hb, hl, hm, hmm, _, hx⟩
  · exact ⟨none, 0, 0, fun _ => default, rfl, Nat.le_refl _, Nat.zero_le _, .inl rfl, fun i hi => absurd hi (Nat.not_lt_zero _)⟩
  · have hlm : len ≤ m := by rw [hmm]; split <;> omega
    have each : ∀ i, i < len → ∃ r : Pk, r.In ∧ (∀ t, t < 6 → W.cell? ((a.add (i * 6)).add t) = some (.int .i64 (r.nth t))) := by
      intro i hi
      obtain ⟨cs', h1, h2⟩ := hx i (by omega)
      rw [cellsPkt] at h1
      obtain ⟨_, hlen, hcell⟩ := World.cells?_some h1
      obtain ⟨r, hr, rfl⟩ := openPkt h2
      refine ⟨r, hr, fun t ht => ?_⟩
      have := hcell t (by omega)
      rw [this]
      have hc : t = 0 ∨ t = 1 ∨ t = 2 ∨ t = 3 ∨ t = 4 ∨ t = 5 := by omega
      rcases hc with rfl | rfl | rfl | rfl | rfl | rfl <;> rfl
    obtain ⟨f, hf⟩ := Go.Deep.choose_lt each
    refine ⟨some a, len, cap, f, rfl, hl, hm, ?_, fun i hi => (hf i hi).1⟩
    by_cases h0 : len = 0
    · exact .inl h0
    · obtain ⟨b, off, inner⟩ := a
      have hc0 := (hf 0 (by omega)).2 0 (by omega)
      have hin : inner = none := by simpa [Addr.add] using World.cell?_spot hc0
      subst hin
      refine .inr ⟨b, off, rfl, World.block_lt_of_cell? W _ hc0, fun i hi => ?_⟩
      have hh : ∀ t, t < 6 → W.cell? ⟨b, off + i * 6 + t, none⟩ = some (.int .i64 ((f i).nth t)) := fun t ht => by
        have := (hf i hi).2 t ht
        rw [Go.WideShapes.add_plain, Go.WideShapes.add_plain] at this
        exact this
      exact ⟨hh 0 (by omega), hh 1 (by omega), hh 2 (by omega), hh 3 (by omega), hh 4 (by omega), hh 5 (by omega)⟩

set_option maxRecDepth 100000 in
theorem openInts {fuel : Nat} {cs : List Value} {x : DataW H × List MemPlace} (h : DataW.trod enc Tryd.prog W base sp held fuel 23 cs = some x) :
    ∃ (a : Option Addr) (len cap : Nat) (f : Nat → Int), cs = [.slice a len cap] ∧ len ≤ cap ∧ cap ≤ maxLen ∧ Row .i64 W a len f ∧ ∀ i, i < len → (-9223372036854775808 ≤ f i ∧ f i ≤ 9223372036854775807) := by
  rcases Go.Deep.open_slice Tryd.underlying23 h with ⟨rfl, _⟩ | ⟨a, len, cap, m, n, D, Pl, rfl, hb, hl, hm, hmm, _, hx⟩
  · exact ⟨none, 0, 0, fun _ => 0, rfl, Nat.le_refl _, Nat.zero_le _, .inl rfl, fun i hi => absurd hi (Nat.not_lt_zero _)⟩
  · have hlm : len ≤ m := by rw [hmm]; split <;> omega
    have each : ∀ i, i < len → ∃ r : Int, (-9223372036854775808 ≤ r ∧ r ≤ 9223372036854775807) ∧ W.cell? (a.add (i * 1)) = some (.int .i64 r) := by
      intro i hi
      obtain ⟨cs', h1, h2⟩ := hx i (by omega)
      rw [cellsInt] at h1
      obtain ⟨_, hlen, hcell⟩ := World.cells?_some h1
      match cs', hlen with
      | [c0], _ =>
      obtain ⟨z, rfl, hzb⟩ := openInt h2
      have := hcell 0 (by omega)
      exact ⟨z, hzb, by simpa [Addr.add] using this⟩
    obtain ⟨f, hf⟩ := Go.Deep.choose_lt each
    refine ⟨some a, len, cap, f, rfl, hl, hm, ?_, fun i hi => (hf i hi).1⟩
    by_cases h0 : len = 0
    · exact .inl h0
    · obtain ⟨b, off, inner⟩ := a
      have hc0 := (hf 0 (by omega)).2
      have hin : inner = none := by simpa [Addr.add] using World.cell?_spot hc0
      subst hin
      refine .inr ⟨b, off, rfl, World.block_lt_of_cell? W _ hc0, fun i hi => ?_⟩
      have := (hf i hi).2
      rw [Go.WideShapes.add_plain, Nat.mul_one] at this
      exact this

set_option maxRecDepth 100000 in
theorem openTrace {fuel : Nat} {cs : List Value} {x : DataW H × List MemPlace} (h : DataW.trod enc Tryd.prog W base sp held fuel 25 cs = some x) :
    ∃ (T : Tr) (A : Ta), TraceIn W T A ∧ cs = (trCells T A).toList := by
  obtain ⟨xs, n, rfl, hx, hl, hxl, hall⟩ := DataW.trod_struct Tryd.underlying25 h
  rw [cellsTrace] at hl
  match cs, hl with
  | [c0, c1, c2, c3, c4, c5], _ =>
  match xs, hxl with
  | [y0, y1, y2, y3, y4, y5], _ =>
  have b0 : DataW.trod enc Tryd.prog W base sp held n 4 (([c0, c1, c2, c3, c4, c5].drop 0).take (Tryd.prog.cellsOf 4)) = some y0 := hall 0 _ rfl
  rw [cellsBool] at b0
  replace b0 : DataW.trod enc Tryd.prog W base sp held n 4 [c0] = some y0 := b0
  have b1 : DataW.trod enc Tryd.prog W base sp held n 22 (([c0, c1, c2, c3, c4, c5].drop 1).take (Tryd.prog.cellsOf 22)) = some y1 := hall 1 _ rfl
  rw [cellsSlice] at b1
  replace b1 : DataW.trod enc Tryd.prog W base sp held n 22 [c1] = some y1 := b1
  have b2 : DataW.trod enc Tryd.prog W base sp held n 22 (([c0, c1, c2, c3, c4, c5].drop 2).take (Tryd.prog.cellsOf 22)) = some y2 := hall 2 _ rfl
  rw [cellsSlice] at b2
  replace b2 : DataW.trod enc Tryd.prog W base sp held n 22 [c2] = some y2 := b2
  have b3 : DataW.trod enc Tryd.prog W base sp held n 22 (([c0, c1, c2, c3, c4, c5].drop 3).take (Tryd.prog.cellsOf 22)) = some y3 := hall 3 _ rfl
  rw [cellsSlice] at b3
  replace b3 : DataW.trod enc Tryd.prog W base sp held n 22 [c3] = some y3 := b3
  have b4 : DataW.trod enc Tryd.prog W base sp held n 23 (([c0, c1, c2, c3, c4, c5].drop 4).take (Tryd.prog.cellsOf 23)) = some y4 := hall 4 _ rfl
  rw [cellsInts] at b4
  replace b4 : DataW.trod enc Tryd.prog W base sp held n 23 [c4] = some y4 := b4
  have b5 : DataW.trod enc Tryd.prog W base sp held n 3 (([c0, c1, c2, c3, c4, c5].drop 5).take (Tryd.prog.cellsOf 3)) = some y5 := hall 5 _ rfl
  rw [cellsInt] at b5
  replace b5 : DataW.trod enc Tryd.prog W base sp held n 3 [c5] = some y5 := b5
  obtain ⟨ok, rfl⟩ := openBool (y := y0) b0
  obtain ⟨ao, no, co, fo, hs1, p1, p2, p3, p4⟩ := openPkts (x := y1) b1
  obtain ⟨ad, nd, cd, fd, hs2, q1, q2, q3, q4⟩ := openPkts (x := y2) b2
  obtain ⟨al, nl, cl, fl, hs3, r1, r2, r3, r4⟩ := openPkts (x := y3) b3
  obtain ⟨at', nt, ct, ft, hs4, t1, t2, t3, t4⟩ := openInts (x := y4) b4
  obtain ⟨now, rfl, inow⟩ := openInt (y := y5) b5
  simp only [List.cons.injEq, and_true] at hs1 hs2 hs3 hs4
  subst hs1 hs2 hs3 hs4
  exact ⟨⟨ok, no, fo, nd, fd, nl, fl, nt, ft, now⟩, ⟨ao, co, ad, cd, al, cl, at', ct⟩, ⟨⟨p3, q3, r3, t3⟩, ⟨p1, p2⟩, ⟨q1, q2⟩, ⟨r1, r2⟩, ⟨t1, t2⟩, inow, p4, q4, t4⟩, rfl⟩

end

set_option maxRecDepth 100000 in
theorem lifted (os : Os) (started : os.Started) (H : Type) (enc : TypeId × Value → H) :
    ReturnsInHanded {} Tryd.checked os 3 .any (fun w args => (Rows.fnExactTraceTextSpec.pre enc Tryd.prog Tryd.f3 [] false w args ∧ laidMetH Tryd.prog Rows.fnExactTraceTextRow.laid w) ∧ sizedMet enc Tryd.prog Tryd.f3 (OpenSpec.ofChange Rows.fnExactTraceTextSpec) false w args)
      (Rows.fnExactTraceTextSpec.post enc Tryd.prog Tryd.f3 false true false false) := by
  refine returnsInHanded_of_change_and (C := Tryd.checked) (X := fun w _ => laidMetH Tryd.prog Rows.fnExactTraceTextRow.laid w) (fun _ _ _ hh h => h.of_heap hh) own started (by kernel_rfl) Tryd.func3
    (ChangeSpec.witness_shaped (enc := enc) (C := Tryd.checked) (os := os) (X := fun w _ => laidMetH Tryd.prog Rows.fnExactTraceTextRow.laid w) false (World.doorLaid Tryd.prog 400 os) #[.agg #[.bool false, .slice none 0 0, .slice none 0 0, .slice none 0 0, .slice none 0 0, .int .i64 0]] 8 rfl (World.shaped_of_RefB (by kernel_rfl) (by kernel_rfl)) (by kernel_rfl) (by kernel_rfl) (by kernel_rfl) (door_met os _)) ?_
  intro W base args ds gs before hval0 hW _ _ hL _
  have hval : ∀ (j : Nat) t v, Tryd.f3.params[j]? = some t → args[j]? = some v → Value.okWide Tryd.prog W .any base t v := hval0
  have hW' := hW
  obtain ⟨p, q, hA0, hV0, rfl, hfz, hnd⟩ := hW
  have hA : DataW.TrodAll enc Tryd.prog W 0 (fun _ => true) true Tryd.f3.params.toList args.toList ds p := hA0
  have hV : DataW.TrodVars enc Tryd.prog W (fun _ => true) [] gs q := hV0
  have hV1 := hV
  rw [Tryd.params3] at hA hval
  obtain ⟨v0, vs0, d0, ds0, p0, q0, hargs, rfl, rfl, h0, tl0⟩ := trodAll_cons hA
  obtain ⟨rfl, rfl, rfl⟩ := trodAll_nil tl0
  obtain rfl : args = #[v0] := by cases args; simp_all
  obtain ⟨rfl, rfl⟩ := trodVars_none hV1
  have k0 := h0
  have lt0 : ∀ x ∈ p0, x.block < W.heap.size := by obtain ⟨m, hm⟩ := k0; exact DataW.trod_lt m _ _ _ hm
  obtain ⟨cs0, rfl, hcs0⟩ := okWide_struct Tryd.underlying25 (hval 0 25 v0 rfl rfl)
  obtain ⟨T0, A0, hin0, hrc0⟩ : ∃ (T : Tr) (A : Ta), TraceIn W T A ∧ cs0 = trCells T A := by
    obtain ⟨fuel, hf⟩ := h0
    obtain ⟨T, A, hin, hcs'⟩ := openTrace hf
    have hc2 : cs0 = (cs0.toList).toArray := by simp
    have hcl : cs0.toList = (trCells T A).toList := by simpa [Value.cells] using hcs'
    rw [hcl] at hc2
    exact ⟨T, A, hin, hc2⟩
  subst hrc0
  clear hA0 hV0 hval0
  refine (walk T0 A0 W hin0 (tab_of hL)).mono fun e W' ⟨he, bel⟩ => ?_
  subst he
  exact ⟨_, rfl, _, _, _, [], _, _, hW', trodAll_mk1 (shut_bool Tryd.underlying4 _), (trodAll_cons_mk (Below.trod laidOut (by kernel_rfl) (of_decide_eq_true (by kernel_rfl)) k0 bel lt0) trodAll_mk0), Below.trodVars laidOut bel (by kernel_rfl) hV, bel.frame _, fun h => by cases h⟩

theorem over : Rows.FnExactTraceTextSaid :=
  OpenClaim.holds_of_wide 3 Tryd.f3 rfl rfl rfl rfl rfl rfl rfl ⟨rfl, rfl, rfl, rfl, rfl⟩ rfl rfl rfl rfl rfl (by kernel_rfl) Tryd.func3 (by kernel_rfl)
    (of_decide_eq_true (by kernel_rfl)) (by unfold Func.isWrapper; first | (rw [if_pos (by decide +kernel)]; kernel_rfl) | (rw [if_neg (by decide +kernel)]; exact ⟨rfl, rfl⟩))
    (fun os started H enc _ => lifted os started H enc)

theorem plain (f : FuncId) (fn : Func) (hf : Tryd.pinned.checked.prog.funcNamed "loop.example/g00453/laws.FnExactTraceText" = some f) (hfn : Tryd.pinned.checked.prog.funcs[f]? = some fn) :
    false = Tryd.pinned.checked.prog.looks [] ∧ ∀ (j : Nat) t, fn.params[j]? = some t → Tryd.pinned.checked.prog.wantsStandIn t = false := by
  obtain rfl : f = 3 := Option.some.inj ((show Tryd.prog.funcNamed "loop.example/g00453/laws.FnExactTraceText" = some 3 by kernel_rfl).symm.trans hf) |>.symm
  obtain rfl : fn = Tryd.f3 := (Option.some.inj (Tryd.func3.symm.trans hfn)).symm
  refine ⟨by kernel_rfl, fun j t ht => ?_⟩
  rw [Tryd.params3] at ht
  have hm := Array.mem_of_getElem? ht
  have hall : (Tryd.f3.params.toList.all fun u => !Tryd.prog.wantsStandIn u) = true := by kernel_rfl
  rw [Tryd.params3] at hall
  exact (show Tryd.prog.wantsStandIn t = false by simpa using List.all_eq_true.1 hall t (by simpa using hm))

theorem proved : Rows.FnExactTraceTextCardSaid :=
  Claim7.holds_tied_plain_at .later [] _ _ _ _ over (fun _ h => by cases h) (by kernel_rfl) (fun _ h => by cases h) fnExactTraceText_row_tie rfl ⟨rfl, rfl⟩ (by kernel_rfl) rfl plain (by kernel_rfl)
end Go.Proofs.YtcfkmkkgeoaaeaaDoor.fnExactTraceText
namespace Go.Proofs.YtcfkmkkgeoaaeaaDoor
theorem fnExactTraceText_holds : Rows.FnExactTraceTextCardSaid := fnExactTraceText.proved
#print axioms fnExactTraceText_holds
end Go.Proofs.YtcfkmkkgeoaaeaaDoor
