/-
  Whatever trace the law FnExactDelays is given, it returns true and leaves all that lay as it was: the program's Delays answers as the specification's, in memory of its own; no condition.
-/
import Derived.Test.YtcmjnanejeekiaaRows
import Derived.WalkKit
import Derived.ProofKit
import Derived.OpenShut
import Derived.Test.YtcmjnanejeekiaaDelaysI
import Derived.Deep.RegionHeld3
import Derived.Deep.Cut
import Derived.Deep.Slices
import Derived.ShutString
import Derived.ChangeOld
import Derived.Below
namespace Go.Proofs.Ytcmjnanejeekiaa.fnExactDelays
open Go.ChangeShapes Go.WideShapes Go.ChangeAt Go.RowKit
open Go.ChangeMaps (open_string shut_string)
set_option linter.unusedVariables false

theorem own : ownKnob Try.prog.godebug = none := by kernel_rfl
theorem laidOut : laidOutB Try.prog = true := by kernel_rfl
theorem cellsInt : Try.prog.cellsOf 3 = 1 := by kernel_rfl
theorem cellsTrace : Try.prog.cellsOf 31 = 6 := by kernel_rfl
theorem cellsBool : Try.prog.cellsOf 4 = 1 := by kernel_rfl
theorem cellsPkt : Try.prog.cellsOf 59 = 6 := by kernel_rfl
theorem cellsSlice : Try.prog.cellsOf 28 = 1 := by kernel_rfl
theorem cellsInts : Try.prog.cellsOf 29 = 1 := by kernel_rfl

theorem dlR_len (T : Tr) : (dlR T).length ≤ 1048576 := by
  unfold dlR
  split
  · rename_i h
    have : trP T := of_decide_eq_true h
    rw [dlF_len]
    have := this.2.1
    omega
  · simp


set_option maxRecDepth 100000 in
set_option maxHeartbeats 4000000 in
theorem walk (T0 : Tr) (A0 : Ta) (w : World) (w0 : TraceIn w T0 A0) :
    Calls Try.prog 5 #[T0.val A0] w fun e w' => e = .returned (.bool true) ∧ Below w.heap.size w w' := by
  obtain ⟨hA, hno, hnd, hnl, hnt, hnow, hpo, hpd, hpt⟩ := w0
  have HA : Hid (∀ V, Below w.heap.size w V → TrAt V T0 A0) := fun V h => hA.below h
  have HM : Hid ((T0.no : Int) ≤ 9223372036854775807 ∧ (T0.nd : Int) ≤ 9223372036854775807 ∧ (T0.nl : Int) ≤ 9223372036854775807 ∧ (T0.nt : Int) ≤ 9223372036854775807) := ⟨by have := hno.1; have := hno.2; unfold maxLen at this; omega, by have := hnd.1; have := hnd.2; unfold maxLen at this; omega, by have := hnl.1; have := hnl.2; unfold maxLen at this; omega, by have := hnt.1; have := hnt.2; unfold maxLen at this; omega⟩
  clear hA hno hnd hnl hnt hnow hpo hpd hpt
  have lA : Sits (w.alloc (.cells (trCells T0 A0) 31)) w.heap.size (trCells T0 A0) 31 := Sits.new w _ _
  have B : Below w.heap.size w (w.alloc (.cells (trCells T0 A0) 31)) := (Below.refl _ w).alloc (Nat.le_refl _) _
  obtain ⟨l, hl⟩ : ∃ l, dlR T0 = l := ⟨_, rfl⟩
  obtain ⟨N, hN⟩ : ∃ N, l.length = N := ⟨_, rfl⟩
  obtain ⟨G, hG⟩ : ∃ G, (fun i => l.getD i 0) = G := ⟨_, rfl⟩
  have HS : Hid (∀ (W : World) (d : Ta), TrAt W T0 d → Calls Try.prog 14 #[T0.val d] W fun e w' => ∃ (x : Option Addr) (cap : Nat), e = .returned (.slice x N cap) ∧ ZI W.heap.size w'.heap.size w' x N G ∧ Below W.heap.size W w') := fun W d hd => by
    refine (sdelays_any T0 d W hd).mono ?_
    rintro e w' ⟨x, cap, rfl, h3, h4⟩
    rw [hl] at h3 ⊢
    have h5 := OI.zi h3
    rw [hN, hG] at h5
    rw [hN]
    exact ⟨x, cap, rfl, h5, h4⟩
  have HI : Hid (∀ (W : World) (d : Ta), TrAt W T0 d → T0.no ≤ 1048576 → T0.nd ≤ 1048576 → Calls Try.prog 15 #[T0.val d] W fun e w' => ∃ (x : Option Addr) (cap : Nat), e = .returned (.slice x N cap) ∧ ZI W.heap.size w'.heap.size w' x N G ∧ Below W.heap.size W w') := fun W d hd h1 h2 => by
    refine (idelays_any T0 d W hd h1 h2).mono ?_
    rintro e w' ⟨x, cap, rfl, h3, h4⟩
    rw [hl] at h3 ⊢
    have h5 := OI.zi h3
    rw [hN, hG] at h5
    rw [hN]
    exact ⟨x, cap, rfl, h5, h4⟩
  have hNn : N ≤ 1048576 := by
    rw [← hN, ← hl]
    exact dlR_len T0
  clear hl hN hG
  have hNi : N ≤ 9223372036854775807 := by omega
  go_enter Try.func5, Try.ntmps5
  go_upto_region 3 with (go_at_call 9; refine (szTrace_any T0 A0 _ (HM.out).1 (HM.out).2.1 (HM.out).2.2.1 (HM.out).2.2.2).mono ?_; rintro o v1 ⟨⟨r, rfl, hr1, hr2, hr3⟩, b1⟩)
  replace lA := Sits.below lA b1 lA.lt
  replace B := B.trans (b1.mono B.size)
  clear b1 HM
  by_cases hneg : r < 0
  · go_wp2
    go_ret
    exact ⟨rfl, B⟩
  have hall := hr3 (by omega)
  have HL : Hid (T0.no ≤ 1048576 ∧ T0.nd ≤ 1048576 ∧ T0.nl ≤ 1048576 ∧ T0.nt ≤ 1048576) := ⟨by omega, by omega, by omega, by omega⟩
  clear hall hr3
  obtain ⟨qlA0, qlA1, qlA2, qlA3, qlA4, qlA5⟩ := tr_cells lA
  go_upto_region 6 with (first | (go_at_call 11; refine (toTrace_any T0 A0 _ ((HA.out) _ B) (HL.out).1 (HL.out).2.1 (HL.out).2.2.1 (HL.out).2.2.2).mono ?_; rintro o v2 ⟨A2, rfl, -, -, -, -, z2, b2⟩) | (go_at_call 14; refine ((HS.out) _ A2 z2.at).mono ?_; rintro o v4 ⟨x4, c4, rfl, zw, b4⟩))
  clear qlA0 qlA1 qlA2 qlA3 qlA4 qlA5
  clear hneg hr1 hr2
  have tA := Nat.lt_of_lt_of_le lA.lt b2.size
  replace lA := Sits.below lA b2 lA.lt
  replace B := B.trans (b2.mono B.size)
  have t4 := b4.size
  replace lA := Sits.below lA b4 lA.lt
  replace B := B.trans (b4.mono B.size)
  obtain ⟨Lw, hLw⟩ : ∃ n, v2.heap.size = n := ⟨_, rfl⟩
  obtain ⟨Uw, hUw⟩ : ∃ n, v4.heap.size = n := ⟨_, rfl⟩
  rw [hLw] at zw t4 tA
  rw [hUw] at zw t4
  clear b2 b4 z2 hLw
  obtain ⟨qlA0, qlA1, qlA2, qlA3, qlA4, qlA5⟩ := tr_cells lA
  go_upto_region 7 with (go_at_call 11; refine (toTrace_any T0 A0 _ ((HA.out) _ B) (HL.out).1 (HL.out).2.1 (HL.out).2.2.1 (HL.out).2.2.2).mono ?_; rintro o v5 ⟨A5, rfl, -, -, -, -, zx, b1⟩)
  clear qlA0 qlA1 qlA2 qlA3 qlA4 qlA5
  replace lA := Sits.below lA b1 lA.lt
  replace zw := ZI.below zw b1
  replace B := B.trans (b1.mono B.size)
  have t6 := b1.size
  rw [hUw] at zx t6
  clear b1
  obtain ⟨Vx, hV⟩ : ∃ V, v5.heap.size = V := ⟨_, rfl⟩
  obtain ⟨y5, hA⟩ : ∃ x, v5.alloc (.cells (trCells T0 A5) 36) = x := ⟨_, rfl⟩
  have lx : Sits y5 Vx (trCells T0 A5) 36 := by rw [← hA, ← hV]; exact Sits.new _ _ _
  have bA : Below v5.heap.size v5 y5 := by rw [← hA]; go_grown
  replace lA := Sits.below lA bA lA.lt
  replace zw := ZI.below zw bA
  replace zx := TrZ.below zx bA
  replace B := B.trans (bA.mono B.size)
  change Code.wp _ _ _ _ (v5.alloc (.cells (trCells T0 A5) 36))
  rw [hA, hV]
  rw [hV] at zx t6
  clear hA hV bA hUw
  obtain ⟨Lg, hLg⟩ : ∃ n, y5.heap.size = n := ⟨_, rfl⟩
  have t7 : Vx < Lg := by rw [← hLg]; exact lx.lt
  obtain ⟨qlx0, qlx1, qlx2, qlx3, qlx4, qlx5⟩ := tr_cells lx
  go_upto_region 8 with (go_at_call 15; refine ((HI.out) _ A5 zx.at (HL.out).1 (HL.out).2.1).mono ?_; rintro o v7 ⟨x7, c7, rfl, zg, b1⟩)
  clear qlx0 qlx1 qlx2 qlx3 qlx4 qlx5
  replace lA := Sits.below lA b1 lA.lt
  replace lx := Sits.below lx b1 lx.lt
  replace zw := ZI.below zw b1
  replace zx := TrZ.below zx b1
  replace B := B.trans (b1.mono B.size)
  have t8 := b1.size
  obtain ⟨Ug, hUg⟩ : ∃ n, v7.heap.size = n := ⟨_, rfl⟩
  rw [hLg] at zg t8
  rw [hUg] at zg t8
  have t9 : Ug ≤ v7.heap.size := by omega
  clear b1 hLg hUg
  go_upto_region 10 with (go_at_call 16; refine (eqIntS_yes x7 x4 N c7 c4 G _ (ZI.row zg) (ZI.row zw) hNi).mono ?_; rintro o v8 ⟨rfl, b1⟩)
  replace lA := Sits.below lA b1 lA.lt
  replace lx := Sits.below lx b1 lx.lt
  replace zw := ZI.below zw b1
  replace zx := TrZ.below zx b1
  replace zg := ZI.below zg b1
  replace B := B.trans (b1.mono B.size)
  replace t9 := Nat.le_trans t9 b1.size
  clear b1
  go_region_held3 (fun w' => (w'.cell? ⟨Vx, 0, none⟩ = some (.bool T0.ok) ∧ w'.cell? ⟨Vx, 1, none⟩ = some (.slice A5.o T0.no A5.co) ∧ w'.cell? ⟨Vx, 2, none⟩ = some (.slice A5.d T0.nd A5.cd) ∧ w'.cell? ⟨Vx, 3, none⟩ = some (.slice A5.l T0.nl A5.cl) ∧ w'.cell? ⟨Vx, 4, none⟩ = some (.slice A5.t T0.nt A5.ct) ∧ w'.cell? ⟨Vx, 5, none⟩ = some (.int .i64 T0.now)) ∧ (w'.cell? ⟨w.heap.size, 0, none⟩ = some (.bool T0.ok) ∧ w'.cell? ⟨w.heap.size, 1, none⟩ = some (.slice A0.o T0.no A0.co) ∧ w'.cell? ⟨w.heap.size, 2, none⟩ = some (.slice A0.d T0.nd A0.cd) ∧ w'.cell? ⟨w.heap.size, 3, none⟩ = some (.slice A0.l T0.nl A0.cl) ∧ w'.cell? ⟨w.heap.size, 4, none⟩ = some (.slice A0.t T0.nt A0.ct) ∧ w'.cell? ⟨w.heap.size, 5, none⟩ = some (.int .i64 T0.now))) (first | exact ⟨tr_cells lx, tr_cells lA⟩ | exact ⟨tr_cells (Sits.below (W := v8.drew) lx b7 lx.lt), tr_cells (Sits.below (W := v8.drew) lA b7 lA.lt)⟩ | exact ⟨tr_cells ((Sits.below (W := v8.drew) lx b7 lx.lt).below b8 (Sits.below (W := v8.drew) lx b7 lx.lt).lt), tr_cells ((Sits.below (W := v8.drew) lA b7 lA.lt).below b8 (Sits.below (W := v8.drew) lA b7 lA.lt).lt)⟩) (first | (go_at_call 11; refine (toTrace_any T0 A0 _ ((HA.out) _ (Below.drew B)) (HL.out).1 (HL.out).2.1 (HL.out).2.2.1 (HL.out).2.2.2).mono ?_; rintro o v9 ⟨A9, rfl, -, -, -, -, z9, b7⟩) | (go_at_call 13; refine (eqTrace_yes T0 A5 A9 _ (TrAt.below (TrAt.below zx.at ((Below.refl _ _).drew)) b7) z9.at (HL.out).1 (HL.out).2.1 (HL.out).2.2.1 (HL.out).2.2.2).mono ?_; rintro o v10 ⟨rfl, b8⟩))
  replace lA := Sits.below (W := v8.drew) lA b7 lA.lt
  replace lx := Sits.below (W := v8.drew) lx b7 lx.lt
  replace zw := ZI.below (w := v8.drew) zw b7
  replace zx := TrZ.below (TrZ.below zx ((Below.refl _ _).drew)) b7
  replace zg := ZI.below (w := v8.drew) zg b7
  replace B := B.drew.trans (b7.mono B.size)
  replace lA := Sits.below lA b8 lA.lt
  replace lx := Sits.below lx b8 lx.lt
  replace zw := ZI.below zw b8
  replace zx := TrZ.below zx b8
  replace zg := ZI.below zg b8
  replace B := B.trans (b8.mono B.size)
  replace t9 := Nat.le_trans (Nat.le_trans t9 b7.size) b8.size
  clear b7 b8 z9
  have hk2 : decide (1 + (N : Int) < 0) = false := by simp; omega
  obtain ⟨qlx0, qlx1, qlx2, qlx3, qlx4, qlx5⟩ := tr_cells lx
  go_upto_region 14 with (go_at_call 17; refine (markTrace_z Uw Vx T0 A5 _ zx (by omega) (HL.out).1 (HL.out).2.1 (HL.out).2.2.1 (HL.out).2.2.2).mono ?_; rintro o v11 ⟨⟨km, rfl, hkm⟩, c1⟩)
  clear qlx0 qlx1 qlx2 qlx3 qlx4 qlx5
  have hk1 : decide (km < 0) = false := by simp; omega
  replace lA := Sits.chg lA c1 (by omega)
  replace lx := Sits.chg lx c1 (by omega)
  replace zw := ZI.chg zw c1 (by omega)
  replace zg := ZI.chg zg c1 (by omega)
  replace B := B.trans ((c1.below (by omega)).mono (by omega))
  replace t9 := Nat.le_trans t9 c1.size
  clear c1 zx
  go_upto_region 17 with (go_at_call 16; refine (eqIntS_yes x7 x4 N c7 c4 G _ (ZI.row zg) (ZI.row zw) hNi).mono ?_; rintro o v12 ⟨rfl, b1⟩)
  replace lA := Sits.below lA b1 lA.lt
  replace lx := Sits.below lx b1 lx.lt
  replace zw := ZI.below zw b1
  replace zg := ZI.below zg b1
  replace B := B.trans (b1.mono B.size)
  replace t9 := Nat.le_trans t9 b1.size
  clear b1 hk1 hkm
  go_upto_region 19 with (go_at_call 18; refine (markIntS_zi Lg Ug x7 N c7 G 1 _ zg hNn (by omega) (by omega)).mono ?_; rintro o v13 ⟨rfl, zn, c1⟩)
  replace lA := Sits.chg lA c1 (by omega)
  replace lx := Sits.chg lx c1 (by omega)
  replace zw := ZI.chg zw c1 (by omega)
  replace B := B.trans ((c1.below (by omega)).mono (by omega))
  replace t9 := Nat.le_trans t9 c1.size
  replace zg := zn
  clear c1 zn
  go_upto_region 24 with (go_at_call 19; refine (heldIntS_any x7 N c7 1 _ (ZI.row zg) hNn (by omega) (by omega)).mono ?_; rintro o v14 ⟨rfl, b1⟩)
  replace lA := Sits.below lA b1 lA.lt
  replace lx := Sits.below lx b1 lx.lt
  replace zw := ZI.below zw b1
  replace zg := ZI.below zg b1
  replace B := B.trans (b1.mono B.size)
  clear b1 t9
  obtain ⟨qlA0, qlA1, qlA2, qlA3, qlA4, qlA5⟩ := tr_cells lA
  go_upto_region 25 with (first | (go_at_call 11; refine (toTrace_any T0 A0 _ ((HA.out) _ B) (HL.out).1 (HL.out).2.1 (HL.out).2.2.1 (HL.out).2.2.2).mono ?_; rintro o v15 ⟨A15, rfl, -, -, -, -, z15, b2⟩) | (go_at_call 15; refine ((HI.out) _ A15 z15.at (HL.out).1 (HL.out).2.1).mono ?_; rintro o v17 ⟨x17, c17, rfl, zh, b4⟩))
  clear qlA0 qlA1 qlA2 qlA3 qlA4 qlA5
  replace lA := Sits.below lA b2 lA.lt
  replace lx := Sits.below lx b2 lx.lt
  replace zw := ZI.below zw b2
  replace zg := ZI.below zg b2
  replace B := B.trans (b2.mono B.size)
  replace lA := Sits.below lA b4 lA.lt
  replace lx := Sits.below lx b4 lx.lt
  replace zw := ZI.below zw b4
  replace zg := ZI.below zg b4
  replace B := B.trans (b4.mono B.size)
  clear b2 b4 z15
  go_upto_region 28 with (go_at_call 16; refine (eqIntS_yes x17 x4 N c17 c4 G _ (ZI.row zh) (ZI.row zw) hNi).mono ?_; rintro o v18 ⟨rfl, b1⟩)
  replace lA := Sits.below lA b1 lA.lt
  replace lx := Sits.below lx b1 lx.lt
  replace zw := ZI.below zw b1
  replace zg := ZI.below zg b1
  replace zh := ZI.below zh b1
  replace B := B.trans (b1.mono B.size)
  clear b1
  go_wp2_with (go_at_call 19; refine (heldIntS_any x7 N c7 1 _ (ZI.row zg) hNn (by omega) (by omega)).mono ?_; rintro o v20 ⟨rfl, b1⟩)
  replace lA := Sits.below lA b1 lA.lt
  replace lx := Sits.below lx b1 lx.lt
  replace zw := ZI.below zw b1
  replace zg := ZI.below zg b1
  replace zh := ZI.below zh b1
  replace B := B.trans (b1.mono B.size)
  go_ret
  exact ⟨rfl, B⟩

section
variable {H : Type} {enc : TypeId × Value → H} {W : World} {base : Nat} {sp : Nat → Bool} {held : Bool}

set_option maxRecDepth 100000 in
theorem openInt {n : Nat} {c : Value} {y : DataW H × List MemPlace} (h : DataW.trod enc Try.prog W base sp held n 3 [c] = some y) : ∃ z : Int, c = .int .i64 z ∧ (-9223372036854775808 ≤ z ∧ z ≤ 9223372036854775807) := by
  obtain ⟨z, h1, _, hw⟩ := DataW.trod_int Try.underlying3 h
  simp only [List.cons.injEq, and_true] at h1
  exact ⟨z, h1, bd hw⟩

set_option maxRecDepth 100000 in
theorem openBool {n : Nat} {c : Value} {y : DataW H × List MemPlace} (h : DataW.trod enc Try.prog W base sp held n 4 [c] = some y) : ∃ z : Bool, c = .bool z := by
  obtain ⟨z, h1, _⟩ := DataW.trod_bool Try.underlying4 h
  simp only [List.cons.injEq, and_true] at h1
  exact ⟨z, h1⟩

set_option maxRecDepth 100000 in
theorem openPkt {fuel : Nat} {cs : List Value} {x : DataW H × List MemPlace} (h : DataW.trod enc Try.prog W base sp held fuel 59 cs = some x) :
    ∃ r : Pk, r.In ∧ cs = [.int .i64 r.id, .int .i64 r.flow, .int .i64 r.host, .int .i64 r.size, .int .i64 r.tm, .int .i64 r.ecn] := by
  obtain ⟨xs, n, rfl, hx, hl, hxl, hall⟩ := DataW.trod_struct Try.underlying59 h
  rw [cellsPkt] at hl
  match cs, hl with
  | [c0, c1, c2, c3, c4, c5], _ =>
  match xs, hxl with
  | [y0, y1, y2, y3, y4, y5], _ =>
  have b0 : DataW.trod enc Try.prog W base sp held n 3 (([c0, c1, c2, c3, c4, c5].drop 0).take (Try.prog.cellsOf 3)) = some y0 := hall 0 _ rfl
  rw [cellsInt] at b0
  replace b0 : DataW.trod enc Try.prog W base sp held n 3 [c0] = some y0 := b0
  have b1 : DataW.trod enc Try.prog W base sp held n 3 (([c0, c1, c2, c3, c4, c5].drop 1).take (Try.prog.cellsOf 3)) = some y1 := hall 1 _ rfl
  rw [cellsInt] at b1
  replace b1 : DataW.trod enc Try.prog W base sp held n 3 [c1] = some y1 := b1
  have b2 : DataW.trod enc Try.prog W base sp held n 3 (([c0, c1, c2, c3, c4, c5].drop 2).take (Try.prog.cellsOf 3)) = some y2 := hall 2 _ rfl
  rw [cellsInt] at b2
  replace b2 : DataW.trod enc Try.prog W base sp held n 3 [c2] = some y2 := b2
  have b3 : DataW.trod enc Try.prog W base sp held n 3 (([c0, c1, c2, c3, c4, c5].drop 3).take (Try.prog.cellsOf 3)) = some y3 := hall 3 _ rfl
  rw [cellsInt] at b3
  replace b3 : DataW.trod enc Try.prog W base sp held n 3 [c3] = some y3 := b3
  have b4 : DataW.trod enc Try.prog W base sp held n 3 (([c0, c1, c2, c3, c4, c5].drop 4).take (Try.prog.cellsOf 3)) = some y4 := hall 4 _ rfl
  rw [cellsInt] at b4
  replace b4 : DataW.trod enc Try.prog W base sp held n 3 [c4] = some y4 := b4
  have b5 : DataW.trod enc Try.prog W base sp held n 3 (([c0, c1, c2, c3, c4, c5].drop 5).take (Try.prog.cellsOf 3)) = some y5 := hall 5 _ rfl
  rw [cellsInt] at b5
  replace b5 : DataW.trod enc Try.prog W base sp held n 3 [c5] = some y5 := b5
  obtain ⟨z0, rfl, i0⟩ := openInt (y := y0) b0
  obtain ⟨z1, rfl, i1⟩ := openInt (y := y1) b1
  obtain ⟨z2, rfl, i2⟩ := openInt (y := y2) b2
  obtain ⟨z3, rfl, i3⟩ := openInt (y := y3) b3
  obtain ⟨z4, rfl, i4⟩ := openInt (y := y4) b4
  obtain ⟨z5, rfl, i5⟩ := openInt (y := y5) b5
  exact ⟨⟨z0, z1, z2, z3, z4, z5⟩, ⟨i0, i1, i2, i3, i4, i5⟩, rfl⟩

set_option maxRecDepth 100000 in
theorem openPkts {fuel : Nat} {cs : List Value} {x : DataW H × List MemPlace} (h : DataW.trod enc Try.prog W base sp held fuel 28 cs = some x) :
    ∃ (a : Option Addr) (len cap : Nat) (f : Nat → Pk), cs = [.slice a len cap] ∧ len ≤ cap ∧ cap ≤ maxLen ∧ PR W.heap.size W a len f ∧ ∀ i, i < len → (f i).In := by
  rcases Go.Deep.open_slice Try.underlying28 h with ⟨rfl, _⟩ | ⟨a, len, cap, m, n, D, Pl, rfl, hb, hl, hm, hmm, _, hx⟩
  · exact ⟨none, 0, 0, fun _ => default, rfl, Nat.le_refl _, Nat.zero_le _, .inl rfl, fun i hi => absurd hi (Nat.not_lt_zero _)⟩
  · have hlm : len ≤ m := by rw [hmm]; split <;> omega
    have each : ∀ i, i < len → ∃ r : Pk, r.In ∧ (∀ t, t < 6 → W.cell? ((a.add (i * 6)).add t) = some (.int .i64 (r.nth t))) := by
      intro i hi
      obtain ⟨cs', h1, h2⟩ := hx i (by omega)
      rw [cellsPkt] at h1
      obtain ⟨_, hlen, hcell⟩ := World.cells?_some h1
      obtain ⟨r, hr, rfl⟩ := openPkt h2
      refine ⟨r, hr, fun t ht => ?_⟩
      have := hcell t (by omega)
      rw [this]
      have hc : t = 0 ∨ t = 1 ∨ t = 2 ∨ t = 3 ∨ t = 4 ∨ t = 5 := by omega
      rcases hc with rfl | rfl | rfl | rfl | rfl | rfl <;> rfl
    obtain ⟨f, hf⟩ := Go.Deep.choose_lt each
    refine ⟨some a, len, cap, f, rfl, hl, hm, ?_, fun i hi => (hf i hi).1⟩
    by_cases h0 : len = 0
    · exact .inl h0
    · obtain ⟨b, off, inner⟩ := a
      have hc0 := (hf 0 (by omega)).2 0 (by omega)
      have hin : inner = none := by simpa [Addr.add] using World.cell?_spot hc0
      subst hin
      refine .inr ⟨b, off, rfl, World.block_lt_of_cell? W _ hc0, fun i hi => ?_⟩
      have hh : ∀ t, t < 6 → W.cell? ⟨b, off + i * 6 + t, none⟩ = some (.int .i64 ((f i).nth t)) := fun t ht => by
        have := (hf i hi).2 t ht
        rw [Go.WideShapes.add_plain, Go.WideShapes.add_plain] at this
        exact this
      exact ⟨hh 0 (by omega), hh 1 (by omega), hh 2 (by omega), hh 3 (by omega), hh 4 (by omega), hh 5 (by omega)⟩

set_option maxRecDepth 100000 in
theorem openInts {fuel : Nat} {cs : List Value} {x : DataW H × List MemPlace} (h : DataW.trod enc Try.prog W base sp held fuel 29 cs = some x) :
    ∃ (a : Option Addr) (len cap : Nat) (f : Nat → Int), cs = [.slice a len cap] ∧ len ≤ cap ∧ cap ≤ maxLen ∧ Row .i64 W a len f ∧ ∀ i, i < len → (-9223372036854775808 ≤ f i ∧ f i ≤ 9223372036854775807) := by
  rcases Go.Deep.open_slice Try.underlying29 h with ⟨rfl, _⟩ | ⟨a, len, cap, m, n, D, Pl, rfl, hb, hl, hm, hmm, _, hx⟩
  · exact ⟨none, 0, 0, fun _ => 0, rfl, Nat.le_refl _, Nat.zero_le _, .inl rfl, fun i hi => absurd hi (Nat.not_lt_zero _)⟩
  · have hlm : len ≤ m := by rw [hmm]; split <;> omega
    have each : ∀ i, i < len → ∃ r : Int, (-9223372036854775808 ≤ r ∧ r ≤ 9223372036854775807) ∧ W.cell? (a.add (i * 1)) = some (.int .i64 r) := by
      intro i hi
      obtain ⟨cs', h1, h2⟩ := hx i (by omega)
      rw [cellsInt] at h1
      obtain ⟨_, hlen, hcell⟩ := World.cells?_some h1
      match cs', hlen with
      | [c0], _ =>
      obtain ⟨z, rfl, hzb⟩ := openInt h2
      have := hcell 0 (by omega)
      exact ⟨z, hzb, by simpa [Addr.add] using this⟩
    obtain ⟨f, hf⟩ := Go.Deep.choose_lt each
    refine ⟨some a, len, cap, f, rfl, hl, hm, ?_, fun i hi => (hf i hi).1⟩
    by_cases h0 : len = 0
    · exact .inl h0
    · obtain ⟨b, off, inner⟩ := a
      have hc0 := (hf 0 (by omega)).2
      have hin : inner = none := by simpa [Addr.add] using World.cell?_spot hc0
      subst hin
      refine .inr ⟨b, off, rfl, World.block_lt_of_cell? W _ hc0, fun i hi => ?_⟩
      have := (hf i hi).2
      rw [Go.WideShapes.add_plain, Nat.mul_one] at this
      exact this

set_option maxRecDepth 100000 in
theorem openTrace {fuel : Nat} {cs : List Value} {x : DataW H × List MemPlace} (h : DataW.trod enc Try.prog W base sp held fuel 31 cs = some x) :
    ∃ (T : Tr) (A : Ta), TraceIn W T A ∧ cs = (trCells T A).toList := by
  obtain ⟨xs, n, rfl, hx, hl, hxl, hall⟩ := DataW.trod_struct Try.underlying31 h
  rw [cellsTrace] at hl
  match cs, hl with
  | [c0, c1, c2, c3, c4, c5], _ =>
  match xs, hxl with
  | [y0, y1, y2, y3, y4, y5], _ =>
  have b0 : DataW.trod enc Try.prog W base sp held n 4 (([c0, c1, c2, c3, c4, c5].drop 0).take (Try.prog.cellsOf 4)) = some y0 := hall 0 _ rfl
  rw [cellsBool] at b0
  replace b0 : DataW.trod enc Try.prog W base sp held n 4 [c0] = some y0 := b0
  have b1 : DataW.trod enc Try.prog W base sp held n 28 (([c0, c1, c2, c3, c4, c5].drop 1).take (Try.prog.cellsOf 28)) = some y1 := hall 1 _ rfl
  rw [cellsSlice] at b1
  replace b1 : DataW.trod enc Try.prog W base sp held n 28 [c1] = some y1 := b1
  have b2 : DataW.trod enc Try.prog W base sp held n 28 (([c0, c1, c2, c3, c4, c5].drop 2).take (Try.prog.cellsOf 28)) = some y2 := hall 2 _ rfl
  rw [cellsSlice] at b2
  replace b2 : DataW.trod enc Try.prog W base sp held n 28 [c2] = some y2 := b2
  have b3 : DataW.trod enc Try.prog W base sp held n 28 (([c0, c1, c2, c3, c4, c5].drop 3).take (Try.prog.cellsOf 28)) = some y3 := hall 3 _ rfl
  rw [cellsSlice] at b3
  replace b3 : DataW.trod enc Try.prog W base sp held n 28 [c3] = some y3 := b3
  have b4 : DataW.trod enc Try.prog W base sp held n 29 (([c0, c1, c2, c3, c4, c5].drop 4).take (Try.prog.cellsOf 29)) = some y4 := hall 4 _ rfl
  rw [cellsInts] at b4
  replace b4 : DataW.trod enc Try.prog W base sp held n 29 [c4] = some y4 := b4
  have b5 : DataW.trod enc Try.prog W base sp held n 3 (([c0, c1, c2, c3, c4, c5].drop 5).take (Try.prog.cellsOf 3)) = some y5 := hall 5 _ rfl
  rw [cellsInt] at b5
  replace b5 : DataW.trod enc Try.prog W base sp held n 3 [c5] = some y5 := b5
  obtain ⟨ok, rfl⟩ := openBool (y := y0) b0
  obtain ⟨ao, no, co, fo, hs1, p1, p2, p3, p4⟩ := openPkts (x := y1) b1
  obtain ⟨ad, nd, cd, fd, hs2, q1, q2, q3, q4⟩ := openPkts (x := y2) b2
  obtain ⟨al, nl, cl, fl, hs3, r1, r2, r3, r4⟩ := openPkts (x := y3) b3
  obtain ⟨at', nt, ct, ft, hs4, t1, t2, t3, t4⟩ := openInts (x := y4) b4
  obtain ⟨now, rfl, inow⟩ := openInt (y := y5) b5
  simp only [List.cons.injEq, and_true] at hs1 hs2 hs3 hs4
  subst hs1 hs2 hs3 hs4
  exact ⟨⟨ok, no, fo, nd, fd, nl, fl, nt, ft, now⟩, ⟨ao, co, ad, cd, al, cl, at', ct⟩, ⟨⟨p3, q3, r3, t3⟩, ⟨p1, p2⟩, ⟨q1, q2⟩, ⟨r1, r2⟩, ⟨t1, t2⟩, inow, p4, q4, t4⟩, rfl⟩

end

set_option maxRecDepth 100000 in
theorem lifted (os : Os) (started : os.Started) (H : Type) (enc : TypeId × Value → H) :
    ReturnsInHanded {} Try.checked os 5 .any (Rows.fnExactDelaysSpec.pre6 enc Try.prog Try.f5 Rows.fnExactDelaysRow.domain false) (Rows.fnExactDelaysSpec.post enc Try.prog Try.f5 false true false false) := by
  refine returnsInHanded_of_change (C := Try.checked) own started (by kernel_rfl) Try.func5
    (ChangeSpec.witness6 (enc := enc) (C := Try.checked) false ⟨#[], #[.agg #[.bool false, .slice none 0 0, .slice none 0 0, .slice none 0 0, .slice none 0 0, .int .i64 0]], []⟩ 8 (by kernel_rfl) (by kernel_rfl) (by kernel_rfl) (by kernel_rfl)) ?_
  intro W base args ds gs before hval0 hW hcnd _
  have hval : ∀ (j : Nat) t v, Try.f5.params[j]? = some t → args[j]? = some v → Value.okWide Try.prog W .any base t v := hval0
  have hW' := hW
  obtain ⟨p, q, hA0, hV, rfl, hfz, hnd⟩ := hW
  have hA : DataW.TrodAll enc Try.prog W 0 (fun _ => true) true Try.f5.params.toList args.toList ds p := hA0
  rw [Try.params5] at hA hval
  obtain ⟨v0, vs0, d0, ds0, p0, q0, hargs, rfl, rfl, h0, tl0⟩ := trodAll_cons hA
  obtain ⟨rfl, rfl, rfl⟩ := trodAll_nil tl0
  obtain rfl : args = #[v0] := by cases args; simp_all
  obtain ⟨rfl, rfl⟩ := trodVars_none hV
  have k0 := h0
  have lt0 : ∀ x ∈ p0, x.block < W.heap.size := by obtain ⟨m, hm⟩ := k0; exact DataW.trod_lt m _ _ _ hm
  obtain ⟨cs0, rfl, hcs0⟩ := okWide_struct Try.underlying31 (hval 0 31 v0 rfl rfl)
  obtain ⟨T0, A0, hin0, hrc0⟩ : ∃ (T : Tr) (A : Ta), TraceIn W T A ∧ cs0 = trCells T A := by
    obtain ⟨fuel, hf⟩ := h0
    obtain ⟨T, A, hin, hcs'⟩ := openTrace hf
    have hc2 : cs0 = (cs0.toList).toArray := by simp
    have hcl : cs0.toList = (trCells T A).toList := by simpa [Value.cells] using hcs'
    rw [hcl] at hc2
    exact ⟨T, A, hin, hc2⟩
  subst hrc0
  clear hA0 hval0
  refine (walk T0 A0 W hin0).mono fun e W' ⟨he, bel⟩ => ?_
  subst he
  exact ⟨_, rfl, _, _, _, [], _, [], hW', trodAll_mk1 (shut_bool Try.underlying4 _), (trodAll_cons_mk (Below.trod laidOut (by kernel_rfl) (of_decide_eq_true (by kernel_rfl)) k0 bel lt0) trodAll_mk0), rfl, bel.frame _, fun h => by cases h⟩

theorem over : Rows.fnExactDelaysRow.holds Try.pinned (OpenSpec.ofChange Rows.fnExactDelaysSpec) :=
  OpenClaim.holds_of_wide 5 Try.f5 rfl rfl rfl rfl rfl rfl rfl ⟨rfl, rfl, rfl, rfl, rfl⟩ rfl rfl rfl rfl rfl (by kernel_rfl) Try.func5 (by kernel_rfl)
    (of_decide_eq_true (by kernel_rfl)) (by unfold Func.isWrapper; first | (rw [if_pos (by decide +kernel)]; kernel_rfl) | (rw [if_neg (by decide +kernel)]; exact ⟨rfl, rfl⟩))
    (fun os started H enc _ => lifted os started H enc)

theorem proved : Rows.FnExactDelaysSaid := over
end Go.Proofs.Ytcmjnanejeekiaa.fnExactDelays
namespace Go.Proofs.Ytcmjnanejeekiaa
theorem fnExactDelays_holds : Rows.FnExactDelaysSaid := fnExactDelays.proved
#print axioms fnExactDelays_holds
end Go.Proofs.Ytcmjnanejeekiaa
