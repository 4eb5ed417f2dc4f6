/-
  Whatever trace and flow the law FnExactFlowBytes is given, it returns true and leaves all that lay as it was: the program's FlowBytes answers as the specification's and turns nothing; no condition.
-/
import Derived.Test.YtcmjnanejeekiaaRows
import Derived.WalkKit
import Derived.ProofKit
import Derived.OpenShut
import Derived.Test.YtcmjnanejeekiaaFlowB
import Derived.Deep.RegionHeld3
import Derived.Deep.Cut
import Derived.Deep.Slices
import Derived.ShutString
import Derived.ChangeOld
import Derived.Below
namespace Go.Proofs.Ytcmjnanejeekiaa.fnExactFlowBytes
open Go.ChangeShapes Go.WideShapes Go.ChangeAt Go.RowKit
open Go.ChangeMaps (open_string shut_string)
set_option linter.unusedVariables false

theorem own : ownKnob Try.prog.godebug = none := by kernel_rfl
theorem laidOut : laidOutB Try.prog = true := by kernel_rfl
theorem cellsInt : Try.prog.cellsOf 3 = 1 := by kernel_rfl
theorem cellsTrace : Try.prog.cellsOf 31 = 6 := by kernel_rfl
theorem cellsBool : Try.prog.cellsOf 4 = 1 := by kernel_rfl
theorem cellsPkt : Try.prog.cellsOf 59 = 6 := by kernel_rfl
theorem cellsSlice : Try.prog.cellsOf 28 = 1 := by kernel_rfl
theorem cellsInts : Try.prog.cellsOf 29 = 1 := by kernel_rfl


set_option maxHeartbeats 4000000 in
theorem walk (T0 : Tr) (A0 : Ta) (z1 : Int) (w1 : (-9223372036854775808 ≤ z1 ∧ z1 ≤ 9223372036854775807)) (w : World) (w0 : TraceIn w T0 A0) :
    Calls Try.prog 4 #[T0.val A0, .int .i64 z1] w fun e w' => e = .returned (.bool true) ∧ Below w.heap.size w w' := by
  obtain ⟨hA, hno, hnd, hnl, hnt, hnow, hpo, hpd, hpt⟩ := w0
  have HA : Hid (∀ V, Below w.heap.size w V → TrAt V T0 A0) := fun V h => hA.below h
  have mo : (T0.no : Int) ≤ 9223372036854775807 := by have := hno.1; have := hno.2; unfold maxLen at this; omega
  have md : (T0.nd : Int) ≤ 9223372036854775807 := by have := hnd.1; have := hnd.2; unfold maxLen at this; omega
  have ml : (T0.nl : Int) ≤ 9223372036854775807 := by have := hnl.1; have := hnl.2; unfold maxLen at this; omega
  have mt : (T0.nt : Int) ≤ 9223372036854775807 := by have := hnt.1; have := hnt.2; unfold maxLen at this; omega
  clear hA hno hnd hnl hnt hnow hpo hpd hpt w1
  have s0 := Sits.new w (trCells T0 A0) 31
  have B0 : Below w.heap.size w (w.alloc (.cells (trCells T0 A0) 31)) := (Below.refl _ w).alloc (Nat.le_refl _) _
  have HS0 : Hid (Sits (w.alloc (.cells (trCells T0 A0) 31)) w.heap.size (trCells T0 A0) 31) := s0
  have HB0 : Hid (Below w.heap.size w (w.alloc (.cells (trCells T0 A0) 31))) := B0
  have HM : Hid ((T0.no : Int) ≤ 9223372036854775807 ∧ (T0.nd : Int) ≤ 9223372036854775807 ∧ (T0.nl : Int) ≤ 9223372036854775807 ∧ (T0.nt : Int) ≤ 9223372036854775807) := ⟨mo, md, ml, mt⟩
  clear s0 B0 mo md ml mt
  obtain ⟨X, hX⟩ : ∃ X, flowF T0 z1 = X := ⟨_, rfl⟩
  have HX : Hid (flowF T0 z1 = X) := hX
  clear hX
  go_enter Try.func4, Try.ntmps4
  go_upto_region 3 with (go_at_call 9; refine (szTrace_any T0 A0 _ (HM.out).1 (HM.out).2.1 (HM.out).2.2.1 (HM.out).2.2.2).mono ?_; rintro o v1 ⟨⟨r, rfl, hr1, hr2, hr3⟩, b1⟩)
  have HB1 : Hid (Below w.heap.size w v1) := (HB0.out).trans (b1.mono (HB0.out).size)
  have HS1 : Hid (Sits v1 w.heap.size (trCells T0 A0) 31) := Sits.below HS0.out b1 (Sits.lt HS0.out)
  clear b1 HB0 HS0 HM
  by_cases hneg : r < 0
  · go_wp2
    go_ret
    exact ⟨rfl, HB1.out⟩
  have hall := hr3 (by omega)
  have HL : Hid (T0.no ≤ 1048576 ∧ T0.nd ≤ 1048576 ∧ T0.nl ≤ 1048576 ∧ T0.nt ≤ 1048576) := ⟨by omega, by omega, by omega, by omega⟩
  clear hall hr3
  obtain ⟨x0, x1, x2, x3, x4, x5⟩ := tr_cells HS1.out
  go_upto_region 6 with (first | (go_at_call 11; refine (toTrace_any T0 A0 _ ((HA.out) _ HB1.out) (HL.out).1 (HL.out).2.1 (HL.out).2.2.1 (HL.out).2.2.2).mono ?_; rintro o v2 ⟨A2, rfl, -, -, -, -, z2, b2⟩) | (go_at_call 10; refine (sflowBytes_any T0 A2 z1 _ z2.at).mono ?_; rintro o v3 ⟨rfl, b3⟩; rw [HX.out]))
  have b23 := b2.trans (b3.mono b2.size)
  have HB3 : Hid (Below w.heap.size w v3) := (HB1.out).trans (b23.mono (HB1.out).size)
  have HS3 : Hid (Sits v3 w.heap.size (trCells T0 A0) 31) := Sits.below HS1.out b23 (Sits.lt HS1.out)
  clear x0 x1 x2 x3 x4 x5 b2 b3 b23 z2 HB1 HS1 hneg hr1 hr2
  obtain ⟨x0, x1, x2, x3, x4, x5⟩ := tr_cells HS3.out
  go_upto_region 7 with (go_at_call 11; refine (toTrace_any T0 A0 _ ((HA.out) _ HB3.out) (HL.out).1 (HL.out).2.1 (HL.out).2.2.1 (HL.out).2.2.2).mono ?_; rintro o v4 ⟨A4, rfl, -, -, -, -, z4, b4⟩)
  obtain ⟨V, hV⟩ : ∃ V, v4.heap.size = V := ⟨_, rfl⟩
  obtain ⟨y4, hy4⟩ : ∃ x, v4.alloc (.cells (trCells T0 A4) 36) = x := ⟨_, rfl⟩
  have b4' : Below v3.heap.size v3 y4 := by rw [← hy4]; exact b4.alloc b4.size _
  have bA : Below v4.heap.size v4 y4 := by rw [← hy4]; exact (Below.refl _ _).alloc (Nat.le_refl _) _
  have l4 : Sits y4 V (trCells T0 A4) 36 := by rw [← hy4, ← hV]; exact Sits.new _ _ _
  have HZ4 : Hid (TrAt y4 T0 A4) := z4.at.below bA
  have HB4 : Hid (Below w.heap.size w y4) := (HB3.out).trans (b4'.mono (HB3.out).size)
  have HS4 : Hid (Sits y4 w.heap.size (trCells T0 A0) 31) := Sits.below HS3.out b4' (Sits.lt HS3.out)
  have HX4 : Hid (Sits y4 V (trCells T0 A4) 36) := l4
  change Code.wp _ _ _ _ (v4.alloc (.cells (trCells T0 A4) 36))
  rw [hy4, hV]
  clear hy4 hV x0 x1 x2 x3 x4 x5 b4 b4' bA z4 HB3 HS3
  obtain ⟨x0, x1, x2, x3, x4, x5⟩ := tr_cells l4
  clear l4
  go_upto_region 8 with (go_at_call 12; refine (iflowBytes_any T0 A4 z1 _ HZ4.out (HL.out).1 (HL.out).2.1).mono ?_; rintro o v5 ⟨rfl, b5⟩; rw [HX.out])
  have HB5 : Hid (Below w.heap.size w v5) := (HB4.out).trans (b5.mono (HB4.out).size)
  have s5 := Sits.below HS4.out b5 (Sits.lt HS4.out)
  have l5 := Sits.below HX4.out b5 (Sits.lt HX4.out)
  have HZ5 : Hid (TrAt v5 T0 A4) := TrAt.below HZ4.out b5
  have HS5 : Hid (Sits v5 w.heap.size (trCells T0 A0) 31) := s5
  have HX5 : Hid (Sits v5 V (trCells T0 A4) 36) := l5
  clear x0 x1 x2 x3 x4 x5 b5 HB4 HS4 HX4 HZ4 s5 l5
  go_upto_region 10 with fail
  go_region_held3 (fun w' => (w'.cell? ⟨V, 0, none⟩ = some (.bool T0.ok) ∧ w'.cell? ⟨V, 1, none⟩ = some (.slice A4.o T0.no A4.co) ∧ w'.cell? ⟨V, 2, none⟩ = some (.slice A4.d T0.nd A4.cd) ∧ w'.cell? ⟨V, 3, none⟩ = some (.slice A4.l T0.nl A4.cl) ∧ w'.cell? ⟨V, 4, none⟩ = some (.slice A4.t T0.nt A4.ct) ∧ w'.cell? ⟨V, 5, none⟩ = some (.int .i64 T0.now)) ∧ (w'.cell? ⟨w.heap.size, 0, none⟩ = some (.bool T0.ok) ∧ w'.cell? ⟨w.heap.size, 1, none⟩ = some (.slice A0.o T0.no A0.co) ∧ w'.cell? ⟨w.heap.size, 2, none⟩ = some (.slice A0.d T0.nd A0.cd) ∧ w'.cell? ⟨w.heap.size, 3, none⟩ = some (.slice A0.l T0.nl A0.cl) ∧ w'.cell? ⟨w.heap.size, 4, none⟩ = some (.slice A0.t T0.nt A0.ct) ∧ w'.cell? ⟨w.heap.size, 5, none⟩ = some (.int .i64 T0.now))) (first | exact ⟨tr_cells HX5.out, tr_cells HS5.out⟩ | exact ⟨tr_cells (Sits.below (W := v5.drew) HX5.out b7 (Sits.lt HX5.out)), tr_cells (Sits.below (W := v5.drew) HS5.out b7 (Sits.lt HS5.out))⟩ | exact ⟨tr_cells ((Sits.below (W := v5.drew) HX5.out b7 (Sits.lt HX5.out)).below b8 (Sits.below (W := v5.drew) HX5.out b7 (Sits.lt HX5.out)).lt), tr_cells ((Sits.below (W := v5.drew) HS5.out b7 (Sits.lt HS5.out)).below b8 (Sits.below (W := v5.drew) HS5.out b7 (Sits.lt HS5.out)).lt)⟩) (first | (go_at_call 11; refine (toTrace_any T0 A0 _ ((HA.out) _ (Below.drew HB5.out)) (HL.out).1 (HL.out).2.1 (HL.out).2.2.1 (HL.out).2.2.2).mono ?_; rintro o v7 ⟨A7, rfl, -, -, -, -, z7, b7⟩) | (go_at_call 13; refine (eqTrace_yes T0 A4 A7 _ (TrAt.below (TrAt.below HZ5.out ((Below.refl _ _).drew)) b7) z7.at (HL.out).1 (HL.out).2.1 (HL.out).2.2.1 (HL.out).2.2.2).mono ?_; rintro o v8 ⟨rfl, b8⟩))
  go_wp2
  go_ret
  have hs5 := (HB5.out).size
  have b78 := b7.trans (b8.mono b7.size)
  exact ⟨rfl, (Below.drew HB5.out).trans (b78.mono hs5)⟩

section
variable {H : Type} {enc : TypeId × Value → H} {W : World} {base : Nat} {sp : Nat → Bool} {held : Bool}

set_option maxRecDepth 100000 in
theorem openInt {n : Nat} {c : Value} {y : DataW H × List MemPlace} (h : DataW.trod enc Try.prog W base sp held n 3 [c] = some y) : ∃ z : Int, c = .int .i64 z ∧ (-9223372036854775808 ≤ z ∧ z ≤ 9223372036854775807) := by
  obtain ⟨z, h1, _, hw⟩ := DataW.trod_int Try.underlying3 h
  simp only [List.cons.injEq, and_true] at h1
  exact ⟨z, h1, bd hw⟩

set_option maxRecDepth 100000 in
theorem openBool {n : Nat} {c : Value} {y : DataW H × List MemPlace} (h : DataW.trod enc Try.prog W base sp held n 4 [c] = some y) : ∃ z : Bool, c = .bool z := by
  obtain ⟨z, h1, _⟩ := DataW.trod_bool Try.underlying4 h
  simp only [List.cons.injEq, and_true] at h1
  exact ⟨z, h1⟩

set_option maxRecDepth 100000 in
theorem openPkt {fuel : Nat} {cs : List Value} {x : DataW H × List MemPlace} (h : DataW.trod enc Try.prog W base sp held fuel 59 cs = some x) :
    ∃ r : Pk, r.In ∧ cs = [.int .i64 r.id, .int .i64 r.flow, .int .i64 r.host, .int .i64 r.size, .int .i64 r.tm, .int .i64 r.ecn] := by
  obtain ⟨xs, n, rfl, hx, hl, hxl, hall⟩ := DataW.trod_struct Try.underlying59 h
  rw [cellsPkt] at hl
  match cs, hl with
  | [c0, c1, c2, c3, c4, c5], _ =>
  match xs, hxl with
  | [y0, y1, y2, y3, y4, y5], _ =>
  have b0 : DataW.trod enc Try.prog W base sp held n 3 (([c0, c1, c2, c3, c4, c5].drop 0).take (Try.prog.cellsOf 3)) = some y0 := hall 0 _ rfl
  rw [cellsInt] at b0
  replace b0 : DataW.trod enc Try.prog W base sp held n 3 [c0] = some y0 := b0
  have b1 : DataW.trod enc Try.prog W base sp held n 3 (([c0, c1, c2, c3, c4, c5].drop 1).take (Try.prog.cellsOf 3)) = some y1 := hall 1 _ rfl
  rw [cellsInt] at b1
  replace b1 : DataW.trod enc Try.prog W base sp held n 3 [c1] = some y1 := b1
  have b2 : DataW.trod enc Try.prog W base sp held n 3 (([c0, c1, c2, c3, c4, c5].drop 2).take (Try.prog.cellsOf 3)) = some y2 := hall 2 _ rfl
  rw [cellsInt] at b2
  replace b2 : DataW.trod enc Try.prog W base sp held n 3 [c2] = some y2 := b2
  have b3 : DataW.trod enc Try.prog W base sp held n 3 (([c0, c1, c2, c3, c4, c5].drop 3).take (Try.prog.cellsOf 3)) = some y3 := hall 3 _ rfl
  rw [cellsInt] at b3
  replace b3 : DataW.trod enc Try.prog W base sp held n 3 [c3] = some y3 := b3
  have b4 : DataW.trod enc Try.prog W base sp held n 3 (([c0, c1, c2, c3, c4, c5].drop 4).take (Try.prog.cellsOf 3)) = some y4 := hall 4 _ rfl
  rw [cellsInt] at b4
  replace b4 : DataW.trod enc Try.prog W base sp held n 3 [c4] = some y4 := b4
  have b5 : DataW.trod enc Try.prog W base sp held n 3 (([c0, c1, c2, c3, c4, c5].drop 5).take (Try.prog.cellsOf 3)) = some y5 := hall 5 _ rfl
  rw [cellsInt] at b5
  replace b5 : DataW.trod enc Try.prog W base sp held n 3 [c5] = some y5 := b5
  obtain ⟨z0, rfl, i0⟩ := openInt (y := y0) b0
  obtain ⟨z1, rfl, i1⟩ := openInt (y := y1) b1
  obtain ⟨z2, rfl, i2⟩ := openInt (y := y2) b2
  obtain ⟨z3, rfl, i3⟩ := openInt (y := y3) b3
  obtain ⟨z4, rfl, i4⟩ := openInt (y := y4) b4
  obtain ⟨z5, rfl, i5⟩ := openInt (y := y5) b5
  exact ⟨⟨z0, z1, z2, z3, z4, z5⟩, ⟨i0, i1, i2, i3, i4, i5⟩, rfl⟩

set_option maxRecDepth 100000 in
theorem openPkts {fuel : Nat} {cs : List Value} {x : DataW H × List MemPlace} (h : DataW.trod enc Try.prog W base sp held fuel 28 cs = some x) :
    ∃ (a : Option Addr) (len cap : Nat) (f : Nat → Pk), cs = [.slice a len cap] ∧ len ≤ cap ∧ cap ≤ maxLen ∧ PR W.heap.size W a len f ∧ ∀ i, i < len → (f i).In := by
  rcases Go.Deep.open_slice Try.underlying28 h with ⟨rfl, _⟩ | ⟨a, len, cap, m, n, D, Pl, rfl, hb, hl, hm, hmm, _, hx⟩
  · exact ⟨none, 0, 0, fun _ => default, rfl, Nat.le_refl _, Nat.zero_le _, .inl rfl, fun i hi => absurd hi (Nat.not_lt_zero _)⟩
  · have hlm : len ≤ m := by rw [hmm]; split <;> omega
    have each : ∀ i, i < len → ∃ r : Pk, r.In ∧ (∀ t, t < 6 → W.cell? ((a.add (i * 6)).add t) = some (.int .i64 (r.nth t))) := by
      intro i hi
      obtain ⟨cs', h1, h2⟩ := hx i (by omega)
      rw [cellsPkt] at h1
      obtain ⟨_, hlen, hcell⟩ := World.cells?_some h1
      obtain ⟨r, hr, rfl⟩ := openPkt h2
      refine ⟨r, hr, fun t ht => ?_⟩
      have := hcell t (by omega)
      rw [this]
      have hc : t = 0 ∨ t = 1 ∨ t = 2 ∨ t = 3 ∨ t = 4 ∨ t = 5 := by omega
      rcases hc with rfl | rfl | rfl | rfl | rfl | rfl <;> rfl
    obtain ⟨f, hf⟩ := Go.Deep.choose_lt each
    refine ⟨some a, len, cap, f, rfl, hl, hm, ?_, fun i hi => (hf i hi).1⟩
    by_cases h0 : len = 0
    · exact .inl h0
    · obtain ⟨b, off, inner⟩ := a
      have hc0 := (hf 0 (by omega)).2 0 (by omega)
      have hin : inner = none := by simpa [Addr.add] using World.cell?_spot hc0
      subst hin
      refine .inr ⟨b, off, rfl, World.block_lt_of_cell? W _ hc0, fun i hi => ?_⟩
      have hh : ∀ t, t < 6 → W.cell? ⟨b, off + i * 6 + t, none⟩ = some (.int .i64 ((f i).nth t)) := fun t ht => by
        have := (hf i hi).2 t ht
        rw [Go.WideShapes.add_plain, Go.WideShapes.add_plain] at this
        exact this
      exact ⟨hh 0 (by omega), hh 1 (by omega), hh 2 (by omega), hh 3 (by omega), hh 4 (by omega), hh 5 (by omega)⟩

set_option maxRecDepth 100000 in
theorem openInts {fuel : Nat} {cs : List Value} {x : DataW H × List MemPlace} (h : DataW.trod enc Try.prog W base sp held fuel 29 cs = some x) :
    ∃ (a : Option Addr) (len cap : Nat) (f : Nat → Int), cs = [.slice a len cap] ∧ len ≤ cap ∧ cap ≤ maxLen ∧ Row .i64 W a len f ∧ ∀ i, i < len → (-9223372036854775808 ≤ f i ∧ f i ≤ 9223372036854775807) := by
  rcases Go.Deep.open_slice Try.underlying29 h with ⟨rfl, _⟩ | ⟨a, len, cap, m, n, D, Pl, rfl, hb, hl, hm, hmm, _, hx⟩
  · exact ⟨none, 0, 0, fun _ => 0, rfl, Nat.le_refl _, Nat.zero_le _, .inl rfl, fun i hi => absurd hi (Nat.not_lt_zero _)⟩
  · have hlm : len ≤ m := by rw [hmm]; split <;> omega
    have each : ∀ i, i < len → ∃ r : Int, (-9223372036854775808 ≤ r ∧ r ≤ 9223372036854775807) ∧ W.cell? (a.add (i * 1)) = some (.int .i64 r) := by
      intro i hi
      obtain ⟨cs', h1, h2⟩ := hx i (by omega)
      rw [cellsInt] at h1
      obtain ⟨_, hlen, hcell⟩ := World.cells?_some h1
      match cs', hlen with
      | [c0], _ =>
      obtain ⟨z, rfl, hzb⟩ := openInt h2
      have := hcell 0 (by omega)
      exact ⟨z, hzb, by simpa [Addr.add] using this⟩
    obtain ⟨f, hf⟩ := Go.Deep.choose_lt each
    refine ⟨some a, len, cap, f, rfl, hl, hm, ?_, fun i hi => (hf i hi).1⟩
    by_cases h0 : len = 0
    · exact .inl h0
    · obtain ⟨b, off, inner⟩ := a
      have hc0 := (hf 0 (by omega)).2
      have hin : inner = none := by simpa [Addr.add] using World.cell?_spot hc0
      subst hin
      refine .inr ⟨b, off, rfl, World.block_lt_of_cell? W _ hc0, fun i hi => ?_⟩
      have := (hf i hi).2
      rw [Go.WideShapes.add_plain, Nat.mul_one] at this
      exact this

set_option maxRecDepth 100000 in
theorem openTrace {fuel : Nat} {cs : List Value} {x : DataW H × List MemPlace} (h : DataW.trod enc Try.prog W base sp held fuel 31 cs = some x) :
    ∃ (T : Tr) (A : Ta), TraceIn W T A ∧ cs = (trCells T A).toList := by
  obtain ⟨xs, n, rfl, hx, hl, hxl, hall⟩ := DataW.trod_struct Try.underlying31 h
  rw [cellsTrace] at hl
  match cs, hl with
  | [c0, c1, c2, c3, c4, c5], _ =>
  match xs, hxl with
  | [y0, y1, y2, y3, y4, y5], _ =>
  have b0 : DataW.trod enc Try.prog W base sp held n 4 (([c0, c1, c2, c3, c4, c5].drop 0).take (Try.prog.cellsOf 4)) = some y0 := hall 0 _ rfl
  rw [cellsBool] at b0
  replace b0 : DataW.trod enc Try.prog W base sp held n 4 [c0] = some y0 := b0
  have b1 : DataW.trod enc Try.prog W base sp held n 28 (([c0, c1, c2, c3, c4, c5].drop 1).take (Try.prog.cellsOf 28)) = some y1 := hall 1 _ rfl
  rw [cellsSlice] at b1
  replace b1 : DataW.trod enc Try.prog W base sp held n 28 [c1] = some y1 := b1
  have b2 : DataW.trod enc Try.prog W base sp held n 28 (([c0, c1, c2, c3, c4, c5].drop 2).take (Try.prog.cellsOf 28)) = some y2 := hall 2 _ rfl
  rw [cellsSlice] at b2
  replace b2 : DataW.trod enc Try.prog W base sp held n 28 [c2] = some y2 := b2
  have b3 : DataW.trod enc Try.prog W base sp held n 28 (([c0, c1, c2, c3, c4, c5].drop 3).take (Try.prog.cellsOf 28)) = some y3 := hall 3 _ rfl
  rw [cellsSlice] at b3
  replace b3 : DataW.trod enc Try.prog W base sp held n 28 [c3] = some y3 := b3
  have b4 : DataW.trod enc Try.prog W base sp held n 29 (([c0, c1, c2, c3, c4, c5].drop 4).take (Try.prog.cellsOf 29)) = some y4 := hall 4 _ rfl
  rw [cellsInts] at b4
  replace b4 : DataW.trod enc Try.prog W base sp held n 29 [c4] = some y4 := b4
  have b5 : DataW.trod enc Try.prog W base sp held n 3 (([c0, c1, c2, c3, c4, c5].drop 5).take (Try.prog.cellsOf 3)) = some y5 := hall 5 _ rfl
  rw [cellsInt] at b5
  replace b5 : DataW.trod enc Try.prog W base sp held n 3 [c5] = some y5 := b5
  obtain ⟨ok, rfl⟩ := openBool (y := y0) b0
  obtain ⟨ao, no, co, fo, hs1, p1, p2, p3, p4⟩ := openPkts (x := y1) b1
  obtain ⟨ad, nd, cd, fd, hs2, q1, q2, q3, q4⟩ := openPkts (x := y2) b2
  obtain ⟨al, nl, cl, fl, hs3, r1, r2, r3, r4⟩ := openPkts (x := y3) b3
  obtain ⟨at', nt, ct, ft, hs4, t1, t2, t3, t4⟩ := openInts (x := y4) b4
  obtain ⟨now, rfl, inow⟩ := openInt (y := y5) b5
  simp only [List.cons.injEq, and_true] at hs1 hs2 hs3 hs4
  subst hs1 hs2 hs3 hs4
  exact ⟨⟨ok, no, fo, nd, fd, nl, fl, nt, ft, now⟩, ⟨ao, co, ad, cd, al, cl, at', ct⟩, ⟨⟨p3, q3, r3, t3⟩, ⟨p1, p2⟩, ⟨q1, q2⟩, ⟨r1, r2⟩, ⟨t1, t2⟩, inow, p4, q4, t4⟩, rfl⟩

end

set_option maxRecDepth 100000 in
theorem lifted (os : Os) (started : os.Started) (H : Type) (enc : TypeId × Value → H) :
    ReturnsInHanded {} Try.checked os 4 .any (Rows.fnExactFlowBytesSpec.pre6 enc Try.prog Try.f4 Rows.fnExactFlowBytesRow.domain false) (Rows.fnExactFlowBytesSpec.post enc Try.prog Try.f4 false true false false) := by
  refine returnsInHanded_of_change (C := Try.checked) own started (by kernel_rfl) Try.func4
    (ChangeSpec.witness6 (enc := enc) (C := Try.checked) false ⟨#[], #[.agg #[.bool false, .slice none 0 0, .slice none 0 0, .slice none 0 0, .slice none 0 0, .int .i64 0], .int .i64 0], []⟩ 8 (by kernel_rfl) (by kernel_rfl) (by kernel_rfl) (by kernel_rfl)) ?_
  intro W base args ds gs before hval0 hW hcnd _
  have hval : ∀ (j : Nat) t v, Try.f4.params[j]? = some t → args[j]? = some v → Value.okWide Try.prog W .any base t v := hval0
  have hW' := hW
  obtain ⟨p, q, hA0, hV, rfl, hfz, hnd⟩ := hW
  have hA : DataW.TrodAll enc Try.prog W 0 (fun _ => true) true Try.f4.params.toList args.toList ds p := hA0
  rw [Try.params4] at hA hval
  obtain ⟨v0, vs0, d0, ds0, p0, q0, hargs, rfl, rfl, h0, tl0⟩ := trodAll_cons hA
  obtain ⟨v1, vs1, d1, ds1, p1, q1, rfl, rfl, rfl, h1, tl1⟩ := trodAll_cons tl0
  obtain ⟨rfl, rfl, rfl⟩ := trodAll_nil tl1
  obtain rfl : args = #[v0, v1] := by cases args; simp_all
  obtain ⟨rfl, rfl⟩ := trodVars_none hV
  have k0 := h0
  have lt0 : ∀ x ∈ p0, x.block < W.heap.size := by obtain ⟨m, hm⟩ := k0; exact DataW.trod_lt m _ _ _ hm
  have k1 := h1
  have lt1 : ∀ x ∈ p1, x.block < W.heap.size := by obtain ⟨m, hm⟩ := k1; exact DataW.trod_lt m _ _ _ hm
  obtain ⟨cs0, rfl, hcs0⟩ := okWide_struct Try.underlying31 (hval 0 31 v0 rfl rfl)
  obtain ⟨T0, A0, hin0, hrc0⟩ : ∃ (T : Tr) (A : Ta), TraceIn W T A ∧ cs0 = trCells T A := by
    obtain ⟨fuel, hf⟩ := h0
    obtain ⟨T, A, hin, hcs'⟩ := openTrace hf
    have hc2 : cs0 = (cs0.toList).toArray := by simp
    have hcl : cs0.toList = (trCells T A).toList := by simpa [Value.cells] using hcs'
    rw [hcl] at hc2
    exact ⟨T, A, hin, hc2⟩
  subst hrc0
  obtain ⟨z1, hzv1, _, _, hzw1⟩ := open_int Try.underlying3 (hval 1 3 v1 rfl rfl) h1
  subst hzv1
  clear hA0 hval0
  refine (walk T0 A0 z1 (bd hzw1) W hin0).mono fun e W' ⟨he, bel⟩ => ?_
  subst he
  exact ⟨_, rfl, _, _, _, [], _, [], hW', trodAll_mk1 (shut_bool Try.underlying4 _), (trodAll_cons_mk (Below.trod laidOut (by kernel_rfl) (of_decide_eq_true (by kernel_rfl)) k0 bel lt0) (trodAll_cons_mk (Below.trod laidOut (by kernel_rfl) (of_decide_eq_true (by kernel_rfl)) k1 bel lt1) trodAll_mk0)), rfl, bel.frame _, fun h => by cases h⟩

theorem over : Rows.fnExactFlowBytesRow.holds Try.pinned (OpenSpec.ofChange Rows.fnExactFlowBytesSpec) :=
  OpenClaim.holds_of_wide 4 Try.f4 rfl rfl rfl rfl rfl rfl rfl ⟨rfl, rfl, rfl, rfl, rfl⟩ rfl rfl rfl rfl rfl (by kernel_rfl) Try.func4 (by kernel_rfl)
    (of_decide_eq_true (by kernel_rfl)) (by unfold Func.isWrapper; first | (rw [if_pos (by decide +kernel)]; kernel_rfl) | (rw [if_neg (by decide +kernel)]; exact ⟨rfl, rfl⟩))
    (fun os started H enc _ => lifted os started H enc)

theorem proved : Rows.FnExactFlowBytesSaid := over
end Go.Proofs.Ytcmjnanejeekiaa.fnExactFlowBytes
namespace Go.Proofs.Ytcmjnanejeekiaa
theorem fnExactFlowBytes_holds : Rows.FnExactFlowBytesSaid := fnExactFlowBytes.proved
#print axioms fnExactFlowBytes_holds
end Go.Proofs.Ytcmjnanejeekiaa
