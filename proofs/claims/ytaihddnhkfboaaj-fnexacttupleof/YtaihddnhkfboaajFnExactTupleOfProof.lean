/-
  Whatever frame the law FnExactTupleOf is given, it returns true and leaves the frame as it was: the program's TupleOf answers as the specification's; no condition.
-/
import Derived.Test.YtaihddnhkfboaajRows
import Derived.WalkKit
import Derived.ProofKit
import Derived.OpenShut
import Derived.Test.YtaihddnhkfboaajTup
import Derived.Deep.RegionHeld3
import Derived.ShutString
import Derived.ChangeOld
import Derived.Below
namespace Go.Proofs.Ytaihddnhkfboaaj.fnExactTupleOf
open Go.ChangeShapes Go.WideShapes Go.ChangeAt Go.RowKit
open Go.ChangeMaps (open_string shut_string)
set_option linter.unusedVariables false

theorem own : ownKnob Try.prog.godebug = none := by kernel_rfl
theorem laidOut : laidOutB Try.prog = true := by kernel_rfl
theorem cells3 : Try.prog.cellsOf 3 = 1 := by kernel_rfl
theorem cellsIp : Try.prog.cellsOf 32 = 7 := by kernel_rfl
theorem cellsFrame : Try.prog.cellsOf 34 = 10 := by kernel_rfl
theorem cellsSlice : Try.prog.cellsOf 22 = 1 := by kernel_rfl

/-- A slice of integers that came in. -/
def IsRow (k : IntKind) (w : World) (a : Option Addr) (len cap : Nat) (zs : List Int) : Prop :=
  (a = none ∧ len = 0 ∧ cap = 0 ∧ zs = []) ∨
  ∃ x, a = some x ∧ len ≤ cap ∧ cap ≤ maxLen ∧ zs.length = cap ∧ (∀ i, i < zs.length → w.cell? (x.add i) = some (.int k (zs.getD i 0))) ∧ ∀ n ∈ zs, (Lit.int k n).wf = true

theorem row_of {w : World} {a : Option Addr} {len cap : Nat} {zs : List Int} (h : IsRow .u8 w a len cap zs) : Row .u8 w a len (fun i => zs.getD i 0) ∧ Byt len (fun i => zs.getD i 0) ∧ len ≤ cap := by
  rcases h with ⟨rfl, rfl, rfl, rfl⟩ | ⟨x, rfl, hl, hm, hz, hcell, hwz⟩
  · exact ⟨.inl rfl, fun i hi => absurd hi (Nat.not_lt_zero _), Nat.le_refl _⟩
  · by_cases h0 : len = 0
    · subst h0
      exact ⟨.inl rfl, fun i hi => absurd hi (Nat.not_lt_zero _), hl⟩
    · obtain ⟨b, off, rfl, hc⟩ := ints_at hcell (by omega)
      refine ⟨.inr ⟨b, off, rfl, World.block_lt_of_cell? w _ (hc 0 (by omega)), fun k hk => hc k (by omega)⟩, fun k hk => ?_, hl⟩
      exact bounds_u8 (hwz (zs.getD k 0) (by rw [List.getD_eq_getElem?_getD, List.getElem?_eq_getElem (by omega)]; exact List.getElem_mem _))


set_option maxHeartbeats 4000000 in
theorem walk (r : Fr) (hr : r.In) (a0 : Option Addr) (len0 cap0 : Nat) (z0 : List Int) (w : World) (w0 : IsRow .u8 w a0 len0 cap0 z0) :
    Calls Try.prog 5 #[r.val a0 len0 cap0] w fun e w' => e = .returned (.bool true) ∧ Below w.heap.size w w' := by
  obtain ⟨hrow, hf, hcap⟩ := row_of w0
  have hmax : (len0 : Int) ≤ 9223372036854775807 := by
    rcases w0 with ⟨_, rfl, _, _⟩ | ⟨x, _, h1, h2, _⟩
    · decide
    · unfold maxLen at h2; omega
  generalize (fun i => z0.getD i 0) = f at hrow hf
  clear w0
  have HR : Hid (Row .u8 w a0 len0 f) := hrow
  have HI : Hid r.In := hr
  clear hrow hf hr
  obtain ⟨d, e, i, t, p, s, q, sp, dp⟩ := r
  by_cases hbig : 1048576 < (len0 : Int)
  · go_enter Try.func5, Try.ntmps5
    go_wp2_with (go_at_call 15; refine (szFrame_any ⟨d, e, i, t, p, s, q, sp, dp⟩ a0 len0 cap0 1048576 _ hmax (by omega) (by omega)).mono ?_; rintro o w1 ⟨rfl, b1⟩; rw [if_pos hbig])
    go_ret
    exact ⟨rfl, ((Below.refl w.heap.size w).alloc (Nat.le_refl _) _).trans (b1.mono (by simp))⟩
  · have hn : len0 ≤ 1048576 := by omega
    have hsz : decide (1048576 - (len0 : Int) < 0) = false := by simp; omega
    have g0 : FvL (w.alloc (frObjL ⟨d, e, i, t, p, s, q, sp, dp⟩ a0 len0 cap0)) w.heap.size ⟨d, e, i, t, p, s, q, sp, dp⟩ a0 len0 cap0 := FvL.alloc _ _ _ _ _
    have B0 : Below w.heap.size w (w.alloc (frObjL ⟨d, e, i, t, p, s, q, sp, dp⟩ a0 len0 cap0)) := (Below.refl _ _).alloc (Nat.le_refl _) _
    go_enter Try.func5, Try.ntmps5
    go_wp2_with (go_at_call 15; refine (szFrame_any ⟨d, e, i, t, p, s, q, sp, dp⟩ a0 len0 cap0 1048576 _ hmax (by omega) (by omega)).mono ?_; rintro o w1 ⟨rfl, b1⟩; rw [if_neg hbig]; obtain ⟨x1_0, x1_1, x1_2, x1_3, x1_4, x1_5, x1_6, x1_7, x1_8, x1_9⟩ := (g0.below b1).cells)
    have g1 := g0.below b1
    have B1 := B0.trans (b1.mono B0.size)
    clear g0 b1 x1_0 x1_1 x1_2 x1_3 x1_4 x1_5 x1_6 x1_7 x1_8 x1_9
    go_wp2_with (go_at_call 17; refine (toFrame_ints d e i t p s q sp dp a0 len0 cap0 f _ (Row.below HR.out B1) hn).mono ?_; rintro o w2 ⟨d2, rfl, o2, b2⟩)
    have B2 := B1.trans (b2.mono B1.size)
    have g2 := g1.below b2
    go_wp2_with (go_at_call 16; refine (stupleOf_any ⟨d, e, i, t, p, s, q, sp, dp⟩ d2 len0 len0 _ HI.out hmax).mono ?_; rintro o w3 ⟨rfl, b3⟩; dsimp only [Tu.val]; have l3 : w.heap.size < w3.heap.size := (g2.below b3).1; obtain ⟨x3_0, x3_1, x3_2, x3_3, x3_4, x3_5, x3_6, x3_7, x3_8, x3_9⟩ := (g2.below b3).cells)
    have B3' := B2.trans (b3.mono B2.size)
    obtain ⟨V3, hV3⟩ : ∃ V, w3.heap.size = V := ⟨_, rfl⟩
    obtain ⟨wa, hA⟩ : ∃ x, w3.alloc (tuObj (tuOf ⟨d, e, i, t, p, s, q, sp, dp⟩ len0)) = x := ⟨_, rfl⟩
    have t3 : Tv wa V3 (tuOf ⟨d, e, i, t, p, s, q, sp, dp⟩ len0) := by rw [← hA, ← hV3]; exact Tv.alloc _ _
    have b3a : Below w3.heap.size w3 wa := by rw [← hA]; exact (Below.refl _ _).alloc (Nat.le_refl _) _
    have B3 := B3'.trans (b3a.mono B3'.size)
    have g3 := (g2.below b3).below b3a
    rw [hA, hV3]
    clear x3_0 x3_1 x3_2 x3_3 x3_4 x3_5 x3_6 x3_7 x3_8 x3_9 hA hV3 l3 b3 b3a B3'
    go_wp2_with (go_at_call 17; refine (toFrame_ints d e i t p s q sp dp a0 len0 cap0 f _ (Row.below HR.out B3) hn).mono ?_; rintro o w4 ⟨d4, rfl, o4, b4⟩)
    have B4 := B3.trans (b4.mono B3.size)
    obtain ⟨V4, hV4⟩ : ∃ V, w4.heap.size = V := ⟨_, rfl⟩
    obtain ⟨wb, hA⟩ : ∃ x, w4.alloc (frObj ⟨d, e, i, t, p, s, q, sp, dp⟩ d4 len0 len0) = x := ⟨_, rfl⟩
    have gg : Fv wb V4 ⟨d, e, i, t, p, s, q, sp, dp⟩ d4 len0 len0 := by rw [← hA, ← hV4]; exact Fv.alloc _ _ _ _ _
    have b4a : Below w4.heap.size w4 wb := by rw [← hA]; exact (Below.refl _ _).alloc (Nat.le_refl _) _
    have B4' := B4.trans (b4a.mono B4.size)
    have g4' := (g3.below b4).below b4a
    have t4' := (t3.below b4).below b4a
    have o4' := o4.below b4a
    rw [hA, hV4]
    clear hA hV4 b4a b4 g3 t3 o4
    go_wp2_with (go_at_call 18; refine (itupleOf_any ⟨d, e, i, t, p, s, q, sp, dp⟩ d4 len0 len0 _ HI.out hmax).mono ?_; rintro o w5 ⟨rfl, b5⟩; dsimp only [Tu.val]; have l5 : V3 < w5.heap.size := (t4'.below b5).1; obtain ⟨y5_0, y5_1, y5_2, y5_3, y5_4⟩ := (t4'.below b5).cells)
    have B5' := B4'.trans (b5.mono B4'.size)
    obtain ⟨wc, hA⟩ : ∃ x, w5.alloc (tuObj (tuOf ⟨d, e, i, t, p, s, q, sp, dp⟩ len0)) = x := ⟨_, rfl⟩
    have b5a : Below w5.heap.size w5 wc := by rw [← hA]; exact (Below.refl _ _).alloc (Nat.le_refl _) _
    have b5c : Below wb.heap.size wb wc := b5.trans (b5a.mono b5.size)
    have B5'' := B5'.trans (b5a.mono B5'.size)
    rw [hA]
    clear hA y5_0 y5_1 y5_2 y5_3 y5_4 l5 b5a
    go_wp2_with (go_at_call 19; refine (eqTuple_yes _ _ _ _ _ _).mono ?_; rintro o w6 ⟨rfl, b6e⟩)
    have b6c : Below wb.heap.size wb w6 := b5c.trans (b6e.mono b5c.size)
    have B5 := B5''.trans (b6e.mono B5''.size)
    have gg5 := gg.below b6c
    have g5 := g4'.below b6c
    have o5 := o4'.below b6c
    go_region_held3 (fun w' => (w'.cell? ⟨V4, 0, none⟩ = some (.int .i64 d) ∧ w'.cell? ⟨V4, 1, none⟩ = some (.int .i64 e) ∧ w'.cell? ⟨V4, 2, none⟩ = some (.int .i64 i) ∧ w'.cell? ⟨V4, 3, none⟩ = some (.int .i64 t) ∧ w'.cell? ⟨V4, 4, none⟩ = some (.int .i64 p) ∧ w'.cell? ⟨V4, 5, none⟩ = some (.int .i64 s) ∧ w'.cell? ⟨V4, 6, none⟩ = some (.int .i64 q) ∧ w'.cell? ⟨V4, 7, none⟩ = some (.int .i64 sp) ∧ w'.cell? ⟨V4, 8, none⟩ = some (.int .i64 dp) ∧ w'.cell? ⟨V4, 9, none⟩ = some (.slice d4 len0 len0)) ∧ (w'.cell? ⟨w.heap.size, 0, none⟩ = some (.int .i64 d) ∧ w'.cell? ⟨w.heap.size, 1, none⟩ = some (.int .i64 e) ∧ w'.cell? ⟨w.heap.size, 2, none⟩ = some (.int .i64 i) ∧ w'.cell? ⟨w.heap.size, 3, none⟩ = some (.int .i64 t) ∧ w'.cell? ⟨w.heap.size, 4, none⟩ = some (.int .i64 p) ∧ w'.cell? ⟨w.heap.size, 5, none⟩ = some (.int .i64 s) ∧ w'.cell? ⟨w.heap.size, 6, none⟩ = some (.int .i64 q) ∧ w'.cell? ⟨w.heap.size, 7, none⟩ = some (.int .i64 sp) ∧ w'.cell? ⟨w.heap.size, 8, none⟩ = some (.int .i64 dp) ∧ w'.cell? ⟨w.heap.size, 9, none⟩ = some (.slice a0 len0 cap0))) (first | exact ⟨Fv.cells (w := w6.drew) gg5, FvL.cells (w := w6.drew) g5⟩ | go_keep | exact ⟨(Fv.below (w := w6.drew) gg5 b6).cells, (FvL.below (w := w6.drew) g5 b6).cells⟩ | exact ⟨((Fv.below (w := w6.drew) gg5 b6).below k7.1).cells, ((FvL.below (w := w6.drew) g5 b6).below k7.1).cells⟩) (first | (go_at_call 17; refine (toFrame_ints d e i t p s q sp dp a0 len0 cap0 f _ (Row.below HR.out B5.drew) hn).mono ?_; rintro o w7 ⟨d6, rfl, o6, b6⟩) | (go_at_call 20; refine (eqFrame_yes ⟨d, e, i, t, p, s, q, sp, dp⟩ d4 d6 len0 len0 len0 f f _ (Zn.below (w := w6.drew) o5 b6).row o6.row (fun _ _ => rfl) hn).mono ?_; rintro o w8 ⟨rfl, k7⟩))
    all_goals
      go_wp2
      go_ret
      have B6 := B5.drew.trans (b6.mono B5.size)
      exact ⟨rfl, B6.trans (k7.1.mono B6.size)⟩

section
variable {H : Type} {enc : TypeId × Value → H} {W : World} {base : Nat} {sp : Nat → Bool} {held : Bool}

theorem openInt {n : Nat} {c : Value} {y : DataW H × List MemPlace} (h : DataW.trod enc Try.prog W base sp held n 3 [c] = some y) : ∃ z : Int, c = .int .i64 z ∧ (-9223372036854775808 ≤ z ∧ z ≤ 9223372036854775807) := by
  obtain ⟨z, h1, _, hw⟩ := DataW.trod_int Try.underlying3 h
  simp only [List.cons.injEq, and_true] at h1
  exact ⟨z, h1, bd hw⟩

theorem openFrame {fuel : Nat} {cs : List Value} {x : DataW H × List MemPlace} (h : DataW.trod enc Try.prog W base sp held fuel 34 cs = some x) :
    ∃ (r : Fr) (v : Value) (m : Nat) (y : DataW H × List MemPlace), r.In ∧ cs = [.int .i64 r.dscp, .int .i64 r.ecn, .int .i64 r.id, .int .i64 r.ttl, .int .i64 r.proto, .int .i64 r.src, .int .i64 r.dst, .int .i64 r.srcP, .int .i64 r.dstP, v] ∧ DataW.trod enc Try.prog W base sp held m 22 [v] = some y := by
  obtain ⟨xs, n, rfl, hx, hl, hxl, hall⟩ := DataW.trod_struct Try.underlying34 h
  rw [cellsFrame] at hl
  match cs, hl with
  | [c0, c1, c2, c3, c4, c5, c6, c7, c8, c9], _ =>
  match xs, hxl with
  | [y0, y1, y2, y3], _ =>
  have b0 : DataW.trod enc Try.prog W base sp held n 32 (([c0, c1, c2, c3, c4, c5, c6, c7, c8, c9].drop 0).take (Try.prog.cellsOf 32)) = some y0 := hall 0 _ rfl
  rw [cellsIp] at b0
  replace b0 : DataW.trod enc Try.prog W base sp held n 32 [c0, c1, c2, c3, c4, c5, c6] = some y0 := b0
  have b1 : DataW.trod enc Try.prog W base sp held n 3 (([c0, c1, c2, c3, c4, c5, c6, c7, c8, c9].drop 7).take (Try.prog.cellsOf 3)) = some y1 := hall 1 _ rfl
  rw [cells3] at b1
  replace b1 : DataW.trod enc Try.prog W base sp held n 3 [c7] = some y1 := b1
  have b2 : DataW.trod enc Try.prog W base sp held n 3 (([c0, c1, c2, c3, c4, c5, c6, c7, c8, c9].drop 8).take (Try.prog.cellsOf 3)) = some y2 := hall 2 _ rfl
  rw [cells3] at b2
  replace b2 : DataW.trod enc Try.prog W base sp held n 3 [c8] = some y2 := b2
  have b3 : DataW.trod enc Try.prog W base sp held n 22 (([c0, c1, c2, c3, c4, c5, c6, c7, c8, c9].drop 9).take (Try.prog.cellsOf 22)) = some y3 := hall 3 _ rfl
  rw [cellsSlice] at b3
  replace b3 : DataW.trod enc Try.prog W base sp held n 22 [c9] = some y3 := b3
  obtain ⟨xs', n', rfl, hx', hl', hxl', hall'⟩ := DataW.trod_struct Try.underlying32 (x := y0) b0
  match xs', hxl' with
  | [u0, u1, u2, u3, u4, u5, u6], _ =>
  have e0 : DataW.trod enc Try.prog W base sp held n' 3 (([c0, c1, c2, c3, c4, c5, c6].drop 0).take (Try.prog.cellsOf 3)) = some u0 := hall' 0 _ rfl
  rw [cells3] at e0
  replace e0 : DataW.trod enc Try.prog W base sp held n' 3 [c0] = some u0 := e0
  have e1 : DataW.trod enc Try.prog W base sp held n' 3 (([c0, c1, c2, c3, c4, c5, c6].drop 1).take (Try.prog.cellsOf 3)) = some u1 := hall' 1 _ rfl
  rw [cells3] at e1
  replace e1 : DataW.trod enc Try.prog W base sp held n' 3 [c1] = some u1 := e1
  have e2 : DataW.trod enc Try.prog W base sp held n' 3 (([c0, c1, c2, c3, c4, c5, c6].drop 2).take (Try.prog.cellsOf 3)) = some u2 := hall' 2 _ rfl
  rw [cells3] at e2
  replace e2 : DataW.trod enc Try.prog W base sp held n' 3 [c2] = some u2 := e2
  have e3 : DataW.trod enc Try.prog W base sp held n' 3 (([c0, c1, c2, c3, c4, c5, c6].drop 3).take (Try.prog.cellsOf 3)) = some u3 := hall' 3 _ rfl
  rw [cells3] at e3
  replace e3 : DataW.trod enc Try.prog W base sp held n' 3 [c3] = some u3 := e3
  have e4 : DataW.trod enc Try.prog W base sp held n' 3 (([c0, c1, c2, c3, c4, c5, c6].drop 4).take (Try.prog.cellsOf 3)) = some u4 := hall' 4 _ rfl
  rw [cells3] at e4
  replace e4 : DataW.trod enc Try.prog W base sp held n' 3 [c4] = some u4 := e4
  have e5 : DataW.trod enc Try.prog W base sp held n' 3 (([c0, c1, c2, c3, c4, c5, c6].drop 5).take (Try.prog.cellsOf 3)) = some u5 := hall' 5 _ rfl
  rw [cells3] at e5
  replace e5 : DataW.trod enc Try.prog W base sp held n' 3 [c5] = some u5 := e5
  have e6 : DataW.trod enc Try.prog W base sp held n' 3 (([c0, c1, c2, c3, c4, c5, c6].drop 6).take (Try.prog.cellsOf 3)) = some u6 := hall' 6 _ rfl
  rw [cells3] at e6
  replace e6 : DataW.trod enc Try.prog W base sp held n' 3 [c6] = some u6 := e6
  obtain ⟨z0, rfl, i0⟩ := openInt (y := u0) e0
  obtain ⟨z1, rfl, i1⟩ := openInt (y := u1) e1
  obtain ⟨z2, rfl, i2⟩ := openInt (y := u2) e2
  obtain ⟨z3, rfl, i3⟩ := openInt (y := u3) e3
  obtain ⟨z4, rfl, i4⟩ := openInt (y := u4) e4
  obtain ⟨z5, rfl, i5⟩ := openInt (y := u5) e5
  obtain ⟨z6, rfl, i6⟩ := openInt (y := u6) e6
  obtain ⟨z7, rfl, i7⟩ := openInt (y := y1) b1
  obtain ⟨z8, rfl, i8⟩ := openInt (y := y2) b2
  exact ⟨⟨z0, z1, z2, z3, z4, z5, z6, z7, z8⟩, c9, n' + 1, y3, ⟨i0, i1, i2, i3, i4, i5, i6, i7, i8⟩, rfl, b3⟩

end

set_option maxRecDepth 100000 in
theorem lifted (os : Os) (started : os.Started) (H : Type) (enc : TypeId × Value → H) :
    ReturnsInHanded {} Try.checked os 5 .any (Rows.fnExactTupleOfSpec.pre6 enc Try.prog Try.f5 Rows.fnExactTupleOfRow.domain false) (Rows.fnExactTupleOfSpec.post enc Try.prog Try.f5 false true false false) := by
  refine returnsInHanded_of_change (C := Try.checked) own started (by kernel_rfl) Try.func5
    (ChangeSpec.witness6 (enc := enc) (C := Try.checked) false ⟨#[], #[.agg #[.int .i64 0, .int .i64 0, .int .i64 0, .int .i64 0, .int .i64 0, .int .i64 0, .int .i64 0, .int .i64 0, .int .i64 0, .slice none 0 0]], []⟩ 8 (by kernel_rfl) (by kernel_rfl) (by kernel_rfl) (by kernel_rfl)) ?_
  intro W base args ds gs before hval0 hW hcnd _
  have hval : ∀ (j : Nat) t v, Try.f5.params[j]? = some t → args[j]? = some v → Value.okWide Try.prog W .any base t v := hval0
  have hW' := hW
  obtain ⟨p, q, hA0, hV, rfl, hfz, hnd⟩ := hW
  have hA : DataW.TrodAll enc Try.prog W 0 (fun _ => true) true Try.f5.params.toList args.toList ds p := hA0
  rw [Try.params5] at hA hval
  obtain ⟨v0, vs0, d0, ds0, p0, q0, hargs, rfl, rfl, h0, r0⟩ := trodAll_cons hA
  obtain ⟨rfl, rfl, rfl⟩ := trodAll_nil r0
  obtain rfl : args = #[v0] := by cases args; simp_all
  obtain ⟨rfl, rfl⟩ := trodVars_none hV
  obtain ⟨cs, rfl, hcs⟩ := okWide_struct Try.underlying34 (hval 0 34 v0 rfl rfl)
  have k0 := h0
  have lt0 : ∀ x ∈ p0, x.block < W.heap.size := by obtain ⟨m, hm⟩ := k0; exact DataW.trod_lt m _ _ _ hm
  obtain ⟨r, a0, len0, cap0, z0, hr, hrc, w0⟩ : ∃ (r : Fr) (a0 : Option Addr) (len0 cap0 : Nat) (z0 : List Int), r.In ∧ cs = #[.int .i64 r.dscp, .int .i64 r.ecn, .int .i64 r.id, .int .i64 r.ttl, .int .i64 r.proto, .int .i64 r.src, .int .i64 r.dst, .int .i64 r.srcP, .int .i64 r.dstP, .slice a0 len0 cap0] ∧ IsRow .u8 W a0 len0 cap0 z0 := by
    obtain ⟨fuel, hf⟩ := h0
    obtain ⟨r, v, m, y, hin, hcs', ht⟩ := openFrame hf
    have hc2 : cs = (cs.toList).toArray := by simp
    have hcl : cs.toList = [.int .i64 r.dscp, .int .i64 r.ecn, .int .i64 r.id, .int .i64 r.ttl, .int .i64 r.proto, .int .i64 r.src, .int .i64 r.dst, .int .i64 r.srcP, .int .i64 r.dstP, v] := by simpa [Value.cells] using hcs'
    rw [hcl] at hc2
    rcases open_ints Try.underlying22 Try.underlying5 (by kernel_rfl) ht with ⟨hs, _⟩ | ⟨x, l, c, zs, hs, _, hl, hm, hz, _, hcell, hwz⟩
    · simp only [List.cons.injEq, and_true] at hs
      subst hs
      exact ⟨r, none, 0, 0, [], hin, hc2, .inl ⟨rfl, rfl, rfl, rfl⟩⟩
    · simp only [List.cons.injEq, and_true] at hs
      subst hs
      exact ⟨r, some x, l, c, zs, hin, hc2, .inr ⟨_, rfl, hl, hm, by simpa using hz, hcell, hwz⟩⟩
  subst hrc
  clear hA0 hval0
  refine (walk r hr a0 len0 cap0 z0 W w0).mono fun e W' ⟨he, bel⟩ => ?_
  subst he
  exact ⟨_, rfl, _, _, _, [], _, [], hW', trodAll_mk1 (shut_bool Try.underlying4 _), (trodAll_cons_mk (Below.trod laidOut (by kernel_rfl) (of_decide_eq_true (by kernel_rfl)) k0 bel lt0) trodAll_mk0), rfl, bel.frame _, fun h => by cases h⟩

theorem over : Rows.fnExactTupleOfRow.holds Try.pinned (OpenSpec.ofChange Rows.fnExactTupleOfSpec) :=
  OpenClaim.holds_of_wide 5 Try.f5 rfl rfl rfl rfl rfl rfl rfl ⟨rfl, rfl, rfl, rfl, rfl⟩ rfl rfl rfl rfl rfl (by kernel_rfl) Try.func5 (by kernel_rfl)
    (of_decide_eq_true (by kernel_rfl)) (by unfold Func.isWrapper; first | (rw [if_pos (by decide +kernel)]; kernel_rfl) | (rw [if_neg (by decide +kernel)]; exact ⟨rfl, rfl⟩))
    (fun os started H enc _ => lifted os started H enc)

theorem proved : Rows.FnExactTupleOfSaid := over
end Go.Proofs.Ytaihddnhkfboaaj.fnExactTupleOf
namespace Go.Proofs.Ytaihddnhkfboaaj
theorem fnExactTupleOf_holds : Rows.FnExactTupleOfSaid := fnExactTupleOf.proved
#print axioms fnExactTupleOf_holds
end Go.Proofs.Ytaihddnhkfboaaj
