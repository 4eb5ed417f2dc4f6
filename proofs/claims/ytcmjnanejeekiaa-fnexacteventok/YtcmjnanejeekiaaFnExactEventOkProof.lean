/-
  Whatever event the law FnExactEventOk is given, it returns true and leaves all that lay as it was: the program's EventOk answers as the specification's; no condition.
-/
import Derived.Test.YtcmjnanejeekiaaRows
import Derived.WalkKit
import Derived.ProofKit
import Derived.OpenShut
import Derived.Test.YtcmjnanejeekiaaEvent
import Derived.Deep.Cut
import Derived.Deep.Slices
import Derived.ShutString
import Derived.ChangeOld
import Derived.Below
namespace Go.Proofs.Ytcmjnanejeekiaa.fnExactEventOk
open Go.ChangeShapes Go.WideShapes Go.ChangeAt Go.RowKit
open Go.ChangeMaps (open_string shut_string)
set_option linter.unusedVariables false

theorem own : ownKnob Try.prog.godebug = none := by kernel_rfl
theorem laidOut : laidOutB Try.prog = true := by kernel_rfl
theorem cellsInt : Try.prog.cellsOf 3 = 1 := by kernel_rfl
theorem cellsEvent : Try.prog.cellsOf 23 = 7 := by kernel_rfl


set_option maxHeartbeats 4000000 in
theorem walk (r0 : Ev) (w0 : r0.In) (w : World)  :
    Calls Try.prog 3 #[r0.val] w fun e w' => e = .returned (.bool true) ∧ Below w.heap.size w w' := by
  have HB0 : Hid (Kept w (w.alloc (.cells (evCells r0) 23))) := Kept.alloc _ _ _
  have s0 := Sits.new w (evCells r0) 23
  have HS : Hid (Sits (w.alloc (.cells (evCells r0) 23)) w.heap.size (evCells r0) 23) := s0
  clear s0 w0
  obtain ⟨b, hb⟩ : ∃ b, r0.good = b := ⟨_, rfl⟩
  have HG : Hid (r0.good = b) := hb
  clear hb
  go_enter Try.func3, Try.ntmps3
  go_upto_region 2 with (first | (go_at_call 7; refine (toEvent_any r0 _).mono ?_; rintro e w1 ⟨rfl, h1⟩) | (go_at_call 6; refine (sEventOk_any r0 _).mono ?_; rintro e w2 ⟨rfl, h2⟩; rw [HG.out]))
  have k2 := h1.trans h2
  have HK2 : Hid (Kept _ _) := k2
  have s2 := Sits.kept HS.out k2
  have c0 : w2.cell? ⟨w.heap.size, 0, none⟩ = some (.int .i64 r0.kd) := s2.cell 0
  have c1 : w2.cell? ⟨w.heap.size, 1, none⟩ = some (.int .i64 r0.gp) := s2.cell 1
  have c2 : w2.cell? ⟨w.heap.size, 2, none⟩ = some (.int .i64 r0.fw) := s2.cell 2
  have c3 : w2.cell? ⟨w.heap.size, 3, none⟩ = some (.int .i64 r0.hs) := s2.cell 3
  have c4 : w2.cell? ⟨w.heap.size, 4, none⟩ = some (.int .i64 r0.sz) := s2.cell 4
  have c5 : w2.cell? ⟨w.heap.size, 5, none⟩ = some (.int .i64 r0.ec) := s2.cell 5
  have c6 : w2.cell? ⟨w.heap.size, 6, none⟩ = some (.int .i64 r0.dr) := s2.cell 6
  clear s2 h1 h2 k2
  go_upto_region 3 with (first | (go_at_call 7; refine (toEvent_any r0 _).mono ?_; rintro e w3 ⟨rfl, h3⟩) | (go_at_call 8; refine (iEventOk_any r0 _).mono ?_; rintro e w4 ⟨rfl, h4⟩; rw [HG.out]))
  have HK : Hid (Kept w w4) := ((Kept.trans HB0.out HK2.out).trans h3).trans h4
  clear h3 h4
  cases b
  · go_wp2
    go_ret
    exact ⟨rfl, HK.out.1⟩
  · go_wp2
    go_ret
    exact ⟨rfl, HK.out.1⟩

section
variable {H : Type} {enc : TypeId × Value → H} {W : World} {base : Nat} {sp : Nat → Bool} {held : Bool}

theorem openInt {n : Nat} {c : Value} {y : DataW H × List MemPlace} (h : DataW.trod enc Try.prog W base sp held n 3 [c] = some y) : ∃ z : Int, c = .int .i64 z ∧ (-9223372036854775808 ≤ z ∧ z ≤ 9223372036854775807) := by
  obtain ⟨z, h1, _, hw⟩ := DataW.trod_int Try.underlying3 h
  simp only [List.cons.injEq, and_true] at h1
  exact ⟨z, h1, bd hw⟩

theorem openEvent {fuel : Nat} {cs : List Value} {x : DataW H × List MemPlace} (h : DataW.trod enc Try.prog W base sp held fuel 23 cs = some x) :
    ∃ r : Ev, r.In ∧ cs = [.int .i64 r.kd, .int .i64 r.gp, .int .i64 r.fw, .int .i64 r.hs, .int .i64 r.sz, .int .i64 r.ec, .int .i64 r.dr] := by
  obtain ⟨xs, n, rfl, hx, hl, hxl, hall⟩ := DataW.trod_struct Try.underlying23 h
  rw [cellsEvent] at hl
  match cs, hl with
  | [c0, c1, c2, c3, c4, c5, c6], _ =>
  match xs, hxl with
  | [y0, y1, y2, y3, y4, y5, y6], _ =>
  have b0 : DataW.trod enc Try.prog W base sp held n 3 (([c0, c1, c2, c3, c4, c5, c6].drop 0).take (Try.prog.cellsOf 3)) = some y0 := hall 0 _ rfl
  rw [cellsInt] at b0
  replace b0 : DataW.trod enc Try.prog W base sp held n 3 [c0] = some y0 := b0
  have b1 : DataW.trod enc Try.prog W base sp held n 3 (([c0, c1, c2, c3, c4, c5, c6].drop 1).take (Try.prog.cellsOf 3)) = some y1 := hall 1 _ rfl
  rw [cellsInt] at b1
  replace b1 : DataW.trod enc Try.prog W base sp held n 3 [c1] = some y1 := b1
  have b2 : DataW.trod enc Try.prog W base sp held n 3 (([c0, c1, c2, c3, c4, c5, c6].drop 2).take (Try.prog.cellsOf 3)) = some y2 := hall 2 _ rfl
  rw [cellsInt] at b2
  replace b2 : DataW.trod enc Try.prog W base sp held n 3 [c2] = some y2 := b2
  have b3 : DataW.trod enc Try.prog W base sp held n 3 (([c0, c1, c2, c3, c4, c5, c6].drop 3).take (Try.prog.cellsOf 3)) = some y3 := hall 3 _ rfl
  rw [cellsInt] at b3
  replace b3 : DataW.trod enc Try.prog W base sp held n 3 [c3] = some y3 := b3
  have b4 : DataW.trod enc Try.prog W base sp held n 3 (([c0, c1, c2, c3, c4, c5, c6].drop 4).take (Try.prog.cellsOf 3)) = some y4 := hall 4 _ rfl
  rw [cellsInt] at b4
  replace b4 : DataW.trod enc Try.prog W base sp held n 3 [c4] = some y4 := b4
  have b5 : DataW.trod enc Try.prog W base sp held n 3 (([c0, c1, c2, c3, c4, c5, c6].drop 5).take (Try.prog.cellsOf 3)) = some y5 := hall 5 _ rfl
  rw [cellsInt] at b5
  replace b5 : DataW.trod enc Try.prog W base sp held n 3 [c5] = some y5 := b5
  have b6 : DataW.trod enc Try.prog W base sp held n 3 (([c0, c1, c2, c3, c4, c5, c6].drop 6).take (Try.prog.cellsOf 3)) = some y6 := hall 6 _ rfl
  rw [cellsInt] at b6
  replace b6 : DataW.trod enc Try.prog W base sp held n 3 [c6] = some y6 := b6
  obtain ⟨z0, rfl, i0⟩ := openInt (y := y0) b0
  obtain ⟨z1, rfl, i1⟩ := openInt (y := y1) b1
  obtain ⟨z2, rfl, i2⟩ := openInt (y := y2) b2
  obtain ⟨z3, rfl, i3⟩ := openInt (y := y3) b3
  obtain ⟨z4, rfl, i4⟩ := openInt (y := y4) b4
  obtain ⟨z5, rfl, i5⟩ := openInt (y := y5) b5
  obtain ⟨z6, rfl, i6⟩ := openInt (y := y6) b6
  exact ⟨⟨z0, z1, z2, z3, z4, z5, z6⟩, ⟨i0, i1, i2, i3, i4, i5, i6⟩, rfl⟩

end

set_option maxRecDepth 100000 in
theorem lifted (os : Os) (started : os.Started) (H : Type) (enc : TypeId × Value → H) :
    ReturnsInHanded {} Try.checked os 3 .any (Rows.fnExactEventOkSpec.pre6 enc Try.prog Try.f3 Rows.fnExactEventOkRow.domain false) (Rows.fnExactEventOkSpec.post enc Try.prog Try.f3 false true false false) := by
  refine returnsInHanded_of_change (C := Try.checked) own started (by kernel_rfl) Try.func3
    (ChangeSpec.witness6 (enc := enc) (C := Try.checked) false ⟨#[], #[.agg #[.int .i64 0, .int .i64 0, .int .i64 0, .int .i64 0, .int .i64 0, .int .i64 0, .int .i64 0]], []⟩ 8 (by kernel_rfl) (by kernel_rfl) (by kernel_rfl) (by kernel_rfl)) ?_
  intro W base args ds gs before hval0 hW hcnd _
  have hval : ∀ (j : Nat) t v, Try.f3.params[j]? = some t → args[j]? = some v → Value.okWide Try.prog W .any base t v := hval0
  have hW' := hW
  obtain ⟨p, q, hA0, hV, rfl, hfz, hnd⟩ := hW
  have hA : DataW.TrodAll enc Try.prog W 0 (fun _ => true) true Try.f3.params.toList args.toList ds p := hA0
  rw [Try.params3] at hA hval
  obtain ⟨v0, vs0, d0, ds0, p0, q0, hargs, rfl, rfl, h0, tl0⟩ := trodAll_cons hA
  obtain ⟨rfl, rfl, rfl⟩ := trodAll_nil tl0
  obtain rfl : args = #[v0] := by cases args; simp_all
  obtain ⟨rfl, rfl⟩ := trodVars_none hV
  have k0 := h0
  have lt0 : ∀ x ∈ p0, x.block < W.heap.size := by obtain ⟨m, hm⟩ := k0; exact DataW.trod_lt m _ _ _ hm
  obtain ⟨cs0, rfl, hcs0⟩ := okWide_struct Try.underlying23 (hval 0 23 v0 rfl rfl)
  obtain ⟨r0, hin0, hrc0⟩ : ∃ r0 : Ev, r0.In ∧ cs0 = #[.int .i64 r0.kd, .int .i64 r0.gp, .int .i64 r0.fw, .int .i64 r0.hs, .int .i64 r0.sz, .int .i64 r0.ec, .int .i64 r0.dr] := by
    obtain ⟨fuel, hf⟩ := h0
    obtain ⟨r, hin, hcs'⟩ := openEvent hf
    have hc2 : cs0 = (cs0.toList).toArray := by simp
    have hcl : cs0.toList = [.int .i64 r.kd, .int .i64 r.gp, .int .i64 r.fw, .int .i64 r.hs, .int .i64 r.sz, .int .i64 r.ec, .int .i64 r.dr] := by simpa [Value.cells] using hcs'
    rw [hcl] at hc2
    exact ⟨r, hin, hc2⟩
  subst hrc0
  clear hA0 hval0
  refine (walk r0 hin0 W ).mono fun e W' ⟨he, bel⟩ => ?_
  subst he
  exact ⟨_, rfl, _, _, _, [], _, [], hW', trodAll_mk1 (shut_bool Try.underlying4 _), (trodAll_cons_mk (Below.trod laidOut (by kernel_rfl) (of_decide_eq_true (by kernel_rfl)) k0 bel lt0) trodAll_mk0), rfl, bel.frame _, fun h => by cases h⟩

theorem over : Rows.fnExactEventOkRow.holds Try.pinned (OpenSpec.ofChange Rows.fnExactEventOkSpec) :=
  OpenClaim.holds_of_wide 3 Try.f3 rfl rfl rfl rfl rfl rfl rfl ⟨rfl, rfl, rfl, rfl, rfl⟩ rfl rfl rfl rfl rfl (by kernel_rfl) Try.func3 (by kernel_rfl)
    (of_decide_eq_true (by kernel_rfl)) (by unfold Func.isWrapper; first | (rw [if_pos (by decide +kernel)]; kernel_rfl) | (rw [if_neg (by decide +kernel)]; exact ⟨rfl, rfl⟩))
    (fun os started H enc _ => lifted os started H enc)

theorem proved : Rows.FnExactEventOkSaid := over
end Go.Proofs.Ytcmjnanejeekiaa.fnExactEventOk
namespace Go.Proofs.Ytcmjnanejeekiaa
theorem fnExactEventOk_holds : Rows.FnExactEventOkSaid := fnExactEventOk.proved
#print axioms fnExactEventOk_holds
end Go.Proofs.Ytcmjnanejeekiaa
