/-
  Whatever the law FnExactTimedOut is given, it returns true and leaves all that lay as it was: the program's TimedOut answers as the specification's; no condition.
-/
import Derived.Test.YtcchnhjkifdemaqRows
import Derived.WalkKit
import Derived.ProofKit
import Derived.OpenShut
import Derived.Test.YtcchnhjkifdemaqRenoO
import Derived.Deep.Slices
import Derived.ShutString
import Derived.ChangeOld
import Derived.Below
namespace Go.Proofs.Ytcchnhjkifdemaq.fnExactTimedOut
open Go.ChangeShapes Go.WideShapes Go.ChangeAt Go.RowKit
open Go.ChangeMaps (open_string shut_string)
set_option linter.unusedVariables false

theorem own : ownKnob Try.prog.godebug = none := by kernel_rfl
theorem laidOut : laidOutB Try.prog = true := by kernel_rfl
theorem cellsInt : Try.prog.cellsOf 3 = 1 := by kernel_rfl
theorem cellsReno : Try.prog.cellsOf 23 = 10 := by kernel_rfl
theorem cellsBool : Try.prog.cellsOf 4 = 1 := by kernel_rfl


set_option maxHeartbeats 4000000 in
theorem walk (r0 : Rn) (w0 : r0.In) (w : World)  :
    Calls Try.prog 7 #[r0.val] w fun e w' => e = .returned (.bool true) ∧ Below w.heap.size w w' := by
  obtain ⟨q, hq⟩ : ∃ q, r0.outF = q := ⟨_, rfl⟩
  obtain ⟨ok, hok⟩ : ∃ b, r0.outB = b := ⟨_, rfl⟩
  have HS : Hid (∀ W, Calls Try.prog 18 #[r0.val] W fun e w' => e = .returned (.tuple #[q.val, .bool ok]) ∧ Below W.heap.size W w') := fun W => by
    refine (stimedOut_any r0 W).mono ?_
    rintro e w' ⟨rfl, hb⟩
    rw [hq, hok]
    exact ⟨rfl, hb⟩
  have HI : Hid (∀ W, Calls Try.prog 19 #[r0.val] W fun e w' => e = .returned (.tuple #[q.val, .bool ok]) ∧ Below W.heap.size W w') := fun W => by
    refine (itimedOut_any r0 W).mono ?_
    rintro e w' ⟨rfl, hb⟩
    rw [hq, hok]
    exact ⟨rfl, hb⟩
  clear hq hok
  have c0 : Below w.heap.size w (w.alloc (.cells (rnCells r0) 23)) := (Below.refl _ _).alloc (Nat.le_refl _) _
  have S0 : Hid (Sits (w.alloc (.cells (rnCells r0) 23)) w.heap.size (rnCells r0) 23) := Sits.new _ _ _
  cases ok
  all_goals
    go_enter Try.func7, Try.ntmps7
    go_wp2_with (go_at_call 9; refine (toReno_any r0 _).mono ?_; rintro e v1 ⟨rfl, k1⟩; replace c0 := c0.trans (k1.mono c0.size); have s1 := Sits.below S0.out k1 (Sits.lt S0.out); obtain ⟨q0, q1, q2, q3, q4, q5, q6, q7, q8, q9⟩ := rn_cells s1; have S1 : Hid (Sits v1 w.heap.size (rnCells r0) 23) := s1; clear s1 k1)
    clear q0 q1 q2 q3 q4 q5 q6 q7 q8 q9
    go_wp2_with (go_at_call 18; refine (HS.out _).mono ?_; rintro e w1 ⟨rfl, b1⟩; have s2 := Sits.below S1.out b1 (Sits.lt S1.out); obtain ⟨q0, q1, q2, q3, q4, q5, q6, q7, q8, q9⟩ := rn_cells s2; have l0 := s2.lt; have S2 : Hid (Sits w1 w.heap.size (rnCells r0) 23) := s2; clear s2)
    clear q0 q1 q2 q3 q4 q5 q6 q7 q8 q9
    replace c0 := c0.trans (b1.mono c0.size)
    have CB := c0
    obtain ⟨V1, hV1⟩ : ∃ V, w1.heap.size = V := ⟨_, rfl⟩
    obtain ⟨wa, hA⟩ : ∃ x, w1.alloc (.cells (rnCells q) 25) = x := ⟨_, rfl⟩
    have G1 : Hid (Sits wa V1 (rnCells q) 25) := by rw [← hA, ← hV1]; exact Sits.new _ _ _
    have S3 : Hid (Sits wa w.heap.size (rnCells r0) 23) := by rw [← hA]; exact Sits.alloc S2.out _
    replace c0 : Below w.heap.size w wa := by rw [← hA]; exact c0.alloc c0.size _
    rw [hA, hV1]
    have l1 : w.heap.size ≤ V1 := by rw [← hV1]; exact CB.size
    clear hA hV1 b1 CB l0
    go_wp2_with (go_at_call 9; refine (toReno_any r0 _).mono ?_; rintro e v4 ⟨rfl, k1⟩; replace c0 := c0.trans (k1.mono c0.size); have s1 := Sits.below S3.out k1 (Sits.lt S3.out); obtain ⟨q0, q1, q2, q3, q4, q5, q6, q7, q8, q9⟩ := rn_cells s1; have S4 : Hid (Sits v4 w.heap.size (rnCells r0) 23) := s1; have g1 := Sits.below G1.out k1 (Sits.lt G1.out); have G2 : Hid (Sits v4 V1 (rnCells q) 25) := g1; clear g1; clear s1 k1)
    clear q0 q1 q2 q3 q4 q5 q6 q7 q8 q9
    go_wp2_with (go_at_call 19; refine (HI.out _).mono ?_; rintro e w2 ⟨rfl, b2⟩; have g2 := Sits.below G2.out b2 (Sits.lt G2.out); obtain ⟨q0, q1, q2, q3, q4, q5, q6, q7, q8, q9⟩ := rn_cells g2; have l2 := g2.lt; have G3 : Hid (Sits w2 V1 (rnCells q) 25) := g2; replace c0 := c0.trans (b2.mono c0.size); clear g2 b2)
    go_wp2_with (go_at_call 15; refine (eqReno_yes q _).mono ?_; rintro e w3 ⟨rfl, k3⟩; have c1 : Below w.heap.size w w3 := (c0.alloc c0.size _).trans (k3.mono (by have := c0.size; simp; omega)))
    go_ret
    exact ⟨rfl, c1⟩

section
variable {H : Type} {enc : TypeId × Value → H} {W : World} {base : Nat} {sp : Nat → Bool} {held : Bool}

set_option maxRecDepth 100000 in
theorem openInt {n : Nat} {c : Value} {y : DataW H × List MemPlace} (h : DataW.trod enc Try.prog W base sp held n 3 [c] = some y) : ∃ z : Int, c = .int .i64 z ∧ (-9223372036854775808 ≤ z ∧ z ≤ 9223372036854775807) := by
  obtain ⟨z, h1, _, hw⟩ := DataW.trod_int Try.underlying3 h
  simp only [List.cons.injEq, and_true] at h1
  exact ⟨z, h1, bd hw⟩

set_option maxRecDepth 100000 in
theorem openBool {n : Nat} {c : Value} {y : DataW H × List MemPlace} (h : DataW.trod enc Try.prog W base sp held n 4 [c] = some y) : ∃ z : Bool, c = .bool z := by
  obtain ⟨z, h1, _⟩ := DataW.trod_bool Try.underlying4 h
  simp only [List.cons.injEq, and_true] at h1
  exact ⟨z, h1⟩

set_option maxRecDepth 100000 in
theorem openReno {fuel : Nat} {cs : List Value} {x : DataW H × List MemPlace} (h : DataW.trod enc Try.prog W base sp held fuel 23 cs = some x) :
    ∃ r : Rn, r.In ∧ cs = [.int .i64 r.mss, .int .i64 r.cw, .int .i64 r.th, .int .i64 r.ac, .int .i64 r.una, .int .i64 r.nx, .int .i64 r.du, .int .i64 r.rc, .bool r.inn, .int .i64 r.cut] := by
  obtain ⟨xs, n, rfl, hx, hl, hxl, hall⟩ := DataW.trod_struct Try.underlying23 h
  rw [cellsReno] at hl
  match cs, hl with
  | [c0, c1, c2, c3, c4, c5, c6, c7, c8, c9], _ =>
  match xs, hxl with
  | [y0, y1, y2, y3, y4, y5, y6, y7, y8, y9], _ =>
  have b0 : DataW.trod enc Try.prog W base sp held n 3 (([c0, c1, c2, c3, c4, c5, c6, c7, c8, c9].drop 0).take (Try.prog.cellsOf 3)) = some y0 := hall 0 _ rfl
  rw [cellsInt] at b0
  replace b0 : DataW.trod enc Try.prog W base sp held n 3 [c0] = some y0 := b0
  have b1 : DataW.trod enc Try.prog W base sp held n 3 (([c0, c1, c2, c3, c4, c5, c6, c7, c8, c9].drop 1).take (Try.prog.cellsOf 3)) = some y1 := hall 1 _ rfl
  rw [cellsInt] at b1
  replace b1 : DataW.trod enc Try.prog W base sp held n 3 [c1] = some y1 := b1
  have b2 : DataW.trod enc Try.prog W base sp held n 3 (([c0, c1, c2, c3, c4, c5, c6, c7, c8, c9].drop 2).take (Try.prog.cellsOf 3)) = some y2 := hall 2 _ rfl
  rw [cellsInt] at b2
  replace b2 : DataW.trod enc Try.prog W base sp held n 3 [c2] = some y2 := b2
  have b3 : DataW.trod enc Try.prog W base sp held n 3 (([c0, c1, c2, c3, c4, c5, c6, c7, c8, c9].drop 3).take (Try.prog.cellsOf 3)) = some y3 := hall 3 _ rfl
  rw [cellsInt] at b3
  replace b3 : DataW.trod enc Try.prog W base sp held n 3 [c3] = some y3 := b3
  have b4 : DataW.trod enc Try.prog W base sp held n 3 (([c0, c1, c2, c3, c4, c5, c6, c7, c8, c9].drop 4).take (Try.prog.cellsOf 3)) = some y4 := hall 4 _ rfl
  rw [cellsInt] at b4
  replace b4 : DataW.trod enc Try.prog W base sp held n 3 [c4] = some y4 := b4
  have b5 : DataW.trod enc Try.prog W base sp held n 3 (([c0, c1, c2, c3, c4, c5, c6, c7, c8, c9].drop 5).take (Try.prog.cellsOf 3)) = some y5 := hall 5 _ rfl
  rw [cellsInt] at b5
  replace b5 : DataW.trod enc Try.prog W base sp held n 3 [c5] = some y5 := b5
  have b6 : DataW.trod enc Try.prog W base sp held n 3 (([c0, c1, c2, c3, c4, c5, c6, c7, c8, c9].drop 6).take (Try.prog.cellsOf 3)) = some y6 := hall 6 _ rfl
  rw [cellsInt] at b6
  replace b6 : DataW.trod enc Try.prog W base sp held n 3 [c6] = some y6 := b6
  have b7 : DataW.trod enc Try.prog W base sp held n 3 (([c0, c1, c2, c3, c4, c5, c6, c7, c8, c9].drop 7).take (Try.prog.cellsOf 3)) = some y7 := hall 7 _ rfl
  rw [cellsInt] at b7
  replace b7 : DataW.trod enc Try.prog W base sp held n 3 [c7] = some y7 := b7
  have b8 : DataW.trod enc Try.prog W base sp held n 4 (([c0, c1, c2, c3, c4, c5, c6, c7, c8, c9].drop 8).take (Try.prog.cellsOf 4)) = some y8 := hall 8 _ rfl
  rw [cellsBool] at b8
  replace b8 : DataW.trod enc Try.prog W base sp held n 4 [c8] = some y8 := b8
  have b9 : DataW.trod enc Try.prog W base sp held n 3 (([c0, c1, c2, c3, c4, c5, c6, c7, c8, c9].drop 9).take (Try.prog.cellsOf 3)) = some y9 := hall 9 _ rfl
  rw [cellsInt] at b9
  replace b9 : DataW.trod enc Try.prog W base sp held n 3 [c9] = some y9 := b9
  obtain ⟨z0, rfl, i0⟩ := openInt (y := y0) b0
  obtain ⟨z1, rfl, i1⟩ := openInt (y := y1) b1
  obtain ⟨z2, rfl, i2⟩ := openInt (y := y2) b2
  obtain ⟨z3, rfl, i3⟩ := openInt (y := y3) b3
  obtain ⟨z4, rfl, i4⟩ := openInt (y := y4) b4
  obtain ⟨z5, rfl, i5⟩ := openInt (y := y5) b5
  obtain ⟨z6, rfl, i6⟩ := openInt (y := y6) b6
  obtain ⟨z7, rfl, i7⟩ := openInt (y := y7) b7
  obtain ⟨z8, rfl⟩ := openBool (y := y8) b8
  obtain ⟨z9, rfl, i9⟩ := openInt (y := y9) b9
  exact ⟨⟨z0, z1, z2, z3, z4, z5, z6, z7, z8, z9⟩, ⟨i0, i1, i2, i3, i4, i5, i6, i7, i9⟩, rfl⟩

end

set_option maxRecDepth 100000 in
theorem lifted (os : Os) (started : os.Started) (H : Type) (enc : TypeId × Value → H) :
    ReturnsInHanded {} Try.checked os 7 .any (Rows.fnExactTimedOutSpec.pre6 enc Try.prog Try.f7 Rows.fnExactTimedOutRow.domain false) (Rows.fnExactTimedOutSpec.post enc Try.prog Try.f7 false true false false) := by
  refine returnsInHanded_of_change (C := Try.checked) own started (by kernel_rfl) Try.func7
    (ChangeSpec.witness6 (enc := enc) (C := Try.checked) false ⟨#[], #[.agg #[.int .i64 0, .int .i64 0, .int .i64 0, .int .i64 0, .int .i64 0, .int .i64 0, .int .i64 0, .int .i64 0, .bool false, .int .i64 0]], []⟩ 8 (by kernel_rfl) (by kernel_rfl) (by kernel_rfl) (by kernel_rfl)) ?_
  intro W base args ds gs before hval0 hW hcnd _
  have hval : ∀ (j : Nat) t v, Try.f7.params[j]? = some t → args[j]? = some v → Value.okWide Try.prog W .any base t v := hval0
  have hW' := hW
  obtain ⟨p, q, hA0, hV, rfl, hfz, hnd⟩ := hW
  have hA : DataW.TrodAll enc Try.prog W 0 (fun _ => true) true Try.f7.params.toList args.toList ds p := hA0
  rw [Try.params7] at hA hval
  obtain ⟨v0, vs0, d0, ds0, p0, q0, hargs, rfl, rfl, h0, tl0⟩ := trodAll_cons hA
  obtain ⟨rfl, rfl, rfl⟩ := trodAll_nil tl0
  obtain rfl : args = #[v0] := by cases args; simp_all
  obtain ⟨rfl, rfl⟩ := trodVars_none hV
  have k0 := h0
  have lt0 : ∀ x ∈ p0, x.block < W.heap.size := by obtain ⟨m, hm⟩ := k0; exact DataW.trod_lt m _ _ _ hm
  obtain ⟨cs0, rfl, hcs0⟩ := okWide_struct Try.underlying23 (hval 0 23 v0 rfl rfl)
  obtain ⟨r0, hin0, hrc0⟩ : ∃ r0 : Rn, r0.In ∧ cs0 = #[.int .i64 r0.mss, .int .i64 r0.cw, .int .i64 r0.th, .int .i64 r0.ac, .int .i64 r0.una, .int .i64 r0.nx, .int .i64 r0.du, .int .i64 r0.rc, .bool r0.inn, .int .i64 r0.cut] := by
    obtain ⟨fuel, hf⟩ := h0
    obtain ⟨r, hin, hcs'⟩ := openReno hf
    have hc2 : cs0 = (cs0.toList).toArray := by simp
    have hcl : cs0.toList = [.int .i64 r.mss, .int .i64 r.cw, .int .i64 r.th, .int .i64 r.ac, .int .i64 r.una, .int .i64 r.nx, .int .i64 r.du, .int .i64 r.rc, .bool r.inn, .int .i64 r.cut] := by simpa [Value.cells] using hcs'
    rw [hcl] at hc2
    exact ⟨r, hin, hc2⟩
  subst hrc0
  clear hA0 hval0
  refine (walk r0 hin0 W ).mono fun e W' ⟨he, bel⟩ => ?_
  subst he
  exact ⟨_, rfl, _, _, _, [], _, [], hW', trodAll_mk1 (shut_bool Try.underlying4 _), (trodAll_cons_mk (Below.trod laidOut (by kernel_rfl) (of_decide_eq_true (by kernel_rfl)) k0 bel lt0) trodAll_mk0), rfl, bel.frame _, fun h => by cases h⟩

theorem over : Rows.fnExactTimedOutRow.holds Try.pinned (OpenSpec.ofChange Rows.fnExactTimedOutSpec) :=
  OpenClaim.holds_of_wide 7 Try.f7 rfl rfl rfl rfl rfl rfl rfl ⟨rfl, rfl, rfl, rfl, rfl⟩ rfl rfl rfl rfl rfl (by kernel_rfl) Try.func7 (by kernel_rfl)
    (of_decide_eq_true (by kernel_rfl)) (by unfold Func.isWrapper; first | (rw [if_pos (by decide +kernel)]; kernel_rfl) | (rw [if_neg (by decide +kernel)]; exact ⟨rfl, rfl⟩))
    (fun os started H enc _ => lifted os started H enc)

theorem proved : Rows.FnExactTimedOutSaid := over
end Go.Proofs.Ytcchnhjkifdemaq.fnExactTimedOut
namespace Go.Proofs.Ytcchnhjkifdemaq
theorem fnExactTimedOut_holds : Rows.FnExactTimedOutSaid := fnExactTimedOut.proved
#print axioms fnExactTimedOut_holds
end Go.Proofs.Ytcchnhjkifdemaq
