/-
  Whatever the law FnExactRttBackoff is given, it returns true and leaves all that lay as it was: the program's RttBackoff answers as the specification's; no condition.
-/
import Derived.Test.YthdlpgehojdhkasRows
import Derived.WalkKit
import Derived.ProofKit
import Derived.OpenShut
import Derived.Test.YthdlpgehojdhkasRttI
import Derived.Test.YthdlpgehojdhkasRttS
import Derived.Deep.Slices
import Derived.ShutString
import Derived.ChangeOld
import Derived.Below
namespace Go.Proofs.Ythdlpgehojdhkas.fnExactRttBackoff
open Go.ChangeShapes Go.WideShapes Go.ChangeAt Go.RowKit
open Go.ChangeMaps (open_string shut_string)
set_option linter.unusedVariables false

theorem own : ownKnob Try.prog.godebug = none := by kernel_rfl
theorem laidOut : laidOutB Try.prog = true := by kernel_rfl
theorem cellsInt : Try.prog.cellsOf 3 = 1 := by kernel_rfl
theorem cellsRtt : Try.prog.cellsOf 23 = 4 := by kernel_rfl
theorem cellsBool : Try.prog.cellsOf 4 = 1 := by kernel_rfl


set_option maxHeartbeats 4000000 in
theorem walk (r0 : Rt) (w0 : r0.In) (w : World)  :
    Calls Try.prog 6 #[r0.val] w fun e w' => e = .returned (.bool true) ∧ Below w.heap.size w w' := by
  obtain ⟨q, hq⟩ : ∃ q, r0.baF = q := ⟨_, rfl⟩
  obtain ⟨ok, hok⟩ : ∃ b, r0.good = b := ⟨_, rfl⟩
  have HS : Hid (∀ W, Calls Try.prog 15 #[r0.val] W fun e w' => e = .returned (.tuple #[q.val, .bool ok]) ∧ Below W.heap.size W w') := fun W => by
    refine (srttBackoff_any r0 W).mono ?_
    rintro e w' ⟨rfl, hb⟩
    rw [hq, hok]
    exact ⟨rfl, hb⟩
  have HI : Hid (∀ W, Calls Try.prog 16 #[r0.val] W fun e w' => e = .returned (.tuple #[q.val, .bool ok]) ∧ Below W.heap.size W w') := fun W => by
    refine (irttBackoff_any r0 W).mono ?_
    rintro e w' ⟨rfl, hb⟩
    rw [hq, hok]
    exact ⟨rfl, hb⟩
  clear hq hok
  have c0 : Below w.heap.size w (w.alloc (.cells (rtCells r0) 23)) := (Below.refl _ _).alloc (Nat.le_refl _) _
  have S0 : Hid (Sits (w.alloc (.cells (rtCells r0) 23)) w.heap.size (rtCells r0) 23) := Sits.new _ _ _
  cases ok
  all_goals
    go_enter Try.func6, Try.ntmps6
    go_wp2_with (go_at_call 8; refine (toRtt_any r0 _).mono ?_; rintro e v1 ⟨rfl, k1⟩; replace c0 := c0.trans (k1.mono c0.size); have s1 := Sits.below S0.out k1 (Sits.lt S0.out); obtain ⟨q0, q1, q2, q3⟩ := rt_cells s1; have S1 : Hid (Sits v1 w.heap.size (rtCells r0) 23) := s1; clear s1 k1)
    clear q0 q1 q2 q3
    go_wp2_with (go_at_call 15; refine (HS.out _).mono ?_; rintro e w1 ⟨rfl, b1⟩; have s2 := Sits.below S1.out b1 (Sits.lt S1.out); obtain ⟨q0, q1, q2, q3⟩ := rt_cells s2; have l0 := s2.lt; have S2 : Hid (Sits w1 w.heap.size (rtCells r0) 23) := s2; clear s2)
    clear q0 q1 q2 q3
    replace c0 := c0.trans (b1.mono c0.size)
    have CB := c0
    obtain ⟨V1, hV1⟩ : ∃ V, w1.heap.size = V := ⟨_, rfl⟩
    obtain ⟨wa, hA⟩ : ∃ x, w1.alloc (.cells (rtCells q) 25) = x := ⟨_, rfl⟩
    have G1 : Hid (Sits wa V1 (rtCells q) 25) := by rw [← hA, ← hV1]; exact Sits.new _ _ _
    have S3 : Hid (Sits wa w.heap.size (rtCells r0) 23) := by rw [← hA]; exact Sits.alloc S2.out _
    replace c0 : Below w.heap.size w wa := by rw [← hA]; exact c0.alloc c0.size _
    rw [hA, hV1]
    have l1 : w.heap.size ≤ V1 := by rw [← hV1]; exact CB.size
    clear hA hV1 b1 CB l0
    go_wp2_with (go_at_call 8; refine (toRtt_any r0 _).mono ?_; rintro e v4 ⟨rfl, k1⟩; replace c0 := c0.trans (k1.mono c0.size); have s1 := Sits.below S3.out k1 (Sits.lt S3.out); obtain ⟨q0, q1, q2, q3⟩ := rt_cells s1; have S4 : Hid (Sits v4 w.heap.size (rtCells r0) 23) := s1; have g1 := Sits.below G1.out k1 (Sits.lt G1.out); have G2 : Hid (Sits v4 V1 (rtCells q) 25) := g1; clear g1; clear s1 k1)
    clear q0 q1 q2 q3
    go_wp2_with (go_at_call 16; refine (HI.out _).mono ?_; rintro e w2 ⟨rfl, b2⟩; have g2 := Sits.below G2.out b2 (Sits.lt G2.out); obtain ⟨q0, q1, q2, q3⟩ := rt_cells g2; have l2 := g2.lt; have G3 : Hid (Sits w2 V1 (rtCells q) 25) := g2; replace c0 := c0.trans (b2.mono c0.size); clear g2 b2)
    go_wp2_with (go_at_call 12; refine (eqRtt_yes q _).mono ?_; rintro e w3 ⟨rfl, k3⟩; have c1 : Below w.heap.size w w3 := (c0.alloc c0.size _).trans (k3.mono (by have := c0.size; simp; omega)))
    go_ret
    exact ⟨rfl, c1⟩

section
variable {H : Type} {enc : TypeId × Value → H} {W : World} {base : Nat} {sp : Nat → Bool} {held : Bool}

theorem openInt {n : Nat} {c : Value} {y : DataW H × List MemPlace} (h : DataW.trod enc Try.prog W base sp held n 3 [c] = some y) : ∃ z : Int, c = .int .i64 z ∧ (-9223372036854775808 ≤ z ∧ z ≤ 9223372036854775807) := by
  obtain ⟨z, h1, _, hw⟩ := DataW.trod_int Try.underlying3 h
  simp only [List.cons.injEq, and_true] at h1
  exact ⟨z, h1, bd hw⟩

theorem openBool {n : Nat} {c : Value} {y : DataW H × List MemPlace} (h : DataW.trod enc Try.prog W base sp held n 4 [c] = some y) : ∃ z : Bool, c = .bool z := by
  obtain ⟨z, h1, _⟩ := DataW.trod_bool Try.underlying4 h
  simp only [List.cons.injEq, and_true] at h1
  exact ⟨z, h1⟩

theorem openRtt {fuel : Nat} {cs : List Value} {x : DataW H × List MemPlace} (h : DataW.trod enc Try.prog W base sp held fuel 23 cs = some x) :
    ∃ r : Rt, r.In ∧ cs = [.bool r.hs, .int .i64 r.mn, .int .i64 r.vr, .int .i64 r.ro] := by
  obtain ⟨xs, n, rfl, hx, hl, hxl, hall⟩ := DataW.trod_struct Try.underlying23 h
  rw [cellsRtt] at hl
  match cs, hl with
  | [c0, c1, c2, c3], _ =>
  match xs, hxl with
  | [y0, y1, y2, y3], _ =>
  have b0 : DataW.trod enc Try.prog W base sp held n 4 (([c0, c1, c2, c3].drop 0).take (Try.prog.cellsOf 4)) = some y0 := hall 0 _ rfl
  rw [cellsBool] at b0
  replace b0 : DataW.trod enc Try.prog W base sp held n 4 [c0] = some y0 := b0
  have b1 : DataW.trod enc Try.prog W base sp held n 3 (([c0, c1, c2, c3].drop 1).take (Try.prog.cellsOf 3)) = some y1 := hall 1 _ rfl
  rw [cellsInt] at b1
  replace b1 : DataW.trod enc Try.prog W base sp held n 3 [c1] = some y1 := b1
  have b2 : DataW.trod enc Try.prog W base sp held n 3 (([c0, c1, c2, c3].drop 2).take (Try.prog.cellsOf 3)) = some y2 := hall 2 _ rfl
  rw [cellsInt] at b2
  replace b2 : DataW.trod enc Try.prog W base sp held n 3 [c2] = some y2 := b2
  have b3 : DataW.trod enc Try.prog W base sp held n 3 (([c0, c1, c2, c3].drop 3).take (Try.prog.cellsOf 3)) = some y3 := hall 3 _ rfl
  rw [cellsInt] at b3
  replace b3 : DataW.trod enc Try.prog W base sp held n 3 [c3] = some y3 := b3
  obtain ⟨z0, rfl⟩ := openBool (y := y0) b0
  obtain ⟨z1, rfl, i1⟩ := openInt (y := y1) b1
  obtain ⟨z2, rfl, i2⟩ := openInt (y := y2) b2
  obtain ⟨z3, rfl, i3⟩ := openInt (y := y3) b3
  exact ⟨⟨z0, z1, z2, z3⟩, ⟨i1, i2, i3⟩, rfl⟩

end

set_option maxRecDepth 100000 in
theorem lifted (os : Os) (started : os.Started) (H : Type) (enc : TypeId × Value → H) :
    ReturnsInHanded {} Try.checked os 6 .any (Rows.fnExactRttBackoffSpec.pre6 enc Try.prog Try.f6 Rows.fnExactRttBackoffRow.domain false) (Rows.fnExactRttBackoffSpec.post enc Try.prog Try.f6 false true false false) := by
  refine returnsInHanded_of_change (C := Try.checked) own started (by kernel_rfl) Try.func6
    (ChangeSpec.witness6 (enc := enc) (C := Try.checked) false ⟨#[], #[.agg #[.bool false, .int .i64 0, .int .i64 0, .int .i64 0]], []⟩ 8 (by kernel_rfl) (by kernel_rfl) (by kernel_rfl) (by kernel_rfl)) ?_
  intro W base args ds gs before hval0 hW hcnd _
  have hval : ∀ (j : Nat) t v, Try.f6.params[j]? = some t → args[j]? = some v → Value.okWide Try.prog W .any base t v := hval0
  have hW' := hW
  obtain ⟨p, q, hA0, hV, rfl, hfz, hnd⟩ := hW
  have hA : DataW.TrodAll enc Try.prog W 0 (fun _ => true) true Try.f6.params.toList args.toList ds p := hA0
  rw [Try.params6] at hA hval
  obtain ⟨v0, vs0, d0, ds0, p0, q0, hargs, rfl, rfl, h0, tl0⟩ := trodAll_cons hA
  obtain ⟨rfl, rfl, rfl⟩ := trodAll_nil tl0
  obtain rfl : args = #[v0] := by cases args; simp_all
  obtain ⟨rfl, rfl⟩ := trodVars_none hV
  have k0 := h0
  have lt0 : ∀ x ∈ p0, x.block < W.heap.size := by obtain ⟨m, hm⟩ := k0; exact DataW.trod_lt m _ _ _ hm
  obtain ⟨cs0, rfl, hcs0⟩ := okWide_struct Try.underlying23 (hval 0 23 v0 rfl rfl)
  obtain ⟨r0, hin0, hrc0⟩ : ∃ r0 : Rt, r0.In ∧ cs0 = #[.bool r0.hs, .int .i64 r0.mn, .int .i64 r0.vr, .int .i64 r0.ro] := by
    obtain ⟨fuel, hf⟩ := h0
    obtain ⟨r, hin, hcs'⟩ := openRtt hf
    have hc2 : cs0 = (cs0.toList).toArray := by simp
    have hcl : cs0.toList = [.bool r.hs, .int .i64 r.mn, .int .i64 r.vr, .int .i64 r.ro] := by simpa [Value.cells] using hcs'
    rw [hcl] at hc2
    exact ⟨r, hin, hc2⟩
  subst hrc0
  clear hA0 hval0
  refine (walk r0 hin0 W ).mono fun e W' ⟨he, bel⟩ => ?_
  subst he
  exact ⟨_, rfl, _, _, _, [], _, [], hW', trodAll_mk1 (shut_bool Try.underlying4 _), (trodAll_cons_mk (Below.trod laidOut (by kernel_rfl) (of_decide_eq_true (by kernel_rfl)) k0 bel lt0) trodAll_mk0), rfl, bel.frame _, fun h => by cases h⟩

theorem over : Rows.fnExactRttBackoffRow.holds Try.pinned (OpenSpec.ofChange Rows.fnExactRttBackoffSpec) :=
  OpenClaim.holds_of_wide 6 Try.f6 rfl rfl rfl rfl rfl rfl rfl ⟨rfl, rfl, rfl, rfl, rfl⟩ rfl rfl rfl rfl rfl (by kernel_rfl) Try.func6 (by kernel_rfl)
    (of_decide_eq_true (by kernel_rfl)) (by unfold Func.isWrapper; first | (rw [if_pos (by decide +kernel)]; kernel_rfl) | (rw [if_neg (by decide +kernel)]; exact ⟨rfl, rfl⟩))
    (fun os started H enc _ => lifted os started H enc)

theorem proved : Rows.FnExactRttBackoffSaid := over
end Go.Proofs.Ythdlpgehojdhkas.fnExactRttBackoff
namespace Go.Proofs.Ythdlpgehojdhkas
theorem fnExactRttBackoff_holds : Rows.FnExactRttBackoffSaid := fnExactRttBackoff.proved
#print axioms fnExactRttBackoff_holds
end Go.Proofs.Ythdlpgehojdhkas
