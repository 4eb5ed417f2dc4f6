/-
  Whatever flow and seed the law FnExactFlowHash is given, it returns true and leaves all that lay as it was: the program's FlowHash answers as the specification's; no condition.
-/
import Derived.Test.YtfjdlfoonjnllajRows
import Derived.WalkKit
import Derived.ProofKit
import Derived.OpenShut
import Derived.Test.YtfjdlfoonjnllajHash2
import Derived.Deep.Slices
import Derived.ShutString
import Derived.ChangeOld
import Derived.Below
namespace Go.Proofs.Ytfjdlfoonjnllaj.fnExactFlowHash
open Go.ChangeShapes Go.WideShapes Go.ChangeAt Go.RowKit
open Go.ChangeMaps (open_string shut_string)
set_option linter.unusedVariables false

theorem own : ownKnob Try.prog.godebug = none := by kernel_rfl
theorem laidOut : laidOutB Try.prog = true := by kernel_rfl
theorem cellsInt : Try.prog.cellsOf 3 = 1 := by kernel_rfl
theorem cellsTuple : Try.prog.cellsOf 47 = 5 := by kernel_rfl


set_option maxHeartbeats 4000000 in
theorem walk (t0 : Tu) (w0 : t0.In) (z1 : Int) (w1 : (-9223372036854775808 ≤ z1 ∧ z1 ≤ 9223372036854775807)) (w : World)  :
    Calls Try.prog 6 #[t0.val, .int .i64 z1] w fun e w' => e = .returned (.bool true) ∧ Below w.heap.size w w' := by
  obtain ⟨p, s, d, sp, dp⟩ := t0
  obtain ⟨hp, hs, hd, hsp, hdp⟩ := w0
  dsimp only at hp hs hd hsp hdp
  have lT : Lies (w.alloc (.cells #[.int .i64 p, .int .i64 s, .int .i64 d, .int .i64 sp, .int .i64 dp] 47)) w.heap.size #[.int .i64 p, .int .i64 s, .int .i64 d, .int .i64 sp, .int .i64 dp] 47 := Lies.new _ _ _
  have B : Below w.heap.size w (w.alloc (.cells #[.int .i64 p, .int .i64 s, .int .i64 d, .int .i64 sp, .int .i64 dp] 47)) := (Below.refl _ _).alloc (Nat.le_refl _) _
  obtain ⟨m, hm⟩ : ∃ m, hashF p s d sp dp z1 = m := ⟨_, rfl⟩
  have cs : Hid (∀ W : World, Calls Try.prog 23 #[.agg #[.int .i64 p, .int .i64 s, .int .i64 d, .int .i64 sp, .int .i64 dp], .int .i64 z1] W fun e w' => e = .returned (.int .i64 m) ∧ Below W.heap.size W w') := fun W => by rw [← hm]; exact shash_any p s d sp dp z1 W hp hs hd hsp hdp w1
  have ci : Hid (∀ W : World, Calls Try.prog 25 #[.agg #[.int .i64 p, .int .i64 s, .int .i64 d, .int .i64 sp, .int .i64 dp], .int .i64 z1] W fun e w' => e = .returned (.int .i64 m) ∧ Below W.heap.size W w') := fun W => by rw [← hm]; exact ihash_any p s d sp dp z1 W hp hs hd hsp hdp w1
  clear hm
  go_enter Try.func6, Try.ntmps6
  go_wp2_with (go_at_call 24; refine (toTuple_any p s d sp dp _).mono ?_; rintro o v1 ⟨rfl, b1⟩)
  replace lT := Lies.below lT b1 lT.lt
  replace B := B.trans (b1.mono B.size)
  clear b1
  go_wp2_with (go_at_call 23; refine (cs.out _).mono ?_; rintro o v2 ⟨rfl, b1⟩; obtain ⟨k0, k1, k2, k3, k4⟩ := t5_cells (Lies.below lT b1 lT.lt))
  replace lT := Lies.below lT b1 lT.lt
  replace B := B.trans (b1.mono B.size)
  clear b1
  go_wp2_with (go_at_call 24; refine (toTuple_any p s d sp dp _).mono ?_; rintro o v3 ⟨rfl, b1⟩)
  replace B := B.trans (b1.mono B.size)
  clear b1
  go_wp2_with (go_at_call 25; refine (ci.out _).mono ?_; rintro o v4 ⟨rfl, b1⟩)
  replace B := B.trans (b1.mono B.size)
  go_ret
  exact ⟨rfl, B⟩

section
variable {H : Type} {enc : TypeId × Value → H} {W : World} {base : Nat} {sp : Nat → Bool} {held : Bool}

theorem openInt {n : Nat} {c : Value} {y : DataW H × List MemPlace} (h : DataW.trod enc Try.prog W base sp held n 3 [c] = some y) : ∃ z : Int, c = .int .i64 z ∧ (-9223372036854775808 ≤ z ∧ z ≤ 9223372036854775807) := by
  obtain ⟨z, h1, _, hw⟩ := DataW.trod_int Try.underlying3 h
  simp only [List.cons.injEq, and_true] at h1
  exact ⟨z, h1, bd hw⟩

theorem openTuple {fuel : Nat} {cs : List Value} {x : DataW H × List MemPlace} (h : DataW.trod enc Try.prog W base sp held fuel 47 cs = some x) :
    ∃ r : Tu, r.In ∧ cs = [.int .i64 r.proto, .int .i64 r.src, .int .i64 r.dst, .int .i64 r.srcP, .int .i64 r.dstP] := by
  obtain ⟨xs, n, rfl, hx, hl, hxl, hall⟩ := DataW.trod_struct Try.underlying47 h
  rw [cellsTuple] at hl
  match cs, hl with
  | [c0, c1, c2, c3, c4], _ =>
  match xs, hxl with
  | [y0, y1, y2, y3, y4], _ =>
  have b0 : DataW.trod enc Try.prog W base sp held n 3 (([c0, c1, c2, c3, c4].drop 0).take (Try.prog.cellsOf 3)) = some y0 := hall 0 _ rfl
  rw [cellsInt] at b0
  replace b0 : DataW.trod enc Try.prog W base sp held n 3 [c0] = some y0 := b0
  have b1 : DataW.trod enc Try.prog W base sp held n 3 (([c0, c1, c2, c3, c4].drop 1).take (Try.prog.cellsOf 3)) = some y1 := hall 1 _ rfl
  rw [cellsInt] at b1
  replace b1 : DataW.trod enc Try.prog W base sp held n 3 [c1] = some y1 := b1
  have b2 : DataW.trod enc Try.prog W base sp held n 3 (([c0, c1, c2, c3, c4].drop 2).take (Try.prog.cellsOf 3)) = some y2 := hall 2 _ rfl
  rw [cellsInt] at b2
  replace b2 : DataW.trod enc Try.prog W base sp held n 3 [c2] = some y2 := b2
  have b3 : DataW.trod enc Try.prog W base sp held n 3 (([c0, c1, c2, c3, c4].drop 3).take (Try.prog.cellsOf 3)) = some y3 := hall 3 _ rfl
  rw [cellsInt] at b3
  replace b3 : DataW.trod enc Try.prog W base sp held n 3 [c3] = some y3 := b3
  have b4 : DataW.trod enc Try.prog W base sp held n 3 (([c0, c1, c2, c3, c4].drop 4).take (Try.prog.cellsOf 3)) = some y4 := hall 4 _ rfl
  rw [cellsInt] at b4
  replace b4 : DataW.trod enc Try.prog W base sp held n 3 [c4] = some y4 := b4
  obtain ⟨z0, rfl, i0⟩ := openInt (y := y0) b0
  obtain ⟨z1, rfl, i1⟩ := openInt (y := y1) b1
  obtain ⟨z2, rfl, i2⟩ := openInt (y := y2) b2
  obtain ⟨z3, rfl, i3⟩ := openInt (y := y3) b3
  obtain ⟨z4, rfl, i4⟩ := openInt (y := y4) b4
  exact ⟨⟨z0, z1, z2, z3, z4⟩, ⟨i0, i1, i2, i3, i4⟩, rfl⟩

end

set_option maxRecDepth 100000 in
theorem lifted (os : Os) (started : os.Started) (H : Type) (enc : TypeId × Value → H) :
    ReturnsInHanded {} Try.checked os 6 .any (Rows.fnExactFlowHashSpec.pre6 enc Try.prog Try.f6 Rows.fnExactFlowHashRow.domain false) (Rows.fnExactFlowHashSpec.post enc Try.prog Try.f6 false true false false) := by
  refine returnsInHanded_of_change (C := Try.checked) own started (by kernel_rfl) Try.func6
    (ChangeSpec.witness6 (enc := enc) (C := Try.checked) false ⟨#[], #[.agg #[.int .i64 0, .int .i64 0, .int .i64 0, .int .i64 0, .int .i64 0], .int .i64 0], []⟩ 8 (by kernel_rfl) (by kernel_rfl) (by kernel_rfl) (by kernel_rfl)) ?_
  intro W base args ds gs before hval0 hW hcnd _
  have hval : ∀ (j : Nat) t v, Try.f6.params[j]? = some t → args[j]? = some v → Value.okWide Try.prog W .any base t v := hval0
  have hW' := hW
  obtain ⟨p, q, hA0, hV, rfl, hfz, hnd⟩ := hW
  have hA : DataW.TrodAll enc Try.prog W 0 (fun _ => true) true Try.f6.params.toList args.toList ds p := hA0
  rw [Try.params6] at hA hval
  obtain ⟨v0, vs0, d0, ds0, p0, q0, hargs, rfl, rfl, h0, r0⟩ := trodAll_cons hA
  obtain ⟨v1, vs1, d1, ds1, p1, q1, rfl, rfl, rfl, h1, r1⟩ := trodAll_cons r0
  obtain ⟨rfl, rfl, rfl⟩ := trodAll_nil r1
  obtain rfl : args = #[v0, v1] := by cases args; simp_all
  obtain ⟨rfl, rfl⟩ := trodVars_none hV
  have k0 := h0
  have lt0 : ∀ x ∈ p0, x.block < W.heap.size := by obtain ⟨m, hm⟩ := k0; exact DataW.trod_lt m _ _ _ hm
  have k1 := h1
  have lt1 : ∀ x ∈ p1, x.block < W.heap.size := by obtain ⟨m, hm⟩ := k1; exact DataW.trod_lt m _ _ _ hm
  obtain ⟨cs0, rfl, hcs0⟩ := okWide_struct Try.underlying47 (hval 0 47 v0 rfl rfl)
  obtain ⟨t0, hin0, hrc0⟩ : ∃ t0 : Tu, t0.In ∧ cs0 = #[.int .i64 t0.proto, .int .i64 t0.src, .int .i64 t0.dst, .int .i64 t0.srcP, .int .i64 t0.dstP] := by
    obtain ⟨fuel, hf⟩ := h0
    obtain ⟨r, hin, hcs'⟩ := openTuple hf
    have hc2 : cs0 = (cs0.toList).toArray := by simp
    have hcl : cs0.toList = [.int .i64 r.proto, .int .i64 r.src, .int .i64 r.dst, .int .i64 r.srcP, .int .i64 r.dstP] := by simpa [Value.cells] using hcs'
    rw [hcl] at hc2
    exact ⟨r, hin, hc2⟩
  subst hrc0
  obtain ⟨z1, hzv1, _, _, hzw1⟩ := open_int Try.underlying3 (hval 1 3 v1 rfl rfl) h1
  subst hzv1
  clear hA0 hval0
  refine (walk t0 hin0 z1 (bd hzw1) W ).mono fun e W' ⟨he, bel⟩ => ?_
  subst he
  exact ⟨_, rfl, _, _, _, [], _, [], hW', trodAll_mk1 (shut_bool Try.underlying4 _), (trodAll_cons_mk (Below.trod laidOut (by kernel_rfl) (of_decide_eq_true (by kernel_rfl)) k0 bel lt0) (trodAll_cons_mk (Below.trod laidOut (by kernel_rfl) (of_decide_eq_true (by kernel_rfl)) k1 bel lt1) trodAll_mk0)), rfl, bel.frame _, fun h => by cases h⟩

theorem over : Rows.fnExactFlowHashRow.holds Try.pinned (OpenSpec.ofChange Rows.fnExactFlowHashSpec) :=
  OpenClaim.holds_of_wide 6 Try.f6 rfl rfl rfl rfl rfl rfl rfl ⟨rfl, rfl, rfl, rfl, rfl⟩ rfl rfl rfl rfl rfl (by kernel_rfl) Try.func6 (by kernel_rfl)
    (of_decide_eq_true (by kernel_rfl)) (by unfold Func.isWrapper; first | (rw [if_pos (by decide +kernel)]; kernel_rfl) | (rw [if_neg (by decide +kernel)]; exact ⟨rfl, rfl⟩))
    (fun os started H enc _ => lifted os started H enc)

theorem proved : Rows.FnExactFlowHashSaid := over
end Go.Proofs.Ytfjdlfoonjnllaj.fnExactFlowHash
namespace Go.Proofs.Ytfjdlfoonjnllaj
theorem fnExactFlowHash_holds : Rows.FnExactFlowHashSaid := fnExactFlowHash.proved
#print axioms fnExactFlowHash_holds
end Go.Proofs.Ytfjdlfoonjnllaj
