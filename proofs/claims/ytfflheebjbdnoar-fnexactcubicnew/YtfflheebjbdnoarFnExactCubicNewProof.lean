/-
  Whatever the law FnExactCubicNew is given, it returns true and leaves all that lay as it was: the program's CubicNew answers as the specification's; no condition.
-/
import Derived.Test.YtfflheebjbdnoarRows
import Derived.WalkKit
import Derived.ProofKit
import Derived.OpenShut
import Derived.Test.YtfflheebjbdnoarCubicN
import Derived.Deep.Slices
import Derived.ShutString
import Derived.ChangeOld
import Derived.Below
namespace Go.Proofs.Ytfflheebjbdnoar.fnExactCubicNew
open Go.ChangeShapes Go.WideShapes Go.ChangeAt Go.RowKit
open Go.ChangeMaps (open_string shut_string)
set_option linter.unusedVariables false

theorem own : ownKnob Try.prog.godebug = none := by kernel_rfl
theorem laidOut : laidOutB Try.prog = true := by kernel_rfl
theorem cellsInt : Try.prog.cellsOf 3 = 1 := by kernel_rfl


set_option maxHeartbeats 4000000 in
theorem walk (z0 : Int) (w0 : (-9223372036854775808 ≤ z0 ∧ z0 ≤ 9223372036854775807)) (w : World)  :
    Calls Try.prog 3 #[.int .i64 z0] w fun e w' => e = .returned (.bool true) ∧ Below w.heap.size w w' := by
  obtain ⟨q, hq⟩ : ∃ q, (cbNew z0).orZero = q := ⟨_, rfl⟩
  obtain ⟨ok, hok⟩ : ∃ b, (cbNew z0).good = b := ⟨_, rfl⟩
  have HS : Hid (∀ W, Calls Try.prog 7 #[.int .i64 z0] W fun e w' => e = .returned (.tuple #[q.val, .bool ok]) ∧ Below W.heap.size W w') := fun W => by
    refine (scubicNew_any z0 W).mono ?_
    rintro e w' ⟨rfl, hb⟩
    rw [hq, hok]
    exact ⟨rfl, hb⟩
  have HI : Hid (∀ W, Calls Try.prog 8 #[.int .i64 z0] W fun e w' => e = .returned (.tuple #[q.val, .bool ok]) ∧ Below W.heap.size W w') := fun W => by
    refine (icubicNew_any z0 W).mono ?_
    rintro e w' ⟨rfl, hb⟩
    rw [hq, hok]
    exact ⟨rfl, hb⟩
  clear hq hok
  have c0 := Below.refl w.heap.size w
  cases ok
  all_goals
    go_enter Try.func3, Try.ntmps3
    go_wp2_with (go_at_call 7; refine (HS.out _).mono ?_; rintro e w1 ⟨rfl, b1⟩)
    replace c0 := c0.trans (b1.mono c0.size)
    have CB := c0
    obtain ⟨V1, hV1⟩ : ∃ V, w1.heap.size = V := ⟨_, rfl⟩
    obtain ⟨wa, hA⟩ : ∃ x, w1.alloc (.cells (cbCells q) 23) = x := ⟨_, rfl⟩
    have G1 : Hid (Sits wa V1 (cbCells q) 23) := by rw [← hA, ← hV1]; exact Sits.new _ _ _
    replace c0 : Below w.heap.size w wa := by rw [← hA]; exact c0.alloc c0.size _
    rw [hA, hV1]
    have l1 : w.heap.size ≤ V1 := by rw [← hV1]; exact CB.size
    clear hA hV1 b1 CB
    go_wp2_with (go_at_call 8; refine (HI.out _).mono ?_; rintro e w2 ⟨rfl, b2⟩; have g2 := Sits.below G1.out b2 (Sits.lt G1.out); obtain ⟨q0, q1, q2, q3, q4, q5⟩ := cb_cells g2; have l2 := g2.lt; have G3 : Hid (Sits w2 V1 (cbCells q) 23) := g2; replace c0 := c0.trans (b2.mono c0.size); clear g2 b2)
    go_wp2_with (go_at_call 9; refine (eqCubic_yes q _).mono ?_; rintro e w3 ⟨rfl, k3⟩; have c1 : Below w.heap.size w w3 := (c0.alloc c0.size _).trans (k3.mono (by have := c0.size; simp; omega)))
    go_ret
    exact ⟨rfl, c1⟩

section
variable {H : Type} {enc : TypeId × Value → H} {W : World} {base : Nat} {sp : Nat → Bool} {held : Bool}

theorem openInt {n : Nat} {c : Value} {y : DataW H × List MemPlace} (h : DataW.trod enc Try.prog W base sp held n 3 [c] = some y) : ∃ z : Int, c = .int .i64 z ∧ (-9223372036854775808 ≤ z ∧ z ≤ 9223372036854775807) := by
  obtain ⟨z, h1, _, hw⟩ := DataW.trod_int Try.underlying3 h
  simp only [List.cons.injEq, and_true] at h1
  exact ⟨z, h1, bd hw⟩

end

set_option maxRecDepth 100000 in
theorem lifted (os : Os) (started : os.Started) (H : Type) (enc : TypeId × Value → H) :
    ReturnsInHanded {} Try.checked os 3 .any (Rows.fnExactCubicNewSpec.pre6 enc Try.prog Try.f3 Rows.fnExactCubicNewRow.domain false) (Rows.fnExactCubicNewSpec.post enc Try.prog Try.f3 false true false false) := by
  refine returnsInHanded_of_change (C := Try.checked) own started (by kernel_rfl) Try.func3
    (ChangeSpec.witness6 (enc := enc) (C := Try.checked) false ⟨#[], #[.int .i64 0], []⟩ 8 (by kernel_rfl) (by kernel_rfl) (by kernel_rfl) (by kernel_rfl)) ?_
  intro W base args ds gs before hval0 hW hcnd _
  have hval : ∀ (j : Nat) t v, Try.f3.params[j]? = some t → args[j]? = some v → Value.okWide Try.prog W .any base t v := hval0
  have hW' := hW
  obtain ⟨p, q, hA0, hV, rfl, hfz, hnd⟩ := hW
  have hA : DataW.TrodAll enc Try.prog W 0 (fun _ => true) true Try.f3.params.toList args.toList ds p := hA0
  rw [Try.params3] at hA hval
  obtain ⟨v0, vs0, d0, ds0, p0, q0, hargs, rfl, rfl, h0, tl0⟩ := trodAll_cons hA
  obtain ⟨rfl, rfl, rfl⟩ := trodAll_nil tl0
  obtain rfl : args = #[v0] := by cases args; simp_all
  obtain ⟨rfl, rfl⟩ := trodVars_none hV
  have k0 := h0
  have lt0 : ∀ x ∈ p0, x.block < W.heap.size := by obtain ⟨m, hm⟩ := k0; exact DataW.trod_lt m _ _ _ hm
  obtain ⟨z0, hzv0, _, _, hzw0⟩ := open_int Try.underlying3 (hval 0 3 v0 rfl rfl) h0
  subst hzv0
  clear hA0 hval0
  refine (walk z0 (bd hzw0) W ).mono fun e W' ⟨he, bel⟩ => ?_
  subst he
  exact ⟨_, rfl, _, _, _, [], _, [], hW', trodAll_mk1 (shut_bool Try.underlying4 _), (trodAll_cons_mk (Below.trod laidOut (by kernel_rfl) (of_decide_eq_true (by kernel_rfl)) k0 bel lt0) trodAll_mk0), rfl, bel.frame _, fun h => by cases h⟩

theorem over : Rows.fnExactCubicNewRow.holds Try.pinned (OpenSpec.ofChange Rows.fnExactCubicNewSpec) :=
  OpenClaim.holds_of_wide 3 Try.f3 rfl rfl rfl rfl rfl rfl rfl ⟨rfl, rfl, rfl, rfl, rfl⟩ rfl rfl rfl rfl rfl (by kernel_rfl) Try.func3 (by kernel_rfl)
    (of_decide_eq_true (by kernel_rfl)) (by unfold Func.isWrapper; first | (rw [if_pos (by decide +kernel)]; kernel_rfl) | (rw [if_neg (by decide +kernel)]; exact ⟨rfl, rfl⟩))
    (fun os started H enc _ => lifted os started H enc)

theorem proved : Rows.FnExactCubicNewSaid := over
end Go.Proofs.Ytfflheebjbdnoar.fnExactCubicNew
namespace Go.Proofs.Ytfflheebjbdnoar
theorem fnExactCubicNew_holds : Rows.FnExactCubicNewSaid := fnExactCubicNew.proved
#print axioms fnExactCubicNew_holds
end Go.Proofs.Ytfflheebjbdnoar
