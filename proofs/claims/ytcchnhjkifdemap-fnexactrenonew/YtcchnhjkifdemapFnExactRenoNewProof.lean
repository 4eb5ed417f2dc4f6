/-
  Whatever the law FnExactRenoNew is given, it returns true and leaves all that lay as it was: the program's RenoNew answers as the specification's; no condition.
-/
import Derived.Test.YtcchnhjkifdemapRows
import Derived.WalkKit
import Derived.ProofKit
import Derived.OpenShut
import Derived.Test.YtcchnhjkifdemapRenoN
import Derived.Deep.Slices
import Derived.ShutString
import Derived.ChangeOld
import Derived.Below
namespace Go.Proofs.Ytcchnhjkifdemap.fnExactRenoNew
open Go.ChangeShapes Go.WideShapes Go.ChangeAt Go.RowKit
open Go.ChangeMaps (open_string shut_string)
set_option linter.unusedVariables false

theorem own : ownKnob Try.prog.godebug = none := by kernel_rfl
theorem laidOut : laidOutB Try.prog = true := by kernel_rfl
theorem cellsInt : Try.prog.cellsOf 3 = 1 := by kernel_rfl


set_option maxHeartbeats 4000000 in
theorem walk (z0 : Int) (w0 : (-9223372036854775808 ≤ z0 ∧ z0 ≤ 9223372036854775807)) (w : World)  :
    Calls Try.prog 8 #[.int .i64 z0] w fun e w' => e = .returned (.bool true) ∧ Below w.heap.size w w' := by
  obtain ⟨q, hq⟩ : ∃ q, (rnNew z0).orZero = q := ⟨_, rfl⟩
  obtain ⟨ok, hok⟩ : ∃ b, (rnNew z0).good = b := ⟨_, rfl⟩
  have HS : Hid (∀ W, Calls Try.prog 27 #[.int .i64 z0] W fun e w' => e = .returned (.tuple #[q.val, .bool ok]) ∧ Below W.heap.size W w') := fun W => by
    refine (srenoNew_any z0 w0.1 w0.2 W).mono ?_
    rintro e w' ⟨rfl, hb⟩
    rw [hq, hok]
    exact ⟨rfl, hb⟩
  have HI : Hid (∀ W, Calls Try.prog 28 #[.int .i64 z0] W fun e w' => e = .returned (.tuple #[q.val, .bool ok]) ∧ Below W.heap.size W w') := fun W => by
    refine (irenoNew_any z0 w0.1 w0.2 W).mono ?_
    rintro e w' ⟨rfl, hb⟩
    rw [hq, hok]
    exact ⟨rfl, hb⟩
  clear hq hok
  have c0 := Below.refl w.heap.size w
  cases ok
  all_goals
    go_enter Try.func8, Try.ntmps8
    go_wp2_with (go_at_call 27; refine (HS.out _).mono ?_; rintro e w1 ⟨rfl, b1⟩)
    replace c0 := c0.trans (b1.mono c0.size)
    have CB := c0
    obtain ⟨V1, hV1⟩ : ∃ V, w1.heap.size = V := ⟨_, rfl⟩
    obtain ⟨wa, hA⟩ : ∃ x, w1.alloc (.cells (rnCells q) 51) = x := ⟨_, rfl⟩
    have G1 : Hid (Sits wa V1 (rnCells q) 51) := by rw [← hA, ← hV1]; exact Sits.new _ _ _
    replace c0 : Below w.heap.size w wa := by rw [← hA]; exact c0.alloc c0.size _
    rw [hA, hV1]
    have l1 : w.heap.size ≤ V1 := by rw [← hV1]; exact CB.size
    clear hA hV1 b1 CB
    go_wp2_with (go_at_call 28; refine (HI.out _).mono ?_; rintro e w2 ⟨rfl, b2⟩; have g2 := Sits.below G1.out b2 (Sits.lt G1.out); obtain ⟨q0, q1, q2, q3, q4, q5, q6, q7, q8, q9⟩ := rn_cells g2; have l2 := g2.lt; have G3 : Hid (Sits w2 V1 (rnCells q) 51) := g2; replace c0 := c0.trans (b2.mono c0.size); clear g2 b2)
    go_wp2_with (go_at_call 29; refine (eqReno_yes q _).mono ?_; rintro e w3 ⟨rfl, k3⟩; have c1 : Below w.heap.size w w3 := (c0.alloc c0.size _).trans (k3.mono (by have := c0.size; simp; omega)))
    go_ret
    exact ⟨rfl, c1⟩

section
variable {H : Type} {enc : TypeId × Value → H} {W : World} {base : Nat} {sp : Nat → Bool} {held : Bool}

theorem openInt {n : Nat} {c : Value} {y : DataW H × List MemPlace} (h : DataW.trod enc Try.prog W base sp held n 3 [c] = some y) : ∃ z : Int, c = .int .i64 z ∧ (-9223372036854775808 ≤ z ∧ z ≤ 9223372036854775807) := by
  obtain ⟨z, h1, _, hw⟩ := DataW.trod_int Try.underlying3 h
  simp only [List.cons.injEq, and_true] at h1
  exact ⟨z, h1, bd hw⟩

end

set_option maxRecDepth 100000 in
theorem lifted (os : Os) (started : os.Started) (H : Type) (enc : TypeId × Value → H) :
    ReturnsInHanded {} Try.checked os 8 .any (Rows.fnExactRenoNewSpec.pre6 enc Try.prog Try.f8 Rows.fnExactRenoNewRow.domain false) (Rows.fnExactRenoNewSpec.post enc Try.prog Try.f8 false true false false) := by
  refine returnsInHanded_of_change (C := Try.checked) own started (by kernel_rfl) Try.func8
    (ChangeSpec.witness6 (enc := enc) (C := Try.checked) false ⟨#[], #[.int .i64 0], []⟩ 8 (by kernel_rfl) (by kernel_rfl) (by kernel_rfl) (by kernel_rfl)) ?_
  intro W base args ds gs before hval0 hW hcnd _
  have hval : ∀ (j : Nat) t v, Try.f8.params[j]? = some t → args[j]? = some v → Value.okWide Try.prog W .any base t v := hval0
  have hW' := hW
  obtain ⟨p, q, hA0, hV, rfl, hfz, hnd⟩ := hW
  have hA : DataW.TrodAll enc Try.prog W 0 (fun _ => true) true Try.f8.params.toList args.toList ds p := hA0
  rw [Try.params8] at hA hval
  obtain ⟨v0, vs0, d0, ds0, p0, q0, hargs, rfl, rfl, h0, tl0⟩ := trodAll_cons hA
  obtain ⟨rfl, rfl, rfl⟩ := trodAll_nil tl0
  obtain rfl : args = #[v0] := by cases args; simp_all
  obtain ⟨rfl, rfl⟩ := trodVars_none hV
  have k0 := h0
  have lt0 : ∀ x ∈ p0, x.block < W.heap.size := by obtain ⟨m, hm⟩ := k0; exact DataW.trod_lt m _ _ _ hm
  obtain ⟨z0, hzv0, _, _, hzw0⟩ := open_int Try.underlying3 (hval 0 3 v0 rfl rfl) h0
  subst hzv0
  clear hA0 hval0
  refine (walk z0 (bd hzw0) W ).mono fun e W' ⟨he, bel⟩ => ?_
  subst he
  exact ⟨_, rfl, _, _, _, [], _, [], hW', trodAll_mk1 (shut_bool Try.underlying4 _), (trodAll_cons_mk (Below.trod laidOut (by kernel_rfl) (of_decide_eq_true (by kernel_rfl)) k0 bel lt0) trodAll_mk0), rfl, bel.frame _, fun h => by cases h⟩

theorem over : Rows.fnExactRenoNewRow.holds Try.pinned (OpenSpec.ofChange Rows.fnExactRenoNewSpec) :=
  OpenClaim.holds_of_wide 8 Try.f8 rfl rfl rfl rfl rfl rfl rfl ⟨rfl, rfl, rfl, rfl, rfl⟩ rfl rfl rfl rfl rfl (by kernel_rfl) Try.func8 (by kernel_rfl)
    (of_decide_eq_true (by kernel_rfl)) (by unfold Func.isWrapper; first | (rw [if_pos (by decide +kernel)]; kernel_rfl) | (rw [if_neg (by decide +kernel)]; exact ⟨rfl, rfl⟩))
    (fun os started H enc _ => lifted os started H enc)

theorem proved : Rows.FnExactRenoNewSaid := over
end Go.Proofs.Ytcchnhjkifdemap.fnExactRenoNew
namespace Go.Proofs.Ytcchnhjkifdemap
theorem fnExactRenoNew_holds : Rows.FnExactRenoNewSaid := fnExactRenoNew.proved
#print axioms fnExactRenoNew_holds
end Go.Proofs.Ytcchnhjkifdemap
