/-
  The law FnExactRttNew returns true and leaves all that lay as it was: the program's RttNew answers as the specification's; no condition.
-/
import Derived.Test.YthdlpgehojdhkasRows
import Derived.WalkKit
import Derived.ProofKit
import Derived.OpenShut
import Derived.Test.YthdlpgehojdhkasRttB
import Derived.ShutString
namespace Go.Proofs.Ythdlpgehojdhkas.fnExactRttNew
open Go.ChangeShapes Go.WideShapes Go.ChangeAt Go.RowKit
open Go.ChangeMaps (open_string shut_string)
set_option linter.unusedVariables false

theorem own : ownKnob Try.prog.godebug = none := by kernel_rfl


theorem grown_trans {a b c : World} (h1 : Grown a b) (h2 : Grown b c) : Grown a c := ⟨World.keptBut_trans h1.1 h2.1, fun x => (h2.2.1 x).trans (h1.2.1 x), Nat.le_trans h1.2.2 h2.2.2⟩
theorem srttNew_gr (w : World) :
    Calls Try.prog 10 #[] w fun e w' => e = .returned (Rt.mk false 0 0 1000000).val ∧ Grown w w' := by
  go_enter Try.func10, Try.ntmps10
  go_wp2
  exact bodyPost_ret (v := (Rt.mk false 0 0 1000000).val) (by simp [results, Try.results10, go_sem]) rfl ⟨rfl, by go_grown⟩
theorem irttNew_gr (w : World) :
    Calls Try.prog 11 #[] w fun e w' => e = .returned (Rt.mk false 0 0 1000000).val ∧ Grown w w' ∧ Below w.heap.size w w' := by
  go_enter Try.func11, Try.ntmps11
  go_wp2
  exact bodyPost_ret (v := (Rt.mk false 0 0 1000000).val) (by simp [results, Try.results11, go_sem]) rfl ⟨rfl, by go_grown, by go_grown⟩
set_option maxRecDepth 20000 in
theorem eqRtt_gr (w : World) :
    Calls Try.prog 12 #[(Rt.mk false 0 0 1000000).val, (Rt.mk false 0 0 1000000).val] w fun o w' => o = .returned (.bool true) ∧ Grown w w' := by
  go_enter Try.func12, Try.ntmps12
  go_wp2
  go_ret
  exact ⟨rfl, by go_grown⟩

set_option maxHeartbeats 4000000 in
theorem walk  (w : World) :
    Calls Try.prog 4 #[] w fun e w' => e = .returned (.bool true) ∧ Grown w w' := by
  go_enter Try.func4, Try.ntmps4
  go_wp2_with (first | (go_at_call 10; refine (srttNew_gr _).mono ?_; rintro e w1 ⟨rfl, b1⟩) | (go_at_call 11; refine (irttNew_gr _).mono ?_; rintro e w2 ⟨rfl, b2, k2⟩; have c0 := grown_trans (b1.alloc (rtCells (Rt.mk false 0 0 1000000)) 25) b2; have g2 := Sits.below (Sits.new w1 (rtCells (Rt.mk false 0 0 1000000)) 25) k2 (by simp); obtain ⟨q0, q1, q2, q3⟩ := rt_cells g2; have l2 := g2.lt) | (go_at_call 12; refine (eqRtt_gr _).mono ?_; rintro e w3 ⟨rfl, k3⟩; have c1 : Grown w w3 := grown_trans (c0.alloc _ _) k3))
  go_ret
  exact ⟨rfl, c1⟩

set_option maxRecDepth 100000 in
theorem lifted (os : Os) (started : os.Started) (H : Type) (enc : TypeId × Value → H) :
    ReturnsInHanded {} Try.checked os 4 .any (Rows.fnExactRttNewSpec.pre6 enc Try.prog Try.f4 Rows.fnExactRttNewRow.domain false) (Rows.fnExactRttNewSpec.post enc Try.prog Try.f4 false true false false) := by
  refine returnsInHanded_of_change (C := Try.checked) own started (by kernel_rfl) Try.func4
    (ChangeSpec.witness6 (enc := enc) (C := Try.checked) false ⟨#[], #[], []⟩ 8 (by kernel_rfl) (by kernel_rfl) (by kernel_rfl) (by kernel_rfl)) ?_
  intro W base args ds gs before hval0 hW hcnd _
  have hval : ∀ (j : Nat) t v, Try.f4.params[j]? = some t → args[j]? = some v → Value.okWide Try.prog W .any base t v := hval0
  have hW' := hW
  obtain ⟨p, q, hA0, hV, rfl, hfz, hnd⟩ := hW
  have hA : DataW.TrodAll enc Try.prog W 0 (fun _ => true) true Try.f4.params.toList args.toList ds p := hA0
  rw [Try.params4] at hA hval
  obtain ⟨rfl, rfl, rfl⟩ := trodAll_none hA
  obtain ⟨rfl, rfl⟩ := trodVars_none hV
  clear hA0 hval0
  simp only [List.append_nil] at hW'
  refine (walk  W).mono fun e W' ⟨he, hg⟩ => ?_
  subst he
  exact ⟨_, rfl, post_of_same (pa := []) (pv := []) hW' (fun _ _ _ => (trodAll_cons_mk (shut_bool Try.underlying4 _) trodAll_mk0)) (fun sp _ => rfl) (fun _ _ => rfl) rfl
    (hg.frame _) hg.2.1 (ok_one (by kernel_rfl) rfl (okWide_bool_mk Try.underlying4 _))⟩

theorem over : Rows.fnExactRttNewRow.holds Try.pinned (OpenSpec.ofChange Rows.fnExactRttNewSpec) :=
  OpenClaim.holds_of_wide 4 Try.f4 rfl rfl rfl rfl rfl rfl rfl ⟨rfl, rfl, rfl, rfl, rfl⟩ rfl rfl rfl rfl rfl (by kernel_rfl) Try.func4 (by kernel_rfl)
    (of_decide_eq_true (by kernel_rfl)) (by unfold Func.isWrapper; first | (rw [if_pos (by decide +kernel)]; kernel_rfl) | (rw [if_neg (by decide +kernel)]; exact ⟨rfl, rfl⟩))
    (fun os started H enc _ => lifted os started H enc)

theorem proved : Rows.FnExactRttNewSaid :=
  over
end Go.Proofs.Ythdlpgehojdhkas.fnExactRttNew
namespace Go.Proofs.Ythdlpgehojdhkas
theorem fnExactRttNew_holds : Rows.FnExactRttNewSaid := fnExactRttNew.proved
#print axioms fnExactRttNew_holds
end Go.Proofs.Ythdlpgehojdhkas
