/-
  Whatever Pie the law FnExactPieOk is given, it returns true and leaves all that lay as it was: the program's PieOk answers as the specification's; no condition.
-/
import Derived.Test.YtkeccjomnmpcoamRows
import Derived.WalkKit
import Derived.ProofKit
import Derived.OpenShut
import Derived.Test.YtkeccjomnmpcoamPie
import Derived.Deep.Slices
import Derived.ShutString
import Derived.ChangeOld
import Derived.Below
namespace Go.Proofs.Ytkeccjomnmpcoam.fnExactPieOk
open Go.ChangeShapes Go.WideShapes Go.ChangeAt Go.RowKit
open Go.ChangeMaps (open_string shut_string)
set_option linter.unusedVariables false

theorem own : ownKnob Try.prog.godebug = none := by kernel_rfl
theorem laidOut : laidOutB Try.prog = true := by kernel_rfl
theorem cellsInt : Try.prog.cellsOf 3 = 1 := by kernel_rfl
theorem cellsPie : Try.prog.cellsOf 54 = 4 := by kernel_rfl


set_option maxHeartbeats 4000000 in
theorem walk (r0 : Pe) (w0 : r0.In) (w : World)  :
    Calls Try.prog 8 #[r0.val] w fun e w' => e = .returned (.bool true) ∧ Below w.heap.size w w' := by
  have b0 : Below w.heap.size w (w.alloc (.cells (peCells r0) 54)) := (Below.refl _ _).alloc (Nat.le_refl _) _
  have s0 : Sits (w.alloc (.cells (peCells r0) 54)) w.heap.size (peCells r0) 54 := Sits.new _ _ _
  have HS : Hid (Sits (w.alloc (.cells (peCells r0) 54)) w.heap.size (peCells r0) 54) := s0
  clear s0
  cases hg : r0.good
  all_goals
    go_enter Try.func8, Try.ntmps8
    go_wp2_with (first | (go_at_call 31; refine (toPie_any r0 _).mono ?_; rintro e w1 ⟨rfl, k1⟩; replace b0 := b0.trans (k1.1.mono b0.size); have s1 := Sits.kept HS.out k1; clear HS k1; have HS : Hid (Sits w1 w.heap.size (peCells r0) 54) := s1; obtain ⟨q0, q1, q2, q3⟩ := pe_cells s1; clear s1) | (go_at_call 30; refine (spieOk_any r0 _).mono ?_; rintro e w2 ⟨rfl, k2⟩; rw [hg]; replace b0 := b0.trans (k2.1.mono b0.size); have s2 := Sits.kept HS.out k2; clear HS k2; have HS : Hid (Sits w2 w.heap.size (peCells r0) 54) := s2; clear q0 q1 q2 q3; obtain ⟨q0, q1, q2, q3⟩ := pe_cells s2; clear s2) | (go_at_call 32; refine (ipieOk_any r0 _).mono ?_; rintro e w4 ⟨rfl, k4⟩; rw [hg]; replace b0 := b0.trans (k4.1.mono b0.size)))
    go_ret
    exact ⟨rfl, b0⟩

section
variable {H : Type} {enc : TypeId × Value → H} {W : World} {base : Nat} {sp : Nat → Bool} {held : Bool}

theorem openInt {n : Nat} {c : Value} {y : DataW H × List MemPlace} (h : DataW.trod enc Try.prog W base sp held n 3 [c] = some y) : ∃ z : Int, c = .int .i64 z ∧ (-9223372036854775808 ≤ z ∧ z ≤ 9223372036854775807) := by
  obtain ⟨z, h1, _, hw⟩ := DataW.trod_int Try.underlying3 h
  simp only [List.cons.injEq, and_true] at h1
  exact ⟨z, h1, bd hw⟩

theorem openPie {fuel : Nat} {cs : List Value} {x : DataW H × List MemPlace} (h : DataW.trod enc Try.prog W base sp held fuel 54 cs = some x) :
    ∃ r : Pe, r.In ∧ cs = [.int .i64 r.tg, .int .i64 r.pr, .int .i64 r.od, .int .i64 r.bu] := by
  obtain ⟨xs, n, rfl, hx, hl, hxl, hall⟩ := DataW.trod_struct Try.underlying54 h
  rw [cellsPie] at hl
  match cs, hl with
  | [c0, c1, c2, c3], _ =>
  match xs, hxl with
  | [y0, y1, y2, y3], _ =>
  have b0 : DataW.trod enc Try.prog W base sp held n 3 (([c0, c1, c2, c3].drop 0).take (Try.prog.cellsOf 3)) = some y0 := hall 0 _ rfl
  rw [cellsInt] at b0
  replace b0 : DataW.trod enc Try.prog W base sp held n 3 [c0] = some y0 := b0
  have b1 : DataW.trod enc Try.prog W base sp held n 3 (([c0, c1, c2, c3].drop 1).take (Try.prog.cellsOf 3)) = some y1 := hall 1 _ rfl
  rw [cellsInt] at b1
  replace b1 : DataW.trod enc Try.prog W base sp held n 3 [c1] = some y1 := b1
  have b2 : DataW.trod enc Try.prog W base sp held n 3 (([c0, c1, c2, c3].drop 2).take (Try.prog.cellsOf 3)) = some y2 := hall 2 _ rfl
  rw [cellsInt] at b2
  replace b2 : DataW.trod enc Try.prog W base sp held n 3 [c2] = some y2 := b2
  have b3 : DataW.trod enc Try.prog W base sp held n 3 (([c0, c1, c2, c3].drop 3).take (Try.prog.cellsOf 3)) = some y3 := hall 3 _ rfl
  rw [cellsInt] at b3
  replace b3 : DataW.trod enc Try.prog W base sp held n 3 [c3] = some y3 := b3
  obtain ⟨z0, rfl, i0⟩ := openInt (y := y0) b0
  obtain ⟨z1, rfl, i1⟩ := openInt (y := y1) b1
  obtain ⟨z2, rfl, i2⟩ := openInt (y := y2) b2
  obtain ⟨z3, rfl, i3⟩ := openInt (y := y3) b3
  exact ⟨⟨z0, z1, z2, z3⟩, ⟨i0, i1, i2, i3⟩, rfl⟩

end

set_option maxRecDepth 100000 in
theorem lifted (os : Os) (started : os.Started) (H : Type) (enc : TypeId × Value → H) :
    ReturnsInHanded {} Try.checked os 8 .any (Rows.fnExactPieOkSpec.pre6 enc Try.prog Try.f8 Rows.fnExactPieOkRow.domain false) (Rows.fnExactPieOkSpec.post enc Try.prog Try.f8 false true false false) := by
  refine returnsInHanded_of_change (C := Try.checked) own started (by kernel_rfl) Try.func8
    (ChangeSpec.witness6 (enc := enc) (C := Try.checked) false ⟨#[], #[.agg #[.int .i64 0, .int .i64 0, .int .i64 0, .int .i64 0]], []⟩ 8 (by kernel_rfl) (by kernel_rfl) (by kernel_rfl) (by kernel_rfl)) ?_
  intro W base args ds gs before hval0 hW hcnd _
  have hval : ∀ (j : Nat) t v, Try.f8.params[j]? = some t → args[j]? = some v → Value.okWide Try.prog W .any base t v := hval0
  have hW' := hW
  obtain ⟨p, q, hA0, hV, rfl, hfz, hnd⟩ := hW
  have hA : DataW.TrodAll enc Try.prog W 0 (fun _ => true) true Try.f8.params.toList args.toList ds p := hA0
  rw [Try.params8] at hA hval
  obtain ⟨v0, vs0, d0, ds0, p0, q0, hargs, rfl, rfl, h0, tl0⟩ := trodAll_cons hA
  obtain ⟨rfl, rfl, rfl⟩ := trodAll_nil tl0
  obtain rfl : args = #[v0] := by cases args; simp_all
  obtain ⟨rfl, rfl⟩ := trodVars_none hV
  have k0 := h0
  have lt0 : ∀ x ∈ p0, x.block < W.heap.size := by obtain ⟨m, hm⟩ := k0; exact DataW.trod_lt m _ _ _ hm
  obtain ⟨cs0, rfl, hcs0⟩ := okWide_struct Try.underlying54 (hval 0 54 v0 rfl rfl)
  obtain ⟨r0, hin0, hrc0⟩ : ∃ r0 : Pe, r0.In ∧ cs0 = #[.int .i64 r0.tg, .int .i64 r0.pr, .int .i64 r0.od, .int .i64 r0.bu] := by
    obtain ⟨fuel, hf⟩ := h0
    obtain ⟨r, hin, hcs'⟩ := openPie hf
    have hc2 : cs0 = (cs0.toList).toArray := by simp
    have hcl : cs0.toList = [.int .i64 r.tg, .int .i64 r.pr, .int .i64 r.od, .int .i64 r.bu] := by simpa [Value.cells] using hcs'
    rw [hcl] at hc2
    exact ⟨r, hin, hc2⟩
  subst hrc0
  clear hA0 hval0
  refine (walk r0 hin0 W ).mono fun e W' ⟨he, bel⟩ => ?_
  subst he
  exact ⟨_, rfl, _, _, _, [], _, [], hW', trodAll_mk1 (shut_bool Try.underlying4 _), (trodAll_cons_mk (Below.trod laidOut (by kernel_rfl) (of_decide_eq_true (by kernel_rfl)) k0 bel lt0) trodAll_mk0), rfl, bel.frame _, fun h => by cases h⟩

theorem over : Rows.fnExactPieOkRow.holds Try.pinned (OpenSpec.ofChange Rows.fnExactPieOkSpec) :=
  OpenClaim.holds_of_wide 8 Try.f8 rfl rfl rfl rfl rfl rfl rfl ⟨rfl, rfl, rfl, rfl, rfl⟩ rfl rfl rfl rfl rfl (by kernel_rfl) Try.func8 (by kernel_rfl)
    (of_decide_eq_true (by kernel_rfl)) (by unfold Func.isWrapper; first | (rw [if_pos (by decide +kernel)]; kernel_rfl) | (rw [if_neg (by decide +kernel)]; exact ⟨rfl, rfl⟩))
    (fun os started H enc _ => lifted os started H enc)

theorem proved : Rows.FnExactPieOkSaid := over
end Go.Proofs.Ytkeccjomnmpcoam.fnExactPieOk
namespace Go.Proofs.Ytkeccjomnmpcoam
theorem fnExactPieOk_holds : Rows.FnExactPieOkSaid := fnExactPieOk.proved
#print axioms fnExactPieOk_holds
end Go.Proofs.Ytkeccjomnmpcoam
