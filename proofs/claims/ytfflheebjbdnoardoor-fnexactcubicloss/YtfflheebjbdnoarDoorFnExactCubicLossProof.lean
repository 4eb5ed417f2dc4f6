/-
  Whatever the law FnExactCubicLoss is given, where the program's two errors lie in their variables, it returns true and leaves all that lay as it was: the program's CubicLoss answers as the specification's; no condition.
-/
import Derived.Test.YtfflheebjbdnoarDoorRows
import Derived.WalkKit
import Derived.ProofKit
import Derived.OpenShut
import Derived.Test.YtfflheebjbdnoarDoorLaidE
import Derived.Test.YtfflheebjbdnoarDoorCubicI
import Derived.Test.YtfflheebjbdnoarDoorCubicS2
import Derived.Deep.Slices
import Derived.ShutString
import Derived.ChangeOld
import Derived.Below
namespace Go.Proofs.YtfflheebjbdnoarDoor.fnExactCubicLoss
open Go.ChangeShapes Go.WideShapes Go.ChangeAt Go.RowKit
open Go.ChangeMaps (open_string shut_string)
set_option linter.unusedVariables false

theorem own : ownKnob Tryd.prog.godebug = none := by kernel_rfl
theorem laidOut : laidOutB Tryd.prog = true := by kernel_rfl
theorem cellsInt : Tryd.prog.cellsOf 3 = 1 := by kernel_rfl
theorem cellsCubic : Tryd.prog.cellsOf 23 = 6 := by kernel_rfl
theorem cellsBool : Tryd.prog.cellsOf 4 = 1 := by kernel_rfl


set_option maxHeartbeats 4000000 in
theorem walk (r0 : Cb) (w0 : r0.In) (z1 : Int) (w1 : (-9223372036854775808 ≤ z1 ∧ z1 ≤ 9223372036854775807)) (w : World) (hs : Errs w) :
    Calls Tryd.prog 4 #[r0.val, .int .i64 z1] w fun e w' => e = .returned (.bool true) ∧ Below w.heap.size w w' := by
  obtain ⟨q, hq⟩ : ∃ q, r0.loF z1 = q := ⟨_, rfl⟩
  obtain ⟨ok, hok⟩ : ∃ b, r0.loB z1 = b := ⟨_, rfl⟩
  have HS : Hid (∀ W, Calls Tryd.prog 9 #[r0.val, .int .i64 z1] W fun e w' => e = .returned (.tuple #[q.val, .bool ok]) ∧ Below W.heap.size W w') := fun W => by
    refine (scubicLoss_any r0 z1 w1.1 w1.2 W).mono ?_
    rintro e w' ⟨rfl, hb⟩
    rw [hq, hok]
    exact ⟨rfl, hb⟩
  have HI : Hid (∀ W, Errs W → Calls Tryd.prog 10 #[r0.val, .int .i64 z1] W fun e w' => e = .returned (.tuple #[q.val, .bool ok]) ∧ Below W.heap.size W w') := fun W he => by
    refine (icubicLoss_any r0 z1 w1.1 w1.2 W he).mono ?_
    rintro e w' ⟨rfl, hb⟩
    rw [hq, hok]
    exact ⟨rfl, hb⟩
  clear hq hok
  have E0 : Hid (Errs w) := hs
  clear hs
  have c0 : Below w.heap.size w (w.alloc (.cells (cbCells r0) 23)) := (Below.refl _ _).alloc (Nat.le_refl _) _
  have S0 : Hid (Sits (w.alloc (.cells (cbCells r0) 23)) w.heap.size (cbCells r0) 23) := Sits.new _ _ _
  cases ok
  all_goals
    go_enter Tryd.func4, Tryd.ntmps4
    go_wp2_with (go_at_call 6; refine (toCubic_any r0 _).mono ?_; rintro e v1 ⟨rfl, k1⟩; replace c0 := c0.trans (k1.mono c0.size); have s1 := Sits.below S0.out k1 (Sits.lt S0.out); obtain ⟨q0, q1, q2, q3, q4, q5⟩ := cb_cells s1; have S1 : Hid (Sits v1 w.heap.size (cbCells r0) 23) := s1; clear s1 k1)
    clear q0 q1 q2 q3 q4 q5
    go_wp2_with (go_at_call 9; refine (HS.out _).mono ?_; rintro e w1 ⟨rfl, b1⟩; have s2 := Sits.below S1.out b1 (Sits.lt S1.out); obtain ⟨q0, q1, q2, q3, q4, q5⟩ := cb_cells s2; have l0 := s2.lt; have S2 : Hid (Sits w1 w.heap.size (cbCells r0) 23) := s2; clear s2)
    clear q0 q1 q2 q3 q4 q5
    replace c0 := c0.trans (b1.mono c0.size)
    have CB := c0
    obtain ⟨V1, hV1⟩ : ∃ V, w1.heap.size = V := ⟨_, rfl⟩
    obtain ⟨wa, hA⟩ : ∃ x, w1.alloc (.cells (cbCells q) 24) = x := ⟨_, rfl⟩
    have G1 : Hid (Sits wa V1 (cbCells q) 24) := by rw [← hA, ← hV1]; exact Sits.new _ _ _
    have S3 : Hid (Sits wa w.heap.size (cbCells r0) 23) := by rw [← hA]; exact Sits.alloc S2.out _
    replace c0 : Below w.heap.size w wa := by rw [← hA]; exact c0.alloc c0.size _
    rw [hA, hV1]
    have l1 : w.heap.size ≤ V1 := by rw [← hV1]; exact CB.size
    clear hA hV1 b1 CB l0
    go_wp2_with (go_at_call 6; refine (toCubic_any r0 _).mono ?_; rintro e v4 ⟨rfl, k1⟩; replace c0 := c0.trans (k1.mono c0.size); have s1 := Sits.below S3.out k1 (Sits.lt S3.out); obtain ⟨q0, q1, q2, q3, q4, q5⟩ := cb_cells s1; have S4 : Hid (Sits v4 w.heap.size (cbCells r0) 23) := s1; have g1 := Sits.below G1.out k1 (Sits.lt G1.out); have G2 : Hid (Sits v4 V1 (cbCells q) 24) := g1; clear g1; clear s1 k1)
    clear q0 q1 q2 q3 q4 q5
    go_wp2_with (go_at_call 10; refine (HI.out _ (Errs.below E0.out c0 (Nat.le_refl _))).mono ?_; rintro e w2 ⟨rfl, b2⟩; have g2 := Sits.below G2.out b2 (Sits.lt G2.out); obtain ⟨q0, q1, q2, q3, q4, q5⟩ := cb_cells g2; have l2 := g2.lt; have G3 : Hid (Sits w2 V1 (cbCells q) 24) := g2; replace c0 := c0.trans (b2.mono c0.size); clear g2 b2)
    go_wp2_with (go_at_call 8; refine (eqCubic_yes q _).mono ?_; rintro e w3 ⟨rfl, k3⟩; have c1 : Below w.heap.size w w3 := (c0.alloc c0.size _).trans (k3.mono (by have := c0.size; simp; omega)))
    go_ret
    exact ⟨rfl, c1⟩

section
variable {H : Type} {enc : TypeId × Value → H} {W : World} {base : Nat} {sp : Nat → Bool} {held : Bool}

theorem openInt {n : Nat} {c : Value} {y : DataW H × List MemPlace} (h : DataW.trod enc Tryd.prog W base sp held n 3 [c] = some y) : ∃ z : Int, c = .int .i64 z ∧ (-9223372036854775808 ≤ z ∧ z ≤ 9223372036854775807) := by
  obtain ⟨z, h1, _, hw⟩ := DataW.trod_int Tryd.underlying3 h
  simp only [List.cons.injEq, and_true] at h1
  exact ⟨z, h1, bd hw⟩

theorem openBool {n : Nat} {c : Value} {y : DataW H × List MemPlace} (h : DataW.trod enc Tryd.prog W base sp held n 4 [c] = some y) : ∃ z : Bool, c = .bool z := by
  obtain ⟨z, h1, _⟩ := DataW.trod_bool Tryd.underlying4 h
  simp only [List.cons.injEq, and_true] at h1
  exact ⟨z, h1⟩

theorem openCubic {fuel : Nat} {cs : List Value} {x : DataW H × List MemPlace} (h : DataW.trod enc Tryd.prog W base sp held fuel 23 cs = some x) :
    ∃ r : Cb, r.In ∧ cs = [.int .i64 r.wn, .int .i64 r.mx, .int .i64 r.kk, .int .i64 r.st, .int .i64 r.th, .bool r.bg] := by
  obtain ⟨xs, n, rfl, hx, hl, hxl, hall⟩ := DataW.trod_struct Tryd.underlying23 h
  rw [cellsCubic] at hl
  match cs, hl with
  | [c0, c1, c2, c3, c4, c5], _ =>
  match xs, hxl with
  | [y0, y1, y2, y3, y4, y5], _ =>
  have b0 : DataW.trod enc Tryd.prog W base sp held n 3 (([c0, c1, c2, c3, c4, c5].drop 0).take (Tryd.prog.cellsOf 3)) = some y0 := hall 0 _ rfl
  rw [cellsInt] at b0
  replace b0 : DataW.trod enc Tryd.prog W base sp held n 3 [c0] = some y0 := b0
  have b1 : DataW.trod enc Tryd.prog W base sp held n 3 (([c0, c1, c2, c3, c4, c5].drop 1).take (Tryd.prog.cellsOf 3)) = some y1 := hall 1 _ rfl
  rw [cellsInt] at b1
  replace b1 : DataW.trod enc Tryd.prog W base sp held n 3 [c1] = some y1 := b1
  have b2 : DataW.trod enc Tryd.prog W base sp held n 3 (([c0, c1, c2, c3, c4, c5].drop 2).take (Tryd.prog.cellsOf 3)) = some y2 := hall 2 _ rfl
  rw [cellsInt] at b2
  replace b2 : DataW.trod enc Tryd.prog W base sp held n 3 [c2] = some y2 := b2
  have b3 : DataW.trod enc Tryd.prog W base sp held n 3 (([c0, c1, c2, c3, c4, c5].drop 3).take (Tryd.prog.cellsOf 3)) = some y3 := hall 3 _ rfl
  rw [cellsInt] at b3
  replace b3 : DataW.trod enc Tryd.prog W base sp held n 3 [c3] = some y3 := b3
  have b4 : DataW.trod enc Tryd.prog W base sp held n 3 (([c0, c1, c2, c3, c4, c5].drop 4).take (Tryd.prog.cellsOf 3)) = some y4 := hall 4 _ rfl
  rw [cellsInt] at b4
  replace b4 : DataW.trod enc Tryd.prog W base sp held n 3 [c4] = some y4 := b4
  have b5 : DataW.trod enc Tryd.prog W base sp held n 4 (([c0, c1, c2, c3, c4, c5].drop 5).take (Tryd.prog.cellsOf 4)) = some y5 := hall 5 _ rfl
  rw [cellsBool] at b5
  replace b5 : DataW.trod enc Tryd.prog W base sp held n 4 [c5] = some y5 := b5
  obtain ⟨z0, rfl, i0⟩ := openInt (y := y0) b0
  obtain ⟨z1, rfl, i1⟩ := openInt (y := y1) b1
  obtain ⟨z2, rfl, i2⟩ := openInt (y := y2) b2
  obtain ⟨z3, rfl, i3⟩ := openInt (y := y3) b3
  obtain ⟨z4, rfl, i4⟩ := openInt (y := y4) b4
  obtain ⟨z5, rfl⟩ := openBool (y := y5) b5
  exact ⟨⟨z0, z1, z2, z3, z4, z5⟩, ⟨i0, i1, i2, i3, i4⟩, rfl⟩

end

set_option maxRecDepth 100000 in
theorem lifted (os : Os) (started : os.Started) (H : Type) (enc : TypeId × Value → H) :
    ReturnsInHanded {} Tryd.checked os 4 .any (fun w args => (Rows.fnExactCubicLossSpec.pre enc Tryd.prog Tryd.f4 [] false w args ∧ laidMetH Tryd.prog Rows.fnExactCubicLossRow.laid w) ∧ sizedMet enc Tryd.prog Tryd.f4 (OpenSpec.ofChange Rows.fnExactCubicLossSpec) false w args)
      (Rows.fnExactCubicLossSpec.post enc Tryd.prog Tryd.f4 false true false false) := by
  refine returnsInHanded_of_change_and (C := Tryd.checked) (X := fun w _ => laidMetH Tryd.prog Rows.fnExactCubicLossRow.laid w) (fun _ _ _ hh h => h.of_heap hh) own started (by kernel_rfl) Tryd.func4
    (ChangeSpec.witness_shaped (enc := enc) (C := Tryd.checked) (os := os) (X := fun w _ => laidMetH Tryd.prog Rows.fnExactCubicLossRow.laid w) false (World.doorLaid Tryd.prog 400 os) #[.agg #[.int .i64 0, .int .i64 0, .int .i64 0, .int .i64 0, .int .i64 0, .bool false], .int .i64 0] 8 rfl (World.shaped_of_RefB (by kernel_rfl) (by kernel_rfl)) (by kernel_rfl) (by kernel_rfl) (by kernel_rfl) (door_met os _)) ?_
  intro W base args ds gs before hval0 hW _ _ hL _
  have hval : ∀ (j : Nat) t v, Tryd.f4.params[j]? = some t → args[j]? = some v → Value.okWide Tryd.prog W .any base t v := hval0
  have hW' := hW
  obtain ⟨p, q, hA0, hV0, rfl, hfz, hnd⟩ := hW
  have hA : DataW.TrodAll enc Tryd.prog W 0 (fun _ => true) true Tryd.f4.params.toList args.toList ds p := hA0
  have hV : DataW.TrodVars enc Tryd.prog W (fun _ => true) ["loop.example/g00453/impl.errNoRoom", "loop.example/g00453/impl.errNoStep"] gs q := hV0
  have hV1 := hV
  rw [Tryd.params4] at hA hval
  obtain ⟨v0, vs0, d0, ds0, p0, q0, hargs, rfl, rfl, h0, tl0⟩ := trodAll_cons hA
  obtain ⟨v1, vs1, d1, ds1, p1, q1, rfl, rfl, rfl, h1, tl1⟩ := trodAll_cons tl0
  obtain ⟨rfl, rfl, rfl⟩ := trodAll_nil tl1
  obtain rfl : args = #[v0, v1] := by cases args; simp_all
  obtain ⟨gg0, tt0, gcs0, gf0, gd0, gp0, gg1, tt1, gcs1, gf1, gd1, gp1, rfl, _⟩ := trodVars_two hV1
  have k0 := h0
  have lt0 : ∀ x ∈ p0, x.block < W.heap.size := by obtain ⟨m, hm⟩ := k0; exact DataW.trod_lt m _ _ _ hm
  have k1 := h1
  have lt1 : ∀ x ∈ p1, x.block < W.heap.size := by obtain ⟨m, hm⟩ := k1; exact DataW.trod_lt m _ _ _ hm
  obtain ⟨cs0, rfl, hcs0⟩ := okWide_struct Tryd.underlying23 (hval 0 23 v0 rfl rfl)
  obtain ⟨r0, hin0, hrc0⟩ : ∃ r0 : Cb, r0.In ∧ cs0 = #[.int .i64 r0.wn, .int .i64 r0.mx, .int .i64 r0.kk, .int .i64 r0.st, .int .i64 r0.th, .bool r0.bg] := by
    obtain ⟨fuel, hf⟩ := h0
    obtain ⟨r, hin, hcs'⟩ := openCubic hf
    have hc2 : cs0 = (cs0.toList).toArray := by simp
    have hcl : cs0.toList = [.int .i64 r.wn, .int .i64 r.mx, .int .i64 r.kk, .int .i64 r.st, .int .i64 r.th, .bool r.bg] := by simpa [Value.cells] using hcs'
    rw [hcl] at hc2
    exact ⟨r, hin, hc2⟩
  subst hrc0
  obtain ⟨z1, hzv1, _, _, hzw1⟩ := open_int Tryd.underlying3 (hval 1 3 v1 rfl rfl) h1
  subst hzv1
  clear hA0 hV0 hval0
  refine (walk r0 hin0 z1 (bd hzw1) W (errs_of hL)).mono fun e W' ⟨he, bel⟩ => ?_
  subst he
  exact ⟨_, rfl, _, _, _, [], _, _, hW', trodAll_mk1 (shut_bool Tryd.underlying4 _), (trodAll_cons_mk (Below.trod laidOut (by kernel_rfl) (of_decide_eq_true (by kernel_rfl)) k0 bel lt0) (trodAll_cons_mk (Below.trod laidOut (by kernel_rfl) (of_decide_eq_true (by kernel_rfl)) k1 bel lt1) trodAll_mk0)), Below.trodVars laidOut bel (by kernel_rfl) hV, bel.frame _, fun h => by cases h⟩

theorem over : Rows.FnExactCubicLossSaid :=
  OpenClaim.holds_of_wide 4 Tryd.f4 rfl rfl rfl rfl rfl rfl rfl ⟨rfl, rfl, rfl, rfl, rfl⟩ rfl rfl rfl rfl rfl (by kernel_rfl) Tryd.func4 (by kernel_rfl)
    (of_decide_eq_true (by kernel_rfl)) (by unfold Func.isWrapper; first | (rw [if_pos (by decide +kernel)]; kernel_rfl) | (rw [if_neg (by decide +kernel)]; exact ⟨rfl, rfl⟩))
    (fun os started H enc _ => lifted os started H enc)

theorem plain (f : FuncId) (fn : Func) (hf : Tryd.pinned.checked.prog.funcNamed "loop.example/g00453/laws.FnExactCubicLoss" = some f) (hfn : Tryd.pinned.checked.prog.funcs[f]? = some fn) :
    true = Tryd.pinned.checked.prog.looks [] ∧ ∀ (j : Nat) t, fn.params[j]? = some t → Tryd.pinned.checked.prog.wantsStandIn t = false := by
  obtain rfl : f = 4 := Option.some.inj ((show Tryd.prog.funcNamed "loop.example/g00453/laws.FnExactCubicLoss" = some 4 by kernel_rfl).symm.trans hf) |>.symm
  obtain rfl : fn = Tryd.f4 := (Option.some.inj (Tryd.func4.symm.trans hfn)).symm
  refine ⟨by kernel_rfl, fun j t ht => ?_⟩
  rw [Tryd.params4] at ht
  have hm := Array.mem_of_getElem? ht
  have hall : (Tryd.f4.params.toList.all fun u => !Tryd.prog.wantsStandIn u) = true := by kernel_rfl
  rw [Tryd.params4] at hall
  exact (show Tryd.prog.wantsStandIn t = false by simpa using List.all_eq_true.1 hall t (by simpa using hm))

theorem proved : Rows.FnExactCubicLossCardSaid :=
  Claim7.holds_tied_plain_at .later [] _ _ _ _ over (fun _ h => by cases h) (by kernel_rfl) (fun _ h => by cases h) fnExactCubicLoss_row_tie rfl ⟨rfl, rfl⟩ (by kernel_rfl) rfl plain (by kernel_rfl)
end Go.Proofs.YtfflheebjbdnoarDoor.fnExactCubicLoss
namespace Go.Proofs.YtfflheebjbdnoarDoor
theorem fnExactCubicLoss_holds : Rows.FnExactCubicLossCardSaid := fnExactCubicLoss.proved
#print axioms fnExactCubicLoss_holds
end Go.Proofs.YtfflheebjbdnoarDoor
