/-
  Whatever number the law FnExactFifoNew is given, it returns true and leaves all that lay as it was: the program's FifoNew answers as the specification's, in memory of its own; no condition.
-/
import Derived.Test.YtfjdlfoonjnllakRows
import Derived.WalkKit
import Derived.ProofKit
import Derived.OpenShut
import Derived.Test.YtfjdlfoonjnllakFNew
import Derived.Test.YtfjdlfoonjnllakPkMark
import Derived.Deep.Slices
import Derived.ShutString
import Derived.ChangeOld
import Derived.Below
namespace Go.Proofs.Ytfjdlfoonjnllak.fnExactFifoNew
open Go.ChangeShapes Go.WideShapes Go.ChangeAt Go.RowKit
open Go.ChangeMaps (open_string shut_string)
set_option linter.unusedVariables false

theorem own : ownKnob Try.prog.godebug = none := by kernel_rfl
theorem laidOut : laidOutB Try.prog = true := by kernel_rfl
theorem cellsInt : Try.prog.cellsOf 3 = 1 := by kernel_rfl


set_option maxHeartbeats 4000000 in
theorem walk (z0 : Int) (w0 : (-9223372036854775808 ≤ z0 ∧ z0 ≤ 9223372036854775807)) (w : World)  :
    Calls Try.prog 3 #[.int .i64 z0] w fun e w' => e = .returned (.bool true) ∧ Below w.heap.size w w' := by
  obtain ⟨L, hL⟩ : ∃ L, (if inB z0 1 40 = true then z0 else 0) = L := ⟨_, rfl⟩
  obtain ⟨ok, hok⟩ : ∃ b, inB z0 1 40 = b := ⟨_, rfl⟩
  have HS : ∀ W, Calls Try.prog 9 #[.int .i64 z0] W fun e w' => e = .returned (.tuple #[.agg #[.slice none 0 0, .int .i64 L], .bool ok]) ∧ Below W.heap.size W w' := fun W => by
    refine (sfifoNew_any z0 W).mono ?_
    rintro e w' ⟨rfl, hb⟩
    rw [hL, hok]
    exact ⟨rfl, hb⟩
  have HI : ∀ W, Calls Try.prog 10 #[.int .i64 z0] W fun e w' => e = .returned (.tuple #[.agg #[.slice none 0 0, .int .i64 L], .bool ok]) ∧ Below W.heap.size W w' := fun W => by
    refine (ififoNew_any z0 W).mono ?_
    rintro e w' ⟨rfl, hb⟩
    rw [hL, hok]
    exact ⟨rfl, hb⟩
  have HS' : Hid _ := HS
  have HI' : Hid _ := HI
  have hz6 : ∀ L' U' (W : World) (g : Nat → Int), ZI L' U' W none (0 * 6) g := fun _ _ _ _ => .inl rfl
  have HZ : Hid _ := hz6
  clear HS HI hL hok hz6
  cases ok
  all_goals
    go_enter Try.func3, Try.ntmps3
    go_wp2_with (go_at_call 9; refine (HS'.out _).mono ?_; rintro e w1 ⟨rfl, b1⟩)
    obtain ⟨V1, hV1⟩ : ∃ V, w1.heap.size = V := ⟨_, rfl⟩
    obtain ⟨wa, hA⟩ : ∃ x, w1.alloc (.cells #[.slice none 0 0, .int .i64 L] 24) = x := ⟨_, rfl⟩
    have g1 : Lies wa V1 #[.slice none 0 0, .int .i64 L] 24 := by rw [← hA, ← hV1]; exact Lies.new _ _ _
    have B1 : Below w.heap.size w wa := by rw [← hA]; exact b1.alloc b1.size _
    rw [hA, hV1]
    have l1 : w.heap.size ≤ V1 := by rw [← hV1]; exact b1.size
    clear hA hV1 b1
    go_wp2_with (go_at_call 10; refine (HI'.out _).mono ?_; rintro e w2 ⟨rfl, b2⟩; have g2 := g1.below b2 g1.lt; obtain ⟨x1, x2⟩ := fi2_cells g2; have l2 := g2.lt)
    have B2 := B1.trans (b2.mono B1.size)
    obtain ⟨V2, hV2⟩ : ∃ V, w2.heap.size = V := ⟨_, rfl⟩
    obtain ⟨wb, hA⟩ : ∃ x, w2.alloc (.cells #[.slice none 0 0, .int .i64 L] 24) = x := ⟨_, rfl⟩
    have q2 : Lies wb V2 #[.slice none 0 0, .int .i64 L] 24 := by rw [← hA, ← hV2]; exact Lies.new _ _ _
    have p2 : Lies wb V1 #[.slice none 0 0, .int .i64 L] 24 := by rw [← hA]; exact g2.alloc _
    have B3 : Below w.heap.size w wb := by rw [← hA]; exact B2.alloc B2.size _
    rw [hA, hV2]
    clear l2
    have l2 : w.heap.size ≤ V2 := by rw [← hV2]; exact B2.size
    clear hA hV2 b2 g1 B1 g2 x1 x2 B2
    go_wp2_with (go_at_call 11; refine (eqFifo_yes none none 0 0 0 L (fun _ => default) _ (pr_none _ _ _ _) (pr_none _ _ _ _) (by omega)).mono ?_; rintro e w3 ⟨rfl, b3⟩; have q3 := q2.below b3 q2.lt; have p3 := p2.below b3 p2.lt; obtain ⟨x1, x2⟩ := fi2_cells q3; obtain ⟨y1, y2⟩ := fi2_cells p3; have B4 := B3.trans (b3.mono B3.size))
    clear q2 p2 b3 x1 x2 y1 y2 B3
    have e1 : (1 : Int) + ((0 : Nat) : Int) * 6 = 1 := by omega
    have E1 : Hid _ := e1
    clear e1
    go_wp2_with (go_at_call 12; refine (markFifo_zi w.heap.size w.heap.size none 0 0 L (fun _ => 0) 1 _ (HZ.out _ _ _ _) (by omega) (by omega) (by omega)).mono ?_; rintro e w4 ⟨rfl, z4, c4⟩; rw [E1.out]; have q4 := q3.chg c4 (.inr l2); have p4 := p3.chg c4 (.inr l1); obtain ⟨x1, x2⟩ := fi2_cells q4; have B5 := B4.trans (c4.below B4.size))
    clear q3 p3 x1 x2 c4 B4 z4
    go_wp2_with (go_at_call 13; refine (heldFifo_any none 0 0 L 1 _ (.inl rfl) (by omega) (by omega) (by omega)).mono ?_; rintro e w5 ⟨rfl, b5⟩; rw [E1.out]; have q5 := q4.below b5 q4.lt; have p5 := p4.below b5 p4.lt; have B6 := B5.trans (b5.mono B5.size))
    clear q4 p4 b5 B5
    go_wp2_with (go_at_call 10; refine (HI'.out _).mono ?_; rintro e w6 ⟨rfl, b6⟩; have q6 := q5.below b6 q5.lt; have p6 := p5.below b6 p5.lt; obtain ⟨x1, x2⟩ := fi2_cells p6; have l6 := p6.lt)
    have B7 := B6.trans (b6.mono B6.size)
    obtain ⟨V3, hV3⟩ : ∃ V, w6.heap.size = V := ⟨_, rfl⟩
    obtain ⟨wc, hA⟩ : ∃ x, w6.alloc (.cells #[.slice none 0 0, .int .i64 L] 24) = x := ⟨_, rfl⟩
    have q7 : Lies wc V2 #[.slice none 0 0, .int .i64 L] 24 := by rw [← hA]; exact q6.alloc _
    have B8 : Below w.heap.size w wc := by rw [← hA]; exact B7.alloc B7.size _
    rw [hA, hV3]
    clear hA hV3 b6 q5 p5 q6 p6 x1 x2 B7 B6 l6
    go_wp2_with (go_at_call 11; refine (eqFifo_yes none none 0 0 0 L (fun _ => default) _ (pr_none _ _ _ _) (pr_none _ _ _ _) (by omega)).mono ?_; rintro e w8 ⟨rfl, b8⟩; have q8 := q7.below b8 q7.lt; obtain ⟨x1, x2⟩ := fi2_cells q8; have B9 := B8.trans (b8.mono B8.size))
    clear q7 b8 B8 x1 x2
    go_wp2_with (go_at_call 13; refine (heldFifo_any none 0 0 L 1 _ (.inl rfl) (by omega) (by omega) (by omega)).mono ?_; rintro e w9 ⟨rfl, b9⟩; rw [E1.out]; have B10 := B9.trans (b9.mono B9.size))
    go_ret
    exact ⟨rfl, B10⟩

section
variable {H : Type} {enc : TypeId × Value → H} {W : World} {base : Nat} {sp : Nat → Bool} {held : Bool}

theorem openInt {n : Nat} {c : Value} {y : DataW H × List MemPlace} (h : DataW.trod enc Try.prog W base sp held n 3 [c] = some y) : ∃ z : Int, c = .int .i64 z ∧ (-9223372036854775808 ≤ z ∧ z ≤ 9223372036854775807) := by
  obtain ⟨z, h1, _, hw⟩ := DataW.trod_int Try.underlying3 h
  simp only [List.cons.injEq, and_true] at h1
  exact ⟨z, h1, bd hw⟩

end

set_option maxRecDepth 100000 in
theorem lifted (os : Os) (started : os.Started) (H : Type) (enc : TypeId × Value → H) :
    ReturnsInHanded {} Try.checked os 3 .any (Rows.fnExactFifoNewSpec.pre6 enc Try.prog Try.f3 Rows.fnExactFifoNewRow.domain false) (Rows.fnExactFifoNewSpec.post enc Try.prog Try.f3 false true false false) := by
  refine returnsInHanded_of_change (C := Try.checked) own started (by kernel_rfl) Try.func3
    (ChangeSpec.witness6 (enc := enc) (C := Try.checked) false ⟨#[], #[.int .i64 0], []⟩ 8 (by kernel_rfl) (by kernel_rfl) (by kernel_rfl) (by kernel_rfl)) ?_
  intro W base args ds gs before hval0 hW hcnd _
  have hval : ∀ (j : Nat) t v, Try.f3.params[j]? = some t → args[j]? = some v → Value.okWide Try.prog W .any base t v := hval0
  have hW' := hW
  obtain ⟨p, q, hA0, hV, rfl, hfz, hnd⟩ := hW
  have hA : DataW.TrodAll enc Try.prog W 0 (fun _ => true) true Try.f3.params.toList args.toList ds p := hA0
  rw [Try.params3] at hA hval
  obtain ⟨v0, vs0, d0, ds0, p0, q0, hargs, rfl, rfl, h0, r0⟩ := trodAll_cons hA
  obtain ⟨rfl, rfl, rfl⟩ := trodAll_nil r0
  obtain rfl : args = #[v0] := by cases args; simp_all
  obtain ⟨rfl, rfl⟩ := trodVars_none hV
  have k0 := h0
  have lt0 : ∀ x ∈ p0, x.block < W.heap.size := by obtain ⟨m, hm⟩ := k0; exact DataW.trod_lt m _ _ _ hm
  obtain ⟨z0, hzv0, _, _, hzw0⟩ := open_int Try.underlying3 (hval 0 3 v0 rfl rfl) h0
  subst hzv0
  clear hA0 hval0
  refine (walk z0 (bd hzw0) W ).mono fun e W' ⟨he, bel⟩ => ?_
  subst he
  exact ⟨_, rfl, _, _, _, [], _, [], hW', trodAll_mk1 (shut_bool Try.underlying4 _), (trodAll_cons_mk (Below.trod laidOut (by kernel_rfl) (of_decide_eq_true (by kernel_rfl)) k0 bel lt0) trodAll_mk0), rfl, bel.frame _, fun h => by cases h⟩

theorem over : Rows.fnExactFifoNewRow.holds Try.pinned (OpenSpec.ofChange Rows.fnExactFifoNewSpec) :=
  OpenClaim.holds_of_wide 3 Try.f3 rfl rfl rfl rfl rfl rfl rfl ⟨rfl, rfl, rfl, rfl, rfl⟩ rfl rfl rfl rfl rfl (by kernel_rfl) Try.func3 (by kernel_rfl)
    (of_decide_eq_true (by kernel_rfl)) (by unfold Func.isWrapper; first | (rw [if_pos (by decide +kernel)]; kernel_rfl) | (rw [if_neg (by decide +kernel)]; exact ⟨rfl, rfl⟩))
    (fun os started H enc _ => lifted os started H enc)

theorem proved : Rows.FnExactFifoNewSaid := over
end Go.Proofs.Ytfjdlfoonjnllak.fnExactFifoNew
namespace Go.Proofs.Ytfjdlfoonjnllak
theorem fnExactFifoNew_holds : Rows.FnExactFifoNewSaid := fnExactFifoNew.proved
#print axioms fnExactFifoNew_holds
end Go.Proofs.Ytfjdlfoonjnllak
