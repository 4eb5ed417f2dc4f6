/-
  Whatever receiver the law FnExactRecvHas is given, where the program's error lies in its variable, it returns true and leaves all that lay as it was: the program's RecvHas answers as the specification's; no condition.
-/
import Derived.Test.YthdlpgehojdhkatDoorRows
import Derived.WalkKit
import Derived.ProofKit
import Derived.OpenShut
import Derived.Test.YthdlpgehojdhkatDoorLaidS
import Derived.Test.YthdlpgehojdhkatDoorRecvHas
import Derived.Deep.RegionHeld3
import Derived.Deep.Cut
import Derived.Deep.Slices
import Derived.ShutString
import Derived.ChangeOld
import Derived.Below
namespace Go.Proofs.YthdlpgehojdhkatDoor.fnExactRecvHas
open Go.ChangeShapes Go.WideShapes Go.ChangeAt Go.RowKit
open Go.ChangeMaps (open_string shut_string)
set_option linter.unusedVariables false

theorem own : ownKnob Tryd.prog.godebug = none := by kernel_rfl
theorem laidOut : laidOutB Tryd.prog = true := by kernel_rfl
theorem cellsInt : Tryd.prog.cellsOf 3 = 1 := by kernel_rfl
theorem cellsSpan : Tryd.prog.cellsOf 49 = 2 := by kernel_rfl
theorem cellsRecv : Tryd.prog.cellsOf 24 = 2 := by kernel_rfl
theorem cellsSpans : Tryd.prog.cellsOf 22 = 1 := by kernel_rfl


set_option maxHeartbeats 4000000 in
theorem walk (nx0 : Int) (a0 : Option Addr) (len0 cap0 : Nat) (f0 : Nat → Sp) (z1 : Int) (w1 : (-9223372036854775808 ≤ z1 ∧ z1 ≤ 9223372036854775807)) (w : World) (w0 : RecvIn w nx0 a0 len0 cap0 f0) (hs : ErrSps w) :
    Calls Tryd.prog 4 #[.agg #[.int .i64 nx0, .slice a0 len0 cap0], .int .i64 z1] w fun e w' => e = .returned (.bool true) ∧ Below w.heap.size w w' := by
  obtain ⟨hlim, hcap, hmx, hrow, hin⟩ := w0
  obtain ⟨er, her⟩ := hs
  have HER : Hid (ErrSp er w) := her
  have hl0 := her.lt
  clear her
  have hmax : (len0 : Int) ≤ 9223372036854775807 := by unfold maxLen at hmx; omega
  have HR : Hid (SR w.heap.size w a0 len0 f0) := hrow
  clear hrow hin hmx
  by_cases hbig : 1048576 < (len0 : Int)
  · go_enter Tryd.func4, Tryd.ntmps4
    go_wp2_with (go_at_call 5; refine (szRecv_any nx0 a0 len0 cap0 1048576 _ hmax (by omega) (by omega)).mono ?_; rintro o w1 ⟨rfl, b1⟩; rw [if_pos hbig])
    go_ret
    exact ⟨rfl, ((Below.refl w.heap.size w).alloc (Nat.le_refl _) _).trans (b1.mono (by simp))⟩
  · have hn : len0 ≤ 1048576 := by omega
    have hsz : decide (1048576 - (len0 : Int) < 0) = false := by simp; omega
    have g0 : Sits (w.alloc (.cells (rcCells nx0 a0 len0 cap0) 24)) w.heap.size (rcCells nx0 a0 len0 cap0) 24 := Sits.new _ _ _
    have B0 : Below w.heap.size w (w.alloc (.cells (rcCells nx0 a0 len0 cap0) 24)) := (Below.refl _ _).alloc (Nat.le_refl _) _
    go_enter Tryd.func4, Tryd.ntmps4
    go_wp2_with (go_at_call 5; refine (szRecv_any nx0 a0 len0 cap0 1048576 _ hmax (by omega) (by omega)).mono ?_; rintro o w1 ⟨rfl, b1⟩; rw [if_neg hbig]; have g1 := g0.below b1 (by simp); have B1 := B0.trans (b1.mono B0.size); obtain ⟨x1, x2⟩ := rc_cells g1)
    clear g0 B0 b1 x1 x2
    have H1 : Hid (SR w1.heap.size w1 a0 len0 f0) := (SR.below HR.out B1).mono B1.size
    go_wp2_with (go_at_call 7; refine (toRecv_any nx0 a0 len0 cap0 f0 _ H1.out hn).mono ?_; rintro o w2 ⟨d2, rfl, o2, b2⟩)
    have B2 := B1.trans (b2.mono B1.size)
    have g2 := g1.below b2 g1.lt
    have O2 : Hid (SR w2.heap.size w2 d2 len0 f0) := o2.sr
    clear o2 g1 B1 H1
    go_wp2_with (go_at_call 14; refine (srecvHas_any nx0 d2 len0 len0 f0 z1 _ O2.out hn).mono ?_; rintro o w3 ⟨rfl, b3⟩; have g3 := g2.below b3 g2.lt; obtain ⟨x1, x2⟩ := rc_cells g3)
    have B3 := B2.trans (b3.mono B2.size)
    clear b2 b3 g2 B2 O2 x1 x2
    have H3 : Hid (SR w3.heap.size w3 a0 len0 f0) := (SR.below HR.out B3).mono B3.size
    go_wp2_with (go_at_call 7; refine (toRecv_any nx0 a0 len0 cap0 f0 _ H3.out hn).mono ?_; rintro o w4 ⟨d4, rfl, o4, b4⟩)
    have B4 := B3.trans (b4.mono B3.size)
    have g4 := g3.below b4 g3.lt
    obtain ⟨V4, hV4⟩ : ∃ V, w4.heap.size = V := ⟨_, rfl⟩
    obtain ⟨wb, hA⟩ : ∃ x, w4.alloc (.cells (rcCells nx0 d4 len0 len0) 29) = x := ⟨_, rfl⟩
    have gg : Sits wb V4 (rcCells nx0 d4 len0 len0) 29 := by rw [← hA, ← hV4]; exact Sits.new _ _ _
    have b4a : Below w4.heap.size w4 wb := by rw [← hA]; exact (Below.refl _ _).alloc (Nat.le_refl _) _
    have B5 := B4.trans (b4a.mono B4.size)
    have g5 := g4.below b4a g4.lt
    have O4 : Hid (SR wb.heap.size wb d4 len0 f0) := (SR.below o4.sr b4a).mono b4a.size
    rw [hA, hV4]
    clear hA hV4 b4a b4 g4 B4 g3 B3 H3 o4
    obtain ⟨y1, y2⟩ := rc_cells gg
    go_wp2_with (go_at_call 15; refine (irecvHas_any nx0 d4 len0 len0 f0 z1 er _ hn O4.out (ErrSp.below HER.out B5 hl0)).mono ?_; rintro o w6 ⟨rfl, b6⟩)
    have B6 := B5.trans (b6.mono B5.size)
    have gg6 := gg.below b6 gg.lt
    have g6 := g5.below b6 g5.lt
    have O6 : Hid (SR w6.heap.size w6 d4 len0 f0) := (SR.below O4.out b6).mono b6.size
    clear B5 gg g5 O4 b6 y1 y2
    obtain ⟨y1, y2⟩ := rc_cells gg6
    obtain ⟨x1, x2⟩ := rc_cells g6
    go_region_held3 (fun w' => (w'.cell? ⟨V4, 0, none⟩ = some (.int .i64 nx0) ∧ w'.cell? ⟨V4, 1, none⟩ = some (.slice d4 len0 len0)) ∧ (w'.cell? ⟨w.heap.size, 0, none⟩ = some (.int .i64 nx0) ∧ w'.cell? ⟨w.heap.size, 1, none⟩ = some (.slice a0 len0 cap0))) (first | exact ⟨⟨y1, y2⟩, ⟨x1, x2⟩⟩ | go_keep | exact ⟨rc_cells (Sits.below (W := w6.drew) gg6 b7 gg6.lt), rc_cells (Sits.below (W := w6.drew) g6 b7 g6.lt)⟩ | exact ⟨rc_cells ((Sits.below (W := w6.drew) gg6 b7 gg6.lt).below b8 (Sits.below (W := w6.drew) gg6 b7 gg6.lt).lt), rc_cells ((Sits.below (W := w6.drew) g6 b7 g6.lt).below b8 (Sits.below (W := w6.drew) g6 b7 g6.lt).lt)⟩) (first | (go_at_call 7; refine (toRecv_any nx0 a0 len0 cap0 f0 _ ((SR.below HR.out B6.drew).mono B6.size) hn).mono ?_; rintro o w7 ⟨d7, rfl, o7, b7⟩) | (go_at_call 10; refine (eqRecv_yes nx0 d4 d7 len0 len0 len0 f0 _ ((SR.below (w := w6.drew) O6.out b7).mono b7.size) o7.sr hn).mono ?_; rintro o w8 ⟨rfl, b8⟩))
    all_goals
      go_wp2
      go_ret
      have B7 := B6.drew.trans (b7.mono B6.size)
      exact ⟨rfl, B7.trans (b8.mono B7.size)⟩

section
variable {H : Type} {enc : TypeId × Value → H} {W : World} {base : Nat} {sp : Nat → Bool} {held : Bool}

theorem openInt {n : Nat} {c : Value} {y : DataW H × List MemPlace} (h : DataW.trod enc Tryd.prog W base sp held n 3 [c] = some y) : ∃ z : Int, c = .int .i64 z ∧ (-9223372036854775808 ≤ z ∧ z ≤ 9223372036854775807) := by
  obtain ⟨z, h1, _, hw⟩ := DataW.trod_int Tryd.underlying3 h
  simp only [List.cons.injEq, and_true] at h1
  exact ⟨z, h1, bd hw⟩

theorem openSpan {fuel : Nat} {cs : List Value} {x : DataW H × List MemPlace} (h : DataW.trod enc Tryd.prog W base sp held fuel 49 cs = some x) :
    ∃ r : Sp, r.In ∧ cs = [.int .i64 r.fr, .int .i64 r.to] := by
  obtain ⟨xs, n, rfl, hx, hl, hxl, hall⟩ := DataW.trod_struct Tryd.underlying49 h
  rw [cellsSpan] at hl
  match cs, hl with
  | [c0, c1], _ =>
  match xs, hxl with
  | [y0, y1], _ =>
  have b0 : DataW.trod enc Tryd.prog W base sp held n 3 (([c0, c1].drop 0).take (Tryd.prog.cellsOf 3)) = some y0 := hall 0 _ rfl
  rw [cellsInt] at b0
  replace b0 : DataW.trod enc Tryd.prog W base sp held n 3 [c0] = some y0 := b0
  have b1 : DataW.trod enc Tryd.prog W base sp held n 3 (([c0, c1].drop 1).take (Tryd.prog.cellsOf 3)) = some y1 := hall 1 _ rfl
  rw [cellsInt] at b1
  replace b1 : DataW.trod enc Tryd.prog W base sp held n 3 [c1] = some y1 := b1
  obtain ⟨z0, rfl, i0⟩ := openInt (y := y0) b0
  obtain ⟨z1, rfl, i1⟩ := openInt (y := y1) b1
  exact ⟨⟨z0, z1⟩, ⟨i0, i1⟩, rfl⟩

theorem openSpans {fuel : Nat} {cs : List Value} {x : DataW H × List MemPlace} (h : DataW.trod enc Tryd.prog W base sp held fuel 22 cs = some x) :
    ∃ (a : Option Addr) (len cap : Nat) (f : Nat → Sp), cs = [.slice a len cap] ∧ len ≤ cap ∧ cap ≤ maxLen ∧ SR W.heap.size W a len f ∧ ∀ i, i < len → (f i).In := by
  rcases Go.Deep.open_slice Tryd.underlying22 h with ⟨rfl, _⟩ | ⟨a, len, cap, m, n, D, Pl, rfl, hb, hl, hm, hmm, _, hx⟩
  · exact ⟨none, 0, 0, fun _ => ⟨0, 0⟩, rfl, Nat.le_refl _, Nat.zero_le _, .inl rfl, fun i hi => absurd hi (Nat.not_lt_zero _)⟩
  · have hlm : len ≤ m := by rw [hmm]; split <;> omega
    have each : ∀ i, i < len → ∃ r : Sp, r.In ∧ (∀ t, t < 2 → W.cell? ((a.add (i * 2)).add t) = some (.int .i64 (if t = 0 then r.fr else r.to))) := by
      intro i hi
      obtain ⟨cs', h1, h2⟩ := hx i (by omega)
      rw [cellsSpan] at h1
      obtain ⟨_, hlen, hcell⟩ := World.cells?_some h1
      obtain ⟨r, hr, rfl⟩ := openSpan h2
      refine ⟨r, hr, fun t ht => ?_⟩
      have := hcell t (by omega)
      rw [this]
      have hc : t = 0 ∨ t = 1 := by omega
      rcases hc with rfl | rfl <;> rfl
    obtain ⟨f, hf⟩ := Go.Deep.choose_lt each
    refine ⟨some a, len, cap, f, rfl, hl, hm, ?_, fun i hi => (hf i hi).1⟩
    by_cases h0 : len = 0
    · exact .inl h0
    · obtain ⟨b, off, inner⟩ := a
      have hc0 := (hf 0 (by omega)).2 0 (by omega)
      have hin : inner = none := by simpa [Addr.add] using World.cell?_spot hc0
      subst hin
      refine .inr ⟨b, off, rfl, World.block_lt_of_cell? W _ hc0, fun i hi => ?_⟩
      have hh : ∀ t, t < 2 → W.cell? ⟨b, off + i * 2 + t, none⟩ = some (.int .i64 (if t = 0 then (f i).fr else (f i).to)) := fun t ht => by
        have := (hf i hi).2 t ht
        rw [Go.WideShapes.add_plain, Go.WideShapes.add_plain] at this
        exact this
      exact ⟨hh 0 (by omega), hh 1 (by omega)⟩

theorem openRecv {fuel : Nat} {cs : List Value} {x : DataW H × List MemPlace} (h : DataW.trod enc Tryd.prog W base sp held fuel 24 cs = some x) :
    ∃ (nx : Int) (a : Option Addr) (len cap : Nat) (f : Nat → Sp), RecvIn W nx a len cap f ∧ cs = [.int .i64 nx, .slice a len cap] := by
  obtain ⟨xs, n, rfl, hx, hl, hxl, hall⟩ := DataW.trod_struct Tryd.underlying24 h
  rw [cellsRecv] at hl
  match cs, hl with
  | [c0, c1], _ =>
  match xs, hxl with
  | [y0, y1], _ =>
  have b0 : DataW.trod enc Tryd.prog W base sp held n 3 (([c0, c1].drop 0).take (Tryd.prog.cellsOf 3)) = some y0 := hall 0 _ rfl
  rw [cellsInt] at b0
  replace b0 : DataW.trod enc Tryd.prog W base sp held n 3 [c0] = some y0 := b0
  have b1 : DataW.trod enc Tryd.prog W base sp held n 22 (([c0, c1].drop 1).take (Tryd.prog.cellsOf 22)) = some y1 := hall 1 _ rfl
  rw [cellsSpans] at b1
  replace b1 : DataW.trod enc Tryd.prog W base sp held n 22 [c1] = some y1 := b1
  obtain ⟨z, rfl, iz⟩ := openInt (y := y0) b0
  obtain ⟨a, len, cap, f, hs, h1, h2, h3, h4⟩ := openSpans (x := y1) b1
  simp only [List.cons.injEq, and_true] at hs
  subst hs
  exact ⟨z, a, len, cap, f, ⟨iz, h1, h2, h3, h4⟩, rfl⟩

end

set_option maxRecDepth 100000 in
theorem lifted (os : Os) (started : os.Started) (H : Type) (enc : TypeId × Value → H) :
    ReturnsInHanded {} Tryd.checked os 4 .any (fun w args => (Rows.fnExactRecvHasSpec.pre enc Tryd.prog Tryd.f4 [] false w args ∧ laidMetH Tryd.prog Rows.fnExactRecvHasRow.laid w) ∧ sizedMet enc Tryd.prog Tryd.f4 (OpenSpec.ofChange Rows.fnExactRecvHasSpec) false w args)
      (Rows.fnExactRecvHasSpec.post enc Tryd.prog Tryd.f4 false true false false) := by
  refine returnsInHanded_of_change_and (C := Tryd.checked) (X := fun w _ => laidMetH Tryd.prog Rows.fnExactRecvHasRow.laid w) (fun _ _ _ hh h => h.of_heap hh) own started (by kernel_rfl) Tryd.func4
    (ChangeSpec.witness_shaped (enc := enc) (C := Tryd.checked) (os := os) (X := fun w _ => laidMetH Tryd.prog Rows.fnExactRecvHasRow.laid w) false (World.doorLaid Tryd.prog 400 os) #[.agg #[.int .i64 0, .slice none 0 0], .int .i64 0] 8 rfl (World.shaped_of_RefB (by kernel_rfl) (by kernel_rfl)) (by kernel_rfl) (by kernel_rfl) (by kernel_rfl) (door_met os _)) ?_
  intro W base args ds gs before hval0 hW _ _ hL _
  have hval : ∀ (j : Nat) t v, Tryd.f4.params[j]? = some t → args[j]? = some v → Value.okWide Tryd.prog W .any base t v := hval0
  have hW' := hW
  obtain ⟨p, q, hA0, hV0, rfl, hfz, hnd⟩ := hW
  have hA : DataW.TrodAll enc Tryd.prog W 0 (fun _ => true) true Tryd.f4.params.toList args.toList ds p := hA0
  have hV : DataW.TrodVars enc Tryd.prog W (fun _ => true) ["loop.example/g00453/impl.errNoSpan"] gs q := hV0
  have hV1 := hV
  rw [Tryd.params4] at hA hval
  obtain ⟨v0, vs0, d0, ds0, p0, q0, hargs, rfl, rfl, h0, tl0⟩ := trodAll_cons hA
  obtain ⟨v1, vs1, d1, ds1, p1, q1, rfl, rfl, rfl, h1, tl1⟩ := trodAll_cons tl0
  obtain ⟨rfl, rfl, rfl⟩ := trodAll_nil tl1
  obtain rfl : args = #[v0, v1] := by cases args; simp_all
  obtain ⟨gg, tt, gcs, gfuel, gd, gp, rfl, _⟩ := trodVars_one hV1
  have k0 := h0
  have lt0 : ∀ x ∈ p0, x.block < W.heap.size := by obtain ⟨m, hm⟩ := k0; exact DataW.trod_lt m _ _ _ hm
  have k1 := h1
  have lt1 : ∀ x ∈ p1, x.block < W.heap.size := by obtain ⟨m, hm⟩ := k1; exact DataW.trod_lt m _ _ _ hm
  obtain ⟨cs0, rfl, hcs0⟩ := okWide_struct Tryd.underlying24 (hval 0 24 v0 rfl rfl)
  obtain ⟨nx0, a0, len0, cap0, f0, hin0, hrc0⟩ : ∃ (nx : Int) (a : Option Addr) (len cap : Nat) (f : Nat → Sp), RecvIn W nx a len cap f ∧ cs0 = #[.int .i64 nx, .slice a len cap] := by
    obtain ⟨fuel, hf⟩ := h0
    obtain ⟨nx, a, len, cap, f, hin, hcs'⟩ := openRecv hf
    have hc2 : cs0 = (cs0.toList).toArray := by simp
    have hcl : cs0.toList = [.int .i64 nx, .slice a len cap] := by simpa [Value.cells] using hcs'
    rw [hcl] at hc2
    exact ⟨nx, a, len, cap, f, hin, hc2⟩
  subst hrc0
  obtain ⟨z1, hzv1, _, _, hzw1⟩ := open_int Tryd.underlying3 (hval 1 3 v1 rfl rfl) h1
  subst hzv1
  clear hA0 hV0 hval0
  refine (walk nx0 a0 len0 cap0 f0 z1 (bd hzw1) W hin0 (errs_of hL)).mono fun e W' ⟨he, bel⟩ => ?_
  subst he
  exact ⟨_, rfl, _, _, _, [], _, _, hW', trodAll_mk1 (shut_bool Tryd.underlying4 _), (trodAll_cons_mk (Below.trod laidOut (by kernel_rfl) (of_decide_eq_true (by kernel_rfl)) k0 bel lt0) (trodAll_cons_mk (Below.trod laidOut (by kernel_rfl) (of_decide_eq_true (by kernel_rfl)) k1 bel lt1) trodAll_mk0)), Below.trodVars laidOut bel (by kernel_rfl) hV, bel.frame _, fun h => by cases h⟩

theorem over : Rows.FnExactRecvHasSaid :=
  OpenClaim.holds_of_wide 4 Tryd.f4 rfl rfl rfl rfl rfl rfl rfl ⟨rfl, rfl, rfl, rfl, rfl⟩ rfl rfl rfl rfl rfl (by kernel_rfl) Tryd.func4 (by kernel_rfl)
    (of_decide_eq_true (by kernel_rfl)) (by unfold Func.isWrapper; first | (rw [if_pos (by decide +kernel)]; kernel_rfl) | (rw [if_neg (by decide +kernel)]; exact ⟨rfl, rfl⟩))
    (fun os started H enc _ => lifted os started H enc)

theorem plain (f : FuncId) (fn : Func) (hf : Tryd.pinned.checked.prog.funcNamed "loop.example/g00453/laws.FnExactRecvHas" = some f) (hfn : Tryd.pinned.checked.prog.funcs[f]? = some fn) :
    false = Tryd.pinned.checked.prog.looks [] ∧ ∀ (j : Nat) t, fn.params[j]? = some t → Tryd.pinned.checked.prog.wantsStandIn t = false := by
  obtain rfl : f = 4 := Option.some.inj ((show Tryd.prog.funcNamed "loop.example/g00453/laws.FnExactRecvHas" = some 4 by kernel_rfl).symm.trans hf) |>.symm
  obtain rfl : fn = Tryd.f4 := (Option.some.inj (Tryd.func4.symm.trans hfn)).symm
  refine ⟨by kernel_rfl, fun j t ht => ?_⟩
  rw [Tryd.params4] at ht
  have hm := Array.mem_of_getElem? ht
  have hall : (Tryd.f4.params.toList.all fun u => !Tryd.prog.wantsStandIn u) = true := by kernel_rfl
  rw [Tryd.params4] at hall
  exact (show Tryd.prog.wantsStandIn t = false by simpa using List.all_eq_true.1 hall t (by simpa using hm))

theorem proved : Rows.FnExactRecvHasCardSaid :=
  Claim7.holds_tied_plain_at .later [] _ _ _ _ over (fun _ h => by cases h) (by kernel_rfl) (fun _ h => by cases h) fnExactRecvHas_row_tie rfl ⟨rfl, rfl⟩ (by kernel_rfl) rfl plain (by kernel_rfl)
end Go.Proofs.YthdlpgehojdhkatDoor.fnExactRecvHas
namespace Go.Proofs.YthdlpgehojdhkatDoor
theorem fnExactRecvHas_holds : Rows.FnExactRecvHasCardSaid := fnExactRecvHas.proved
#print axioms fnExactRecvHas_holds
end Go.Proofs.YthdlpgehojdhkatDoor
