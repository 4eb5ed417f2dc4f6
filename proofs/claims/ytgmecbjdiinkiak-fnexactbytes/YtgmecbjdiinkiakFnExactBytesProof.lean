/-
  Whatever queue the law FnExactBytes is given, it returns true and leaves all that lay as it was: the program's Bytes answers as the specification's; no condition.
-/
import Derived.Test.YtgmecbjdiinkiakRows
import Derived.WalkKit
import Derived.ProofKit
import Derived.OpenShut
import Derived.Test.YtgmecbjdiinkiakQBytes
import Derived.Test.YtgmecbjdiinkiakPkS
import Derived.Deep.RegionHeld3
import Derived.Deep.Slices
import Derived.ShutString
import Derived.ChangeOld
import Derived.Below
namespace Go.Proofs.Ytgmecbjdiinkiak.fnExactBytes
open Go.ChangeShapes Go.WideShapes Go.ChangeAt Go.RowKit
open Go.ChangeMaps (open_string shut_string)
set_option linter.unusedVariables false

theorem own : ownKnob Try.prog.godebug = none := by kernel_rfl
theorem laidOut : laidOutB Try.prog = true := by kernel_rfl
theorem cellsInt : Try.prog.cellsOf 3 = 1 := by kernel_rfl
theorem cellsPkt : Try.prog.cellsOf 34 = 6 := by kernel_rfl
theorem cellsFifo : Try.prog.cellsOf 32 = 2 := by kernel_rfl
theorem cellsSlice : Try.prog.cellsOf 30 = 1 := by kernel_rfl


set_option maxHeartbeats 4000000 in
theorem walk (a0 : Option Addr) (len0 cap0 : Nat) (lim0 : Int) (f0 : Nat → Pk) (w : World) (w0 : FifoIn w a0 len0 cap0 lim0 f0) :
    Calls Try.prog 6 #[.agg #[.slice a0 len0 cap0, .int .i64 lim0]] w fun e w' => e = .returned (.bool true) ∧ Below w.heap.size w w' := by
  obtain ⟨hlim, hcap, hmx, hrow, hin⟩ := w0
  have hmax : (len0 : Int) ≤ 9223372036854775807 := by unfold maxLen at hmx; omega
  have HR : Hid (PR w.heap.size w a0 len0 f0) := hrow
  clear hrow hin hmx
  by_cases hbig : 1048576 < (len0 : Int)
  · go_enter Try.func6, Try.ntmps6
    go_wp2_with (go_at_call 14; refine (szFifo_any a0 len0 cap0 lim0 1048576 _ hmax (by omega) (by omega)).mono ?_; rintro o w1 ⟨rfl, b1⟩; rw [if_pos hbig])
    go_ret
    exact ⟨rfl, ((Below.refl w.heap.size w).alloc (Nat.le_refl _) _).trans (b1.mono (by simp))⟩
  · have hn : len0 ≤ 1048576 := by omega
    have hsz : decide (1048576 - (len0 : Int) < 0) = false := by simp; omega
    have g0 : Lies (w.alloc (.cells #[.slice a0 len0 cap0, .int .i64 lim0] 32)) w.heap.size #[.slice a0 len0 cap0, .int .i64 lim0] 32 := Lies.new _ _ _
    have B0 : Below w.heap.size w (w.alloc (.cells #[.slice a0 len0 cap0, .int .i64 lim0] 32)) := (Below.refl _ _).alloc (Nat.le_refl _) _
    go_enter Try.func6, Try.ntmps6
    go_wp2_with (go_at_call 14; refine (szFifo_any a0 len0 cap0 lim0 1048576 _ hmax (by omega) (by omega)).mono ?_; rintro o w1 ⟨rfl, b1⟩; rw [if_neg hbig]; have g1 := g0.below b1 (by simp); have B1 := B0.trans (b1.mono B0.size); obtain ⟨x1, x2⟩ := fi2_cells g1)
    clear g0 B0 b1 x1 x2
    have H1 : Hid (PR w1.heap.size w1 a0 len0 f0) := (PR.below HR.out B1).mono B1.size
    go_wp2_with (go_at_call 16; refine (toFifo_any a0 len0 cap0 lim0 f0 _ H1.out hn).mono ?_; rintro o w2 ⟨d2, rfl, o2, b2⟩)
    have B2 := B1.trans (b2.mono B1.size)
    have g2 := g1.below b2 g1.lt
    have O2 : Hid (PR w2.heap.size w2 d2 len0 f0) := o2.pr
    clear o2 g1 B1 H1
    go_wp2_with (go_at_call 22; refine (sbytes_any d2 len0 len0 f0 lim0 _ hn (Nat.le_refl _) O2.out).mono ?_; rintro o w3 ⟨rfl, b3⟩; have g3 := g2.below b3 g2.lt; obtain ⟨x1, x2⟩ := fi2_cells g3)
    have B3 := B2.trans (b3.mono B2.size)
    clear b2 b3 g2 B2 O2 x1 x2
    have H3 : Hid (PR w3.heap.size w3 a0 len0 f0) := (PR.below HR.out B3).mono B3.size
    go_wp2_with (go_at_call 16; refine (toFifo_any a0 len0 cap0 lim0 f0 _ H3.out hn).mono ?_; rintro o w4 ⟨d4, rfl, o4, b4⟩)
    have B4 := B3.trans (b4.mono B3.size)
    have g4 := g3.below b4 g3.lt
    obtain ⟨V4, hV4⟩ : ∃ V, w4.heap.size = V := ⟨_, rfl⟩
    obtain ⟨wb, hA⟩ : ∃ x, w4.alloc (.cells #[.slice d4 len0 len0, .int .i64 lim0] 24) = x := ⟨_, rfl⟩
    have gg : Lies wb V4 #[.slice d4 len0 len0, .int .i64 lim0] 24 := by rw [← hA, ← hV4]; exact Lies.new _ _ _
    have b4a : Below w4.heap.size w4 wb := by rw [← hA]; exact (Below.refl _ _).alloc (Nat.le_refl _) _
    have B5 := B4.trans (b4a.mono B4.size)
    have g5 := g4.below b4a g4.lt
    have O4 : Hid (PR wb.heap.size wb d4 len0 f0) := (PR.below o4.pr b4a).mono b4a.size
    rw [hA, hV4]
    clear hA hV4 b4a b4 g4 B4 g3 B3 H3 o4
    obtain ⟨y1, y2⟩ := fi2_cells gg
    go_wp2_with (go_at_call 23; refine (ibytes_any d4 len0 len0 f0 lim0 _ hn (Nat.le_refl _) O4.out).mono ?_; rintro o w6 ⟨rfl, b6⟩)
    have B6 := B5.trans (b6.mono B5.size)
    have gg6 := gg.below b6 gg.lt
    have g6 := g5.below b6 g5.lt
    have O6 : Hid (PR w6.heap.size w6 d4 len0 f0) := (PR.below O4.out b6).mono b6.size
    clear B5 gg g5 O4 b6 y1 y2
    obtain ⟨y1, y2⟩ := fi2_cells gg6
    obtain ⟨x1, x2⟩ := fi2_cells g6
    go_region_held3 (fun w' => (w'.cell? ⟨V4, 0, none⟩ = some (.slice d4 len0 len0) ∧ w'.cell? ⟨V4, 1, none⟩ = some (.int .i64 lim0)) ∧ (w'.cell? ⟨w.heap.size, 0, none⟩ = some (.slice a0 len0 cap0) ∧ w'.cell? ⟨w.heap.size, 1, none⟩ = some (.int .i64 lim0))) (first | exact ⟨⟨y1, y2⟩, ⟨x1, x2⟩⟩ | go_keep | exact ⟨fi2_cells (Lies.below (W := w6.drew) gg6 b7 gg6.lt), fi2_cells (Lies.below (W := w6.drew) g6 b7 g6.lt)⟩ | exact ⟨fi2_cells ((Lies.below (W := w6.drew) gg6 b7 gg6.lt).below b8 (Lies.below (W := w6.drew) gg6 b7 gg6.lt).lt), fi2_cells ((Lies.below (W := w6.drew) g6 b7 g6.lt).below b8 (Lies.below (W := w6.drew) g6 b7 g6.lt).lt)⟩) (first | (go_at_call 16; refine (toFifo_any a0 len0 cap0 lim0 f0 _ ((PR.below HR.out B6.drew).mono B6.size) hn).mono ?_; rintro o w7 ⟨d7, rfl, o7, b7⟩) | (go_at_call 11; refine (eqFifo_yes d4 d7 len0 len0 len0 lim0 f0 _ ((PR.below (w := w6.drew) O6.out b7).mono b7.size) o7.pr hn).mono ?_; rintro o w8 ⟨rfl, b8⟩))
    all_goals
      go_wp2
      go_ret
      have B7 := B6.drew.trans (b7.mono B6.size)
      exact ⟨rfl, B7.trans (b8.mono B7.size)⟩

section
variable {H : Type} {enc : TypeId × Value → H} {W : World} {base : Nat} {sp : Nat → Bool} {held : Bool}

theorem openInt {n : Nat} {c : Value} {y : DataW H × List MemPlace} (h : DataW.trod enc Try.prog W base sp held n 3 [c] = some y) : ∃ z : Int, c = .int .i64 z ∧ (-9223372036854775808 ≤ z ∧ z ≤ 9223372036854775807) := by
  obtain ⟨z, h1, _, hw⟩ := DataW.trod_int Try.underlying3 h
  simp only [List.cons.injEq, and_true] at h1
  exact ⟨z, h1, bd hw⟩

theorem openPkt {fuel : Nat} {cs : List Value} {x : DataW H × List MemPlace} (h : DataW.trod enc Try.prog W base sp held fuel 34 cs = some x) :
    ∃ r : Pk, r.In ∧ cs = [.int .i64 r.id, .int .i64 r.flow, .int .i64 r.host, .int .i64 r.size, .int .i64 r.tm, .int .i64 r.ecn] := by
  obtain ⟨xs, n, rfl, hx, hl, hxl, hall⟩ := DataW.trod_struct Try.underlying34 h
  rw [cellsPkt] at hl
  match cs, hl with
  | [c0, c1, c2, c3, c4, c5], _ =>
  match xs, hxl with
  | [y0, y1, y2, y3, y4, y5], _ =>
  have b0 : DataW.trod enc Try.prog W base sp held n 3 (([c0, c1, c2, c3, c4, c5].drop 0).take (Try.prog.cellsOf 3)) = some y0 := hall 0 _ rfl
  rw [cellsInt] at b0
  replace b0 : DataW.trod enc Try.prog W base sp held n 3 [c0] = some y0 := b0
  have b1 : DataW.trod enc Try.prog W base sp held n 3 (([c0, c1, c2, c3, c4, c5].drop 1).take (Try.prog.cellsOf 3)) = some y1 := hall 1 _ rfl
  rw [cellsInt] at b1
  replace b1 : DataW.trod enc Try.prog W base sp held n 3 [c1] = some y1 := b1
  have b2 : DataW.trod enc Try.prog W base sp held n 3 (([c0, c1, c2, c3, c4, c5].drop 2).take (Try.prog.cellsOf 3)) = some y2 := hall 2 _ rfl
  rw [cellsInt] at b2
  replace b2 : DataW.trod enc Try.prog W base sp held n 3 [c2] = some y2 := b2
  have b3 : DataW.trod enc Try.prog W base sp held n 3 (([c0, c1, c2, c3, c4, c5].drop 3).take (Try.prog.cellsOf 3)) = some y3 := hall 3 _ rfl
  rw [cellsInt] at b3
  replace b3 : DataW.trod enc Try.prog W base sp held n 3 [c3] = some y3 := b3
  have b4 : DataW.trod enc Try.prog W base sp held n 3 (([c0, c1, c2, c3, c4, c5].drop 4).take (Try.prog.cellsOf 3)) = some y4 := hall 4 _ rfl
  rw [cellsInt] at b4
  replace b4 : DataW.trod enc Try.prog W base sp held n 3 [c4] = some y4 := b4
  have b5 : DataW.trod enc Try.prog W base sp held n 3 (([c0, c1, c2, c3, c4, c5].drop 5).take (Try.prog.cellsOf 3)) = some y5 := hall 5 _ rfl
  rw [cellsInt] at b5
  replace b5 : DataW.trod enc Try.prog W base sp held n 3 [c5] = some y5 := b5
  obtain ⟨z0, rfl, i0⟩ := openInt (y := y0) b0
  obtain ⟨z1, rfl, i1⟩ := openInt (y := y1) b1
  obtain ⟨z2, rfl, i2⟩ := openInt (y := y2) b2
  obtain ⟨z3, rfl, i3⟩ := openInt (y := y3) b3
  obtain ⟨z4, rfl, i4⟩ := openInt (y := y4) b4
  obtain ⟨z5, rfl, i5⟩ := openInt (y := y5) b5
  exact ⟨⟨z0, z1, z2, z3, z4, z5⟩, ⟨i0, i1, i2, i3, i4, i5⟩, rfl⟩

theorem openPkts {fuel : Nat} {cs : List Value} {x : DataW H × List MemPlace} (h : DataW.trod enc Try.prog W base sp held fuel 30 cs = some x) :
    ∃ (a : Option Addr) (len cap : Nat) (f : Nat → Pk), cs = [.slice a len cap] ∧ len ≤ cap ∧ cap ≤ maxLen ∧ PR W.heap.size W a len f ∧ ∀ i, i < len → (f i).In := by
  rcases Go.Deep.open_slice Try.underlying30 h with ⟨rfl, _⟩ | ⟨a, len, cap, m, n, D, Pl, rfl, hb, hl, hm, hmm, _, hx⟩
  · exact ⟨none, 0, 0, fun _ => default, rfl, Nat.le_refl _, Nat.zero_le _, .inl rfl, fun i hi => absurd hi (Nat.not_lt_zero _)⟩
  · have hlm : len ≤ m := by rw [hmm]; split <;> omega
    have each : ∀ i, i < len → ∃ r : Pk, r.In ∧ (∀ t, t < 6 → W.cell? ((a.add (i * 6)).add t) = some (.int .i64 (r.nth t))) := by
      intro i hi
      obtain ⟨cs', h1, h2⟩ := hx i (by omega)
      rw [cellsPkt] at h1
      obtain ⟨_, hlen, hcell⟩ := World.cells?_some h1
      obtain ⟨r, hr, rfl⟩ := openPkt h2
      refine ⟨r, hr, fun t ht => ?_⟩
      have := hcell t (by omega)
      rw [this]
      have hc : t = 0 ∨ t = 1 ∨ t = 2 ∨ t = 3 ∨ t = 4 ∨ t = 5 := by omega
      rcases hc with rfl | rfl | rfl | rfl | rfl | rfl <;> rfl
    obtain ⟨f, hf⟩ := Go.Deep.choose_lt each
    refine ⟨some a, len, cap, f, rfl, hl, hm, ?_, fun i hi => (hf i hi).1⟩
    by_cases h0 : len = 0
    · exact .inl h0
    · obtain ⟨b, off, inner⟩ := a
      have hc0 := (hf 0 (by omega)).2 0 (by omega)
      have hin : inner = none := by simpa [Addr.add] using World.cell?_spot hc0
      subst hin
      refine .inr ⟨b, off, rfl, World.block_lt_of_cell? W _ hc0, fun i hi => ?_⟩
      have hh : ∀ t, t < 6 → W.cell? ⟨b, off + i * 6 + t, none⟩ = some (.int .i64 ((f i).nth t)) := fun t ht => by
        have := (hf i hi).2 t ht
        rw [Go.WideShapes.add_plain, Go.WideShapes.add_plain] at this
        exact this
      exact ⟨hh 0 (by omega), hh 1 (by omega), hh 2 (by omega), hh 3 (by omega), hh 4 (by omega), hh 5 (by omega)⟩

theorem openFifo {fuel : Nat} {cs : List Value} {x : DataW H × List MemPlace} (h : DataW.trod enc Try.prog W base sp held fuel 32 cs = some x) :
    ∃ (a : Option Addr) (len cap : Nat) (lim : Int) (f : Nat → Pk), FifoIn W a len cap lim f ∧ cs = [.slice a len cap, .int .i64 lim] := by
  obtain ⟨xs, n, rfl, hx, hl, hxl, hall⟩ := DataW.trod_struct Try.underlying32 h
  rw [cellsFifo] at hl
  match cs, hl with
  | [c0, c1], _ =>
  match xs, hxl with
  | [y0, y1], _ =>
  have b0 : DataW.trod enc Try.prog W base sp held n 30 (([c0, c1].drop 0).take (Try.prog.cellsOf 30)) = some y0 := hall 0 _ rfl
  rw [cellsSlice] at b0
  replace b0 : DataW.trod enc Try.prog W base sp held n 30 [c0] = some y0 := b0
  have b1 : DataW.trod enc Try.prog W base sp held n 3 (([c0, c1].drop 1).take (Try.prog.cellsOf 3)) = some y1 := hall 1 _ rfl
  rw [cellsInt] at b1
  replace b1 : DataW.trod enc Try.prog W base sp held n 3 [c1] = some y1 := b1
  obtain ⟨z, rfl, iz⟩ := openInt (y := y1) b1
  obtain ⟨a, len, cap, f, hs, h1, h2, h3, h4⟩ := openPkts (x := y0) b0
  simp only [List.cons.injEq, and_true] at hs
  subst hs
  exact ⟨a, len, cap, z, f, ⟨iz, h1, h2, h3, h4⟩, rfl⟩

end

set_option maxRecDepth 100000 in
theorem lifted (os : Os) (started : os.Started) (H : Type) (enc : TypeId × Value → H) :
    ReturnsInHanded {} Try.checked os 6 .any (Rows.fnExactBytesSpec.pre6 enc Try.prog Try.f6 Rows.fnExactBytesRow.domain false) (Rows.fnExactBytesSpec.post enc Try.prog Try.f6 false true false false) := by
  refine returnsInHanded_of_change (C := Try.checked) own started (by kernel_rfl) Try.func6
    (ChangeSpec.witness6 (enc := enc) (C := Try.checked) false ⟨#[], #[.agg #[.slice none 0 0, .int .i64 0]], []⟩ 8 (by kernel_rfl) (by kernel_rfl) (by kernel_rfl) (by kernel_rfl)) ?_
  intro W base args ds gs before hval0 hW hcnd _
  have hval : ∀ (j : Nat) t v, Try.f6.params[j]? = some t → args[j]? = some v → Value.okWide Try.prog W .any base t v := hval0
  have hW' := hW
  obtain ⟨p, q, hA0, hV, rfl, hfz, hnd⟩ := hW
  have hA : DataW.TrodAll enc Try.prog W 0 (fun _ => true) true Try.f6.params.toList args.toList ds p := hA0
  rw [Try.params6] at hA hval
  obtain ⟨v0, vs0, d0, ds0, p0, q0, hargs, rfl, rfl, h0, tl0⟩ := trodAll_cons hA
  obtain ⟨rfl, rfl, rfl⟩ := trodAll_nil tl0
  obtain rfl : args = #[v0] := by cases args; simp_all
  obtain ⟨rfl, rfl⟩ := trodVars_none hV
  have k0 := h0
  have lt0 : ∀ x ∈ p0, x.block < W.heap.size := by obtain ⟨m, hm⟩ := k0; exact DataW.trod_lt m _ _ _ hm
  obtain ⟨cs0, rfl, hcs0⟩ := okWide_struct Try.underlying32 (hval 0 32 v0 rfl rfl)
  obtain ⟨a0, len0, cap0, lim0, f0, hin0, hrc0⟩ : ∃ (a : Option Addr) (len cap : Nat) (lim : Int) (f : Nat → Pk), FifoIn W a len cap lim f ∧ cs0 = #[.slice a len cap, .int .i64 lim] := by
    obtain ⟨fuel, hf⟩ := h0
    obtain ⟨a, len, cap, lim, f, hin, hcs'⟩ := openFifo hf
    have hc2 : cs0 = (cs0.toList).toArray := by simp
    have hcl : cs0.toList = [.slice a len cap, .int .i64 lim] := by simpa [Value.cells] using hcs'
    rw [hcl] at hc2
    exact ⟨a, len, cap, lim, f, hin, hc2⟩
  subst hrc0
  clear hA0 hval0
  refine (walk a0 len0 cap0 lim0 f0 W hin0).mono fun e W' ⟨he, bel⟩ => ?_
  subst he
  exact ⟨_, rfl, _, _, _, [], _, [], hW', trodAll_mk1 (shut_bool Try.underlying4 _), (trodAll_cons_mk (Below.trod laidOut (by kernel_rfl) (of_decide_eq_true (by kernel_rfl)) k0 bel lt0) trodAll_mk0), rfl, bel.frame _, fun h => by cases h⟩

theorem over : Rows.fnExactBytesRow.holds Try.pinned (OpenSpec.ofChange Rows.fnExactBytesSpec) :=
  OpenClaim.holds_of_wide 6 Try.f6 rfl rfl rfl rfl rfl rfl rfl ⟨rfl, rfl, rfl, rfl, rfl⟩ rfl rfl rfl rfl rfl (by kernel_rfl) Try.func6 (by kernel_rfl)
    (of_decide_eq_true (by kernel_rfl)) (by unfold Func.isWrapper; first | (rw [if_pos (by decide +kernel)]; kernel_rfl) | (rw [if_neg (by decide +kernel)]; exact ⟨rfl, rfl⟩))
    (fun os started H enc _ => lifted os started H enc)

theorem proved : Rows.FnExactBytesSaid := over
end Go.Proofs.Ytgmecbjdiinkiak.fnExactBytes
namespace Go.Proofs.Ytgmecbjdiinkiak
theorem fnExactBytes_holds : Rows.FnExactBytesSaid := fnExactBytes.proved
#print axioms fnExactBytes_holds
end Go.Proofs.Ytgmecbjdiinkiak
