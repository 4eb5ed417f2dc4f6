/-
  Whatever bytes the law FnExactParse is given, it returns true and leaves the bytes as they were: the program's Parse answers as the specification's, in memory of its own; no condition.
-/
import Derived.Test.YtaihddnhkfboaaiRows
import Derived.WalkKit
import Derived.ProofKit
import Derived.OpenShut
import Derived.Test.YtaihddnhkfboaaiSParse
import Derived.ShutString
import Derived.ChangeOld
import Derived.Below
namespace Go.Proofs.Ytaihddnhkfboaai.fnExactParse
open Go.ChangeShapes Go.WideShapes Go.ChangeAt Go.RowKit
open Go.ChangeMaps (open_string shut_string)
set_option linter.unusedVariables false

theorem own : ownKnob Try.prog.godebug = none := by kernel_rfl
theorem laidOut : laidOutB Try.prog = true := by kernel_rfl

/-- A slice of integers that came in. -/
def IsRow (k : IntKind) (w : World) (a : Option Addr) (len cap : Nat) (zs : List Int) : Prop :=
  (a = none ∧ len = 0 ∧ cap = 0 ∧ zs = []) ∨
  ∃ x, a = some x ∧ len ≤ cap ∧ cap ≤ maxLen ∧ zs.length = cap ∧ (∀ i, i < zs.length → w.cell? (x.add i) = some (.int k (zs.getD i 0))) ∧ ∀ n ∈ zs, (Lit.int k n).wf = true

theorem row_of {w : World} {a : Option Addr} {len cap : Nat} {zs : List Int} (h : IsRow .u8 w a len cap zs) : Row .u8 w a len (fun i => zs.getD i 0) ∧ Byt len (fun i => zs.getD i 0) ∧ len ≤ cap := by
  rcases h with ⟨rfl, rfl, rfl, rfl⟩ | ⟨x, rfl, hl, hm, hz, hcell, hwz⟩
  · exact ⟨.inl rfl, fun i hi => absurd hi (Nat.not_lt_zero _), Nat.le_refl _⟩
  · by_cases h0 : len = 0
    · subst h0
      exact ⟨.inl rfl, fun i hi => absurd hi (Nat.not_lt_zero _), hl⟩
    · obtain ⟨b, off, rfl, hc⟩ := ints_at hcell (by omega)
      refine ⟨.inr ⟨b, off, rfl, World.block_lt_of_cell? w _ (hc 0 (by omega)), fun k hk => hc k (by omega)⟩, fun k hk => ?_, hl⟩
      exact bounds_u8 (hwz (zs.getD k 0) (by rw [List.getD_eq_getElem?_getD, List.getElem?_eq_getElem (by omega)]; exact List.getElem_mem _))

set_option maxHeartbeats 4000000 in
theorem walk (a0 : Option Addr) (len0 cap0 : Nat) (z0 : List Int) (w : World) (w0 : IsRow .u8 w a0 len0 cap0 z0) :
    Calls Try.prog 8 #[.slice a0 len0 cap0] w fun e w' => e = .returned (.bool true) ∧ Below w.heap.size w w' := by
  obtain ⟨hr, hf, hcap⟩ := row_of w0
  generalize (fun i => z0.getD i 0) = f at hr hf
  clear w0
  have HR : Hid (Row .u8 w a0 len0 f) := hr
  have HF : Hid (Byt len0 f) := hf
  clear hr hf
  by_cases hbig : 1048576 < (len0 : Int)
  · go_enter Try.func8, Try.ntmps8
    go_wp2
    go_ret
    exact ⟨rfl, Below.refl _ _⟩
  · have hn : len0 ≤ 1048576 := by omega
    have HD : Hid (datN f len0 ≤ 76) := datN_le f len0
    have hd0 : (0 : Int) ≤ (datN f len0 : Int) := by omega
    go_enter Try.func8, Try.ntmps8
    go_wp2_with (go_at_call 14; refine (toByteS_zn a0 len0 cap0 f _ HR.out hn).mono ?_; rintro e w1 ⟨d1, rfl, o1, b1⟩)
    go_wp2_with (go_at_call 27; refine (sparse_all d1 len0 f _ o1.row HF.out hn).mono ?_; rintro e w2 ⟨d2, c2, rfl, o2, b2⟩; dsimp only [Fr.val])
    have s2' := b2.size
    have B2' : Below w.heap.size w w2 := b1.trans (b2.mono b1.size)
    obtain ⟨V2, hV2⟩ : ∃ V, w2.heap.size = V := ⟨_, rfl⟩
    obtain ⟨wa, hA⟩ : ∃ x, w2.alloc (frObj (frR f len0) d2 (datN f len0) c2) = x := ⟨_, rfl⟩
    have g2 : Fv wa V2 (frR f len0) d2 (datN f len0) c2 := by rw [← hA, ← hV2]; exact Fv.alloc _ _ _ _ _
    have b2a : Below w2.heap.size w2 wa := by rw [← hA]; exact (Below.refl _ _).alloc (Nat.le_refl _) _
    have sA : V2 < wa.heap.size := g2.1
    have o2a : Zn w1.heap.size V2 wa d2 (datN f len0) (fun i => f (24 + i)) := by rw [← hV2]; exact o2.below b2a
    have B2 : Below w.heap.size w wa := B2'.trans (b2a.mono B2'.size)
    have L1 : w.heap.size ≤ w1.heap.size := b1.size
    have L2 : w1.heap.size ≤ V2 := by omega
    rw [hA, hV2]
    clear hA o1 o2 b1 b2 b2a B2' s2' hV2
    go_wp2_with (go_at_call 14; refine (toByteS_zn a0 len0 cap0 f _ (Row.below HR.out B2) hn).mono ?_; rintro e w3 ⟨d3, rfl, o3, b3⟩)
    have B3 : Below w.heap.size w w3 := B2.trans (b3.mono B2.size)
    have s3 := b3.size
    have g3 := g2.below b3
    have p3 := o2a.below b3
    clear g2 o2a b3
    go_wp2_with (go_at_call 28; refine (iparse_all d3 len0 len0 f _ o3.row HF.out hn (Nat.le_refl _)).mono ?_; rintro e w4 ⟨d4, c4, rfl, o4, b4⟩; dsimp only [Fr.val]; obtain ⟨v4_0, v4_1, v4_2, v4_3, v4_4, v4_5, v4_6, v4_7, v4_8, v4_9⟩ := (g3.below b4).cells; have ne4 : V2 < w4.heap.size := (g3.below b4).1)
    have s4 := b4.size
    have B4' : Below w.heap.size w w4 := B3.trans (b4.mono B3.size)
    obtain ⟨V4, hV4⟩ : ∃ V, w4.heap.size = V := ⟨_, rfl⟩
    obtain ⟨wb, hA⟩ : ∃ x, w4.alloc (frObj (frR f len0) d4 (datN f len0) c4) = x := ⟨_, rfl⟩
    have gg : Fv wb V4 (frR f len0) d4 (datN f len0) c4 := by rw [← hA, ← hV4]; exact Fv.alloc _ _ _ _ _
    have b4a : Below w4.heap.size w4 wb := by rw [← hA]; exact (Below.refl _ _).alloc (Nat.le_refl _) _
    have sB : V4 < wb.heap.size := gg.1
    have gw := (g3.below b4).below b4a
    have p2 := (p3.below b4).below b4a
    have px := (o3.below b4).below b4a
    have pg : Zn w3.heap.size V4 wb d4 (datN f len0) (fun i => f (24 + i)) := by rw [← hV4]; exact o4.below b4a
    have B4 : Below w.heap.size w wb := B4'.trans (b4a.mono B4'.size)
    have L4 : w3.heap.size ≤ V4 := by omega
    rw [hA, hV4]
    clear hA o3 o4 b4 b4a B4' s4 hV4 g3 p3 v4_0 v4_1 v4_2 v4_3 v4_4 v4_5 v4_6 v4_7 v4_8 v4_9 ne4
    have hdn : datN f len0 ≤ 1048576 := by have := HD.out; omega
    go_wp2_with (go_at_call 21; refine (eqFrame_yes (frR f len0) d4 d2 (datN f len0) c4 c2 _ _ _ pg.row p2.row (fun _ _ => rfl) hdn).mono ?_; rintro e w5 ⟨rfl, k5⟩)
    have B5 : Below w.heap.size w w5 := B4.trans (k5.1.mono B4.size)
    go_wp2_with (go_at_call 14; refine (toByteS_zn a0 len0 cap0 f _ (Row.below HR.out B5) hn).mono ?_; rintro e w6 ⟨d6, rfl, o6, b6⟩)
    have B6 : Below w.heap.size w w6 := B5.trans (b6.mono B5.size)
    have q3 := (px.below k5.1).below b6
    go_wp2_with (go_at_call 16; refine (eqByteS_yes d3 d6 len0 len0 len0 f f _ q3.row o6.row (fun _ _ => rfl) (by omega)).mono ?_; rintro e w7 ⟨rfl, k7⟩)
    have B7 : Below w.heap.size w w7 := B6.trans (k7.1.mono B6.size)
    have b7 : Below wb.heap.size wb w7 := (k5.1.trans (b6.mono k5.1.size)).trans (k7.1.mono (Nat.le_trans k5.1.size b6.size))
    have t7 := b7.size
    have rx := px.below b7
    have r2 := p2.below b7
    have r4 := pg.below b7
    have gw7 := gw.below b7
    have gg7 := gg.below b7
    have hk1 : decide (1 + (len0 : Int) < 0) = false := by simp; omega
    clear p2 px pg q3 o6 k5 k7 b6 gw gg
    go_wp2_with (go_at_call 25; refine (markByteS_zn _ _ d3 len0 len0 f 1 _ rx hn (by omega) (by omega)).mono ?_; rintro e w8 ⟨rfl, o8, c8⟩; obtain ⟨v8_0, v8_1, v8_2, v8_3, v8_4, v8_5, v8_6, v8_7, v8_8, v8_9⟩ := (gw7.chg c8 (.inl sA)).cells; obtain ⟨u8_0, u8_1, u8_2, u8_3, u8_4, u8_5, u8_6, u8_7, u8_8, u8_9⟩ := (gg7.chg c8 (.inr L4)).cells)
    have B8 : Below w.heap.size w w8 := B7.trans ((c8.below (by omega)).mono (by omega))
    have q2 := r2.chg c8 (.inl (by omega))
    have q4 := r4.chg c8 (.inr (Nat.le_refl _))
    have gw8 := gw7.chg c8 (.inl sA)
    have gg8 := gg7.chg c8 (.inr L4)
    have t8 := c8.size
    clear r2 rx r4 o8 c8 gw7 gg7 b7 v8_0 v8_1 v8_2 v8_3 v8_4 v8_5 v8_6 v8_7 v8_8 v8_9 u8_0 u8_1 u8_2 u8_3 u8_4 u8_5 u8_6 u8_7 u8_8 u8_9
    go_wp2_with (go_at_call 21; refine (eqFrame_yes (frR f len0) d4 d2 (datN f len0) c4 c2 _ _ _ q4.row q2.row (fun _ _ => rfl) hdn).mono ?_; rintro e w9 ⟨rfl, k9⟩; obtain ⟨u9_0, u9_1, u9_2, u9_3, u9_4, u9_5, u9_6, u9_7, u9_8, u9_9⟩ := (gg8.below k9.1).cells)
    have t9 := k9.1.size
    have B9 : Below w.heap.size w w9 := B8.trans (k9.1.mono B8.size)
    have gg9 := gg8.below k9.1
    have gw9 := gw8.below k9.1
    have q2' := q2.below k9.1
    have q4' := q4.below k9.1
    clear u9_0 u9_1 u9_2 u9_3 u9_4 u9_5 u9_6 u9_7 u9_8 u9_9 gg8 gw8 q2 q4 k9
    go_wp2_with (go_at_call 24; refine (markFrame_zn _ _ (frR f len0) d4 (datN f len0) c4 _ 1 _ q4' hdn (by omega) (by omega)).mono ?_; rintro e w10 ⟨rfl, o10, c10⟩; obtain ⟨u10_0, u10_1, u10_2, u10_3, u10_4, u10_5, u10_6, u10_7, u10_8, u10_9⟩ := (gg9.chg c10 (.inr (Nat.le_refl _))).cells)
    have t10 := c10.size
    have B10 : Below w.heap.size w w10 := B9.trans ((c10.below (by omega)).mono (by omega))
    have q2'' := q2'.chg c10 (.inl (by omega))
    have gg10 := gg9.chg c10 (.inr (Nat.le_refl _))
    have gw10 := gw9.chg c10 (.inl (by omega))
    have hk2 : decide (1 + (datN f len0 : Int) < 0) = false := by simp; omega
    clear q2' q4' c10 u10_0 u10_1 u10_2 u10_3 u10_4 u10_5 u10_6 u10_7 u10_8 u10_9 gg9 gw9
    go_wp2_with (go_at_call 29; refine (heldFrame_any (frR f len0) d4 (datN f len0) c4 1 _ o10.row hdn (by omega) (by omega)).mono ?_; rintro e w11 ⟨rfl, k11⟩)
    have B11 : Below w.heap.size w w11 := B10.trans (k11.1.mono B10.size)
    go_wp2_with (go_at_call 14; refine (toByteS_zn a0 len0 cap0 f _ (Row.below HR.out B11) hn).mono ?_; rintro e w12 ⟨d12, rfl, o12, b12⟩)
    have B12 : Below w.heap.size w w12 := B11.trans (b12.mono B11.size)
    have gw12 := (gw10.below k11.1).below b12
    go_wp2_with (go_at_call 28; refine (iparse_all d12 len0 len0 f _ o12.row HF.out hn (Nat.le_refl _)).mono ?_; rintro e w13 ⟨d13, c13, rfl, o13, b13⟩; dsimp only [Fr.val]; obtain ⟨v13_0, v13_1, v13_2, v13_3, v13_4, v13_5, v13_6, v13_7, v13_8, v13_9⟩ := (gw12.below b13).cells; have ne13 : V2 < w13.heap.size := (gw12.below b13).1)
    have B13 : Below w.heap.size w w13 := B12.trans (b13.mono B12.size)
    obtain ⟨wc, hA⟩ : ∃ x, w13.alloc (frObj (frR f len0) d13 (datN f len0) c13) = x := ⟨_, rfl⟩
    have b13a : Below w13.heap.size w13 wc := by rw [← hA]; exact (Below.refl _ _).alloc (Nat.le_refl _) _
    have x13 : Below w10.heap.size w10 wc := ((k11.1.trans (b12.mono k11.1.size)).trans (b13.mono (Nat.le_trans k11.1.size b12.size))).trans (b13a.mono (Nat.le_trans (Nat.le_trans k11.1.size b12.size) b13.size))
    have u2 := q2''.below x13
    have u4 := o10.below x13
    have gg13 := gg10.below x13
    have uh := o13.below b13a
    have B13' : Below w.heap.size w wc := B13.trans (b13a.mono B13.size)
    rw [hA]
    clear q2'' o10 k11 b12 b13 o12 o13 gw12 gw10 gg10 hA b13a x13 v13_0 v13_1 v13_2 v13_3 v13_4 v13_5 v13_6 v13_7 v13_8 v13_9 ne13 B13
    go_wp2_with (go_at_call 21; refine (eqFrame_yes (frR f len0) d13 d2 (datN f len0) c13 c2 _ _ _ uh.row u2.row (fun _ _ => rfl) hdn).mono ?_; rintro e w14 ⟨rfl, k14⟩; obtain ⟨u14_0, u14_1, u14_2, u14_3, u14_4, u14_5, u14_6, u14_7, u14_8, u14_9⟩ := (gg13.below k14.1).cells)
    have B14 : Below w.heap.size w w14 := B13'.trans (k14.1.mono B13'.size)
    clear u14_0 u14_1 u14_2 u14_3 u14_4 u14_5 u14_6 u14_7 u14_8 u14_9
    go_wp2_with (go_at_call 29; refine (heldFrame_any (frR f len0) d4 (datN f len0) c4 1 _ (u4.below k14.1).row hdn (by omega) (by omega)).mono ?_; rintro e w15 ⟨rfl, k15⟩)
    go_ret
    exact ⟨rfl, B14.trans (k15.1.mono B14.size)⟩

set_option maxRecDepth 100000 in
theorem lifted (os : Os) (started : os.Started) (H : Type) (enc : TypeId × Value → H) :
    ReturnsInHanded {} Try.checked os 8 .any (Rows.fnExactParseSpec.pre6 enc Try.prog Try.f8 Rows.fnExactParseRow.domain false) (Rows.fnExactParseSpec.post enc Try.prog Try.f8 false true false false) := by
  refine returnsInHanded_of_change (C := Try.checked) own started (by kernel_rfl) Try.func8
    (ChangeSpec.witness6 (enc := enc) (C := Try.checked) false ⟨#[], #[.slice none 0 0], []⟩ 8 (by kernel_rfl) (by kernel_rfl) (by kernel_rfl) (by kernel_rfl)) ?_
  intro W base args ds gs before hval0 hW hcnd _
  have hval : ∀ (j : Nat) t v, Try.f8.params[j]? = some t → args[j]? = some v → Value.okWide Try.prog W .any base t v := hval0
  have hW' := hW
  obtain ⟨p, q, hA0, hV, rfl, hfz, hnd⟩ := hW
  have hA : DataW.TrodAll enc Try.prog W 0 (fun _ => true) true Try.f8.params.toList args.toList ds p := hA0
  rw [Try.params8] at hA hval
  obtain ⟨v0, vs0, d0, ds0, p0, q0, hargs, rfl, rfl, h0, r0⟩ := trodAll_cons hA
  obtain ⟨rfl, rfl, rfl⟩ := trodAll_nil r0
  obtain rfl : args = #[v0] := by cases args; simp_all
  obtain ⟨rfl, rfl⟩ := trodVars_none hV
  obtain ⟨a0, len0, cap0, rfl⟩ := okWide_slice Try.underlying25 (hval 0 25 v0 rfl rfl)
  have k0 := h0
  have lt0 : ∀ x ∈ p0, x.block < W.heap.size := by obtain ⟨m, hm⟩ := k0; exact DataW.trod_lt m _ _ _ hm
  obtain ⟨z0, w0⟩ : ∃ zs, IsRow .u8 W a0 len0 cap0 zs := by
    obtain ⟨fuel, hf⟩ := h0
    rcases open_ints Try.underlying25 Try.underlying5 (by kernel_rfl) hf with ⟨hcs, _⟩ | ⟨x, l, c, zs, hcs, _, hl, hm, hz, _, hcell, hwz⟩
    · simp [Value.cells] at hcs
      obtain ⟨rfl, rfl, rfl⟩ := hcs
      exact ⟨[], .inl ⟨rfl, rfl, rfl, rfl⟩⟩
    · simp [Value.cells] at hcs
      obtain ⟨rfl, rfl, rfl⟩ := hcs
      exact ⟨zs, .inr ⟨_, rfl, hl, hm, by simpa using hz, hcell, hwz⟩⟩
  clear hA0 hval0
  refine (walk a0 len0 cap0 z0 W w0).mono fun e W' ⟨he, bel⟩ => ?_
  subst he
  exact ⟨_, rfl, _, _, _, [], _, [], hW', trodAll_mk1 (shut_bool Try.underlying4 _), (trodAll_cons_mk (Below.trod laidOut (by kernel_rfl) (of_decide_eq_true (by kernel_rfl)) k0 bel lt0) trodAll_mk0), rfl, bel.frame _, fun h => by cases h⟩

theorem over : Rows.fnExactParseRow.holds Try.pinned (OpenSpec.ofChange Rows.fnExactParseSpec) :=
  OpenClaim.holds_of_wide 8 Try.f8 rfl rfl rfl rfl rfl rfl rfl ⟨rfl, rfl, rfl, rfl, rfl⟩ rfl rfl rfl rfl rfl (by kernel_rfl) Try.func8 (by kernel_rfl)
    (of_decide_eq_true (by kernel_rfl)) (by unfold Func.isWrapper; first | (rw [if_pos (by decide +kernel)]; kernel_rfl) | (rw [if_neg (by decide +kernel)]; exact ⟨rfl, rfl⟩))
    (fun os started H enc _ => lifted os started H enc)

theorem proved : Rows.FnExactParseSaid := over
end Go.Proofs.Ytaihddnhkfboaai.fnExactParse
namespace Go.Proofs.Ytaihddnhkfboaai
theorem fnExactParse_holds : Rows.FnExactParseSaid := fnExactParse.proved
#print axioms fnExactParse_holds
end Go.Proofs.Ytaihddnhkfboaai
