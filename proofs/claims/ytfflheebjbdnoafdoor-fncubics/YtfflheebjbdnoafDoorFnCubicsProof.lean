/-
  Whatever bytes the law FnCubics draws its Cubic and its moment from, where the program's two errors lie in their variables, it returns true and leaves the bytes as they were.
-/
import Derived.Test.YtfflheebjbdnoafDoorRows
import Derived.WalkKit
import Derived.ProofKit
import Derived.OpenShut
import Derived.Test.YtfflheebjbdnoafDoorLaidE
import Derived.Test.YtfflheebjbdnoafDoorCubicI
import Derived.Test.YtfflheebjbdnoafDoorDrawCb2
import Derived.Deep.Quiet
import Derived.Deep.QuietTactic
import Derived.BigQuiet
import Derived.Deep.Cut
import Derived.Deep.Slices
import Derived.ShutString
import Derived.ChangeOld
import Derived.Below
namespace Go.Proofs.YtfflheebjbdnoafDoor.fnCubics
open Go.ChangeShapes Go.WideShapes Go.ChangeAt Go.RowKit
open Go.ChangeMaps (open_string shut_string)
set_option linter.unusedVariables false

theorem own : ownKnob Tryd.prog.godebug = none := by kernel_rfl
theorem laidOut : laidOutB Tryd.prog = true := by kernel_rfl
theorem cellsInt : Tryd.prog.cellsOf 3 = 1 := by kernel_rfl

/-- A slice of integers that came in: nil, or each cell holds its number. -/
def IsRow (k : IntKind) (w : World) (a : Option Addr) (len cap : Nat) (zs : List Int) : Prop :=
  (a = none ∧ len = 0 ∧ cap = 0 ∧ zs = []) ∨ ∃ x, a = some x ∧ len ≤ cap ∧ cap ≤ maxLen ∧ zs.length = cap ∧ (∀ i, i < zs.length → w.cell? (x.add i) = some (.int k (zs.getD i 0))) ∧ ∀ n ∈ zs, (Lit.int k n).wf = true

theorem code_of {w : World} {a : Option Addr} {len cap : Nat} {zs : List Int} (h : IsRow .u8 w a len cap zs) : len ≤ 9223372036854775807 ∧ Code w w.heap.size a len := by
  rcases h with ⟨rfl, rfl, rfl, rfl⟩ | ⟨x, rfl, hl, hm, hz, hcell, hwz⟩
  · exact ⟨by omega, .inl rfl⟩
  · unfold maxLen at hm
    refine ⟨by omega, ?_⟩
    by_cases h0 : len = 0
    · exact .inl h0
    · obtain ⟨b, off, rfl, hc⟩ := ints_at hcell (by omega)
      refine .inr ⟨b, off, rfl, World.block_lt_of_cell? w _ (hc 0 (by omega)), fun k hk => ?_⟩
      have hb := bounds_u8 (hwz (zs.getD k 0) (by rw [List.getD_eq_getElem?_getD, List.getElem?_eq_getElem (by omega)]; exact List.getElem_mem _))
      exact ⟨zs.getD k 0, hb.1, hb.2, hc k (by omega)⟩


theorem los_wn (r : Cb) (now : Int) (hg : r.good = true) : r.wn * 7 / 10 ≤ (r.los now).wn ∧ (r.los now).wn ≤ r.wn * 7 / 10 + 1 ∧ 1 ≤ (r.los now).wn ∧ (r.los now).st = now := by
  obtain ⟨g1, g2, g3⟩ := r.good_iff.1 hg
  have k := cmax_bd (r.wn * 7 / 10) 1
  unfold Cb.los Cb.beg
  dsimp only
  omega
theorem fri_0 {v : Int} (h0 : 1 ≤ v) (h1 : v ≤ 1048576) : friF v 0 = v := by
  unfold friF
  rw [if_pos (by omega)]
  have : ((0 : Int) * 9).tdiv 17 = 0 := by decide
  rw [this, Int.zero_tdiv]
  omega
theorem fri_190 : friF 10 190 = 20 := by decide
theorem new_10 : (cbNew 10).orZero = ⟨10, 0, 0, 0, 1048576, false⟩ ∧ (cbNew 10).good = true := ⟨by kernel_rfl, by kernel_rfl⟩


set_option maxRecDepth 100000 in
set_option maxHeartbeats 4000000 in
theorem walk (a0 : Option Addr) (len0 cap0 : Nat) (z0 : List Int) (w : World) (w0 : IsRow .u8 w a0 len0 cap0 z0) (hs : Errs w) :
    Calls Tryd.prog 3 #[.slice a0 len0 cap0] w fun e w' => e = .returned (.bool true) ∧ Below w.heap.size w w' := by
  obtain ⟨hl, hcode⟩ := code_of w0
  clear w0
  have HC : Hid (Code w w.heap.size a0 len0) := hcode
  have HE : Hid (∀ W, Below w.heap.size w W → Errs W) := fun W hb => Errs.below hs hb (Nat.le_refl _)
  clear hcode hs
  go_enter Tryd.func3, Tryd.ntmps3
  go_wp2_with fail
  refine (drawCubicGrow_any a0 len0 cap0 _ hl HC.out).mono ?_
  rintro e w1 ⟨r, now, rfl, hr, ⟨t0, t1⟩, b4⟩
  clear HC
  go_upto_region 2 with fail
  obtain ⟨V, hV⟩ : ∃ V, w1.heap.size = V := ⟨_, rfl⟩
  obtain ⟨wv, hwv⟩ : ∃ y, w1.alloc (.cells (cbCells r) 24) = y := ⟨_, rfl⟩
  have sV' : Sits wv V (cbCells r) 24 := by rw [← hwv]; exact Sits.new' hV
  replace b4 : Below w.heap.size w wv := by rw [← hwv]; exact b4.alloc b4.size _
  rw [hwv, hV]
  clear hwv hV
  obtain ⟨q, hq⟩ : ∃ q, r.grF now = q := ⟨_, rfl⟩
  obtain ⟨ok, hok⟩ : ∃ o, r.grB now = o := ⟨_, rfl⟩
  obtain ⟨p, hp⟩ : ∃ q, r.loF now = q := ⟨_, rfl⟩
  obtain ⟨fine, hfine⟩ : ∃ o, r.loB now = o := ⟨_, rfl⟩
  obtain ⟨v0, v1, v2, v3, v4, v5⟩ := cb_cells sV'
  go_wp2_with fail
  refine (icubicGrow_any r now (by omega) (by omega) _ (HE.out _ b4)).mono ?_
  rintro e w2 ⟨rfl, b2⟩
  rw [hq, hok]
  have sV := sV'.below b2 sV'.lt
  replace b4 := b4.trans (b2.mono b4.size)
  clear b2 sV' v0 v1 v2 v3 v4 v5
  go_upto_region 3 with fail
  obtain ⟨X, hX⟩ : ∃ V, w2.heap.size = V := ⟨_, rfl⟩
  obtain ⟨wx, hwx⟩ : ∃ y, w2.alloc (.cells (cbCells q) 24) = y := ⟨_, rfl⟩
  have sV' : Sits wx V (cbCells r) 24 := by rw [← hwx]; exact sV.alloc _
  have sX' : Sits wx X (cbCells q) 24 := by rw [← hwx]; exact Sits.new' hX
  replace b4 : Below w.heap.size w wx := by rw [← hwx]; exact b4.alloc b4.size _
  rw [hwx, hX]
  clear hwx hX
  clear sV
  obtain ⟨v0, v1, v2, v3, v4, v5⟩ := cb_cells sV'
  go_wp2_with fail
  refine (icubicLoss_any r now (by omega) (by omega) _ (HE.out _ b4)).mono ?_
  rintro e w3 ⟨rfl, b3⟩
  rw [hp, hfine]
  have sV := sV'.below b3 sV'.lt
  have sX := sX'.below b3 sX'.lt
  replace b4 := b4.trans (b3.mono b4.size)
  clear b3 sV' sX' v0 v1 v2 v3 v4 v5 HE
  go_upto_region 4 with fail
  obtain ⟨Y, hY⟩ : ∃ V, w3.heap.size = V := ⟨_, rfl⟩
  obtain ⟨wy, hwy⟩ : ∃ y, w3.alloc (.cells (cbCells p) 24) = y := ⟨_, rfl⟩
  have sV' : Sits wy V (cbCells r) 24 := by rw [← hwy]; exact sV.alloc _
  have sX' : Sits wy X (cbCells q) 24 := by rw [← hwy]; exact sX.alloc _
  have sY' : Sits wy Y (cbCells p) 24 := by rw [← hwy]; exact Sits.new' hY
  replace b4 : Below w.heap.size w wy := by rw [← hwy]; exact b4.alloc b4.size _
  rw [hwy, hY]
  clear hwy hY
  clear sV sX
  go_wp2_with fail
  refine (icubicNew_any 10 _).mono ?_
  rintro e w5 ⟨rfl, b5⟩
  rw [new_10.1, new_10.2]
  have sV := sV'.below b5 sV'.lt
  have sX := sX'.below b5 sX'.lt
  have sY := sY'.below b5 sY'.lt
  replace b4 := b4.trans (b5.mono b4.size)
  clear b5 sV' sX' sY'
  go_upto_region 5 with fail
  obtain ⟨O, hO⟩ : ∃ V, w5.heap.size = V := ⟨_, rfl⟩
  obtain ⟨wo, hwo⟩ : ∃ y, w5.alloc (.cells (cbCells ⟨10, 0, 0, 0, 1048576, false⟩) 24) = y := ⟨_, rfl⟩
  have sV' : Sits wo V (cbCells r) 24 := by rw [← hwo]; exact sV.alloc _
  have sX' : Sits wo X (cbCells q) 24 := by rw [← hwo]; exact sX.alloc _
  have sY' : Sits wo Y (cbCells p) 24 := by rw [← hwo]; exact sY.alloc _
  have sO' : Sits wo O (cbCells ⟨10, 0, 0, 0, 1048576, false⟩) 24 := by rw [← hwo]; exact Sits.new' hO
  replace b4 : Below w.heap.size w wo := by rw [← hwo]; exact b4.alloc b4.size _
  rw [hwo, hO]
  clear hwo hO
  clear sV sX sY
  have HV : Hid (Sits wo V (cbCells r) 24) := sV'
  have HX : Hid (Sits wo X (cbCells q) 24) := sX'
  have HY : Hid (Sits wo Y (cbCells p) 24) := sY'
  have HO : Hid (Sits wo O (cbCells ⟨10, 0, 0, 0, 1048576, false⟩) 24) := sO'
  have lv := sV'.lt
  have lx := sX'.lt
  have ly := sY'.lt
  have lo := sO'.lt
  clear sV' sX' sY' sO'
  obtain ⟨y0, y1, y2, y3, y4, y5⟩ := cb_cells HY.out
  obtain ⟨o0, o1, o2, o3, o4, o5⟩ := cb_cells HO.out
  dsimp only at o0 o1 o2 o3 o4 o5
  cases fine
  case false =>
    have hok0 : ok = false := by rw [← hok]; unfold Cb.grB; rw [hfine]; rfl
    have hp0 : p = Cb.zero := by rw [← hp]; unfold Cb.loF; rw [hfine]; rfl
    clear hq hok hp hfine
    subst hok0 hp0
    dsimp only [Cb.zero] at y0 y1 y2 y3 y4 y5
    go_wp2_with fail
    go_ret
    exact ⟨rfl, b4⟩
  case true =>
  obtain ⟨hg, ht⟩ : r.good = true ∧ r.timeB now = true := by unfold Cb.loB at hfine; simpa using hfine
  obtain ⟨u0, u1, -⟩ := (r.timeB_iff now).1 ht
  have hpl : p = r.los now := by rw [← hp]; unfold Cb.loF; rw [hfine]; rfl
  have hlw := los_wn r now hg
  have hpg := Cb.los_good hg u0 u1
  rw [← hpl] at hlw hpg
  obtain ⟨l1, l2, l3, l4⟩ := hlw
  have n1 : ¬ r.wn * 7 / 10 + 1 < p.wn := by omega
  have n2 : ¬ p.wn < r.wn * 7 / 10 := by omega
  have n3 : ¬ p.wn < 1 := by omega
  have n4 : ¬ 1048576 < p.mx := by obtain ⟨h1, h2, h3, h4, h5⟩ := (Cb.good_iff _).1 hpg; omega
  have n5 : (p.st != now) = false := by simp [l4]
  have HPG : Hid (p.good = true) := hpg
  obtain ⟨g1, g2, g3⟩ := r.good_iff.1 hg
  have e1 : IntKind.i64.wrap ((r.wn * 7).tdiv 10) = r.wn * 7 / 10 := by rw [Int.tdiv_eq_ediv_of_nonneg (by omega)]; exact wrapc (by omega) (by omega)
  have e2 : IntKind.i64.wrap (r.wn * 7) = r.wn * 7 := wrapc (by omega) (by omega)
  have e3 : IntKind.i64.wrap (r.wn * 7 / 10 + 1) = r.wn * 7 / 10 + 1 := wrapc (by omega) (by omega)
  have hk : ok = decide (r.wn < 1048576) := by rw [← hok]; unfold Cb.grB; rw [hfine]; simp
  have hqq : r.wn < 1048576 → q.good = true ∧ r.wn ≤ q.wn ∧ q.wn ≤ r.wn + (r.wn + 1) / 2 := fun hw => by
    have : q = r.grw now := by rw [← hq]; unfold Cb.grF; rw [hok, hk]; simp [hw]
    rw [this]
    exact ⟨Cb.grw_good hg u0 u1 hw, Cb.grw_wn hg hw⟩
  clear hq hok hp hfine hg ht hpl hpg l1 l2 l3 l4 g3
  have AY : Hid (∀ W, Below wo.heap.size wo W → Sits W Y (cbCells p) 24) := fun W h => Sits.below HY.out h ly
  obtain ⟨v0, v1, v2, v3, v4, v5⟩ := cb_cells HV.out
  by_cases hw : r.wn < 1048576
  case neg =>
    have hk0 : ok = false := by rw [hk]; simp; omega
    clear hk hqq
    subst hk0
    go_wp2_with (go_at_call 8; refine (icubicOk_any p _).mono ?_; rintro e w6 ⟨rfl, b6⟩; rw [HPG.out]; replace b4 := b4.trans (b6.mono b4.size); have s6 := Sits.below HV.out b6 lv; have t6 := Sits.below HY.out b6 ly; clear v0 v1 v2 v3 v4 v5 y0 y1 y2 y3 y4 y5; obtain ⟨v0, v1, v2, v3, v4, v5⟩ := cb_cells s6; obtain ⟨y0, y1, y2, y3, y4, y5⟩ := cb_cells t6; clear s6 t6 b6)
    go_ret
    exact ⟨ret_bool (by first | rfl | (simp; done) | (simp; omega)), b4⟩
  case pos =>
    have hk1 : ok = true := by rw [hk]; simp [hw]
    obtain ⟨hgq, m1, m2⟩ := hqq hw
    have HGQ : Hid (q.good = true) := hgq
    have F0 : Hid (friF r.wn 0 = r.wn) := fri_0 g1 g2
    have F1 : Hid (friF 10 190 = 20) := fri_190
    clear hk hqq hgq
    subst hk1
    have e6 : IntKind.i64.wrap ((r.wn + 1).tdiv 2) = (r.wn + 1) / 2 := by rw [Int.tdiv_eq_ediv_of_nonneg (by omega)]; exact wrapc (by omega) (by omega)
    have e7 : IntKind.i64.wrap (r.wn + (r.wn + 1) / 2) = r.wn + (r.wn + 1) / 2 := wrapc (by omega) (by omega)
    have e8 : IntKind.i64.wrap (r.wn + 1) = r.wn + 1 := wrapc (by omega) (by omega)
    have e9 : IntKind.i64.wrap (r.wn + (r.wn + 1) / 2 + 1) = r.wn + (r.wn + 1) / 2 + 1 := wrapc (by omega) (by omega)
    have m3 : q.wn ≤ r.wn + (r.wn + 1) / 2 + 1 := by omega
    go_upto_region 11 with (go_at_call 8; refine (icubicOk_any p _).mono ?_; rintro e w6 ⟨rfl, b6⟩; rw [HPG.out]; replace b4 := b4.trans (b6.mono b4.size); have s6 := Sits.below HV.out b6 lv; have t6 := Sits.below HY.out b6 ly; have u6 := Sits.below HX.out b6 lx; clear v0 v1 v2 v3 v4 v5 y0 y1 y2 y3 y4 y5; obtain ⟨v0, v1, v2, v3, v4, v5⟩ := cb_cells s6; obtain ⟨y0, y1, y2, y3, y4, y5⟩ := cb_cells t6; have HV6 : Hid (Sits w6 V (cbCells r) 24) := s6; have HX6 : Hid (Sits w6 X (cbCells q) 24) := u6; clear s6 t6 u6 b6)
    clear v0 v1 v2 v3 v4 v5 y0 y1 y2 y3 y4 y5 o0 o1 o2 o3 o4 o5
    have lv6 := Sits.lt HV6.out
    have lx6 := Sits.lt HX6.out
    refine wp_region_quiet (C := fun w' => Below w6.heap.size w6 w') (by kernel_rfl) (by kernel_rfl) ((Below.refl _ _).drew) ?_
    simp only []
    repeat (first
      | go_big_quiet_skip
      | (go_big_quiet_want
         unfold Oper.quiet
         apply Exists.intro
         refine ⟨fun w' hw' => ?_, ?_⟩
         (obtain ⟨v0, v1, v2, v3, v4, v5⟩ := cb_cells (Sits.below HV6.out hw' lv6)
          obtain ⟨z0, z1, z2, z3, z4, z5⟩ := cb_cells (Sits.below HX6.out hw' lx6)
          go_simp
          first
            | (go_at_call 8; refine (icubicOk_any q _).mono ?_; rintro e w8 ⟨rfl, hb8⟩; rw [HGQ.out]; exact ⟨rfl, hw'.trans (hb8.mono hw'.size)⟩)
            | (go_at_call 9; refine (ifriendly_any _ _ _).mono ?_; rintro e w8 ⟨rfl, rfl⟩; (first | rw [F0.out] | rw [F1.out]); exact ⟨rfl, hw'⟩)
            | exact rfl)
         simp only [Act.put, List.setIfInBounds_toArray, List.set_cons_zero, List.set_cons_succ]
         go_big_quiet_on))
    refine wpQuiet_nil ?_
    intro w7 hw7
    go_wp2_with fail
    go_ret
    exact ⟨rfl, b4.trans (hw7.mono b4.size)⟩

section
variable {H : Type} {enc : TypeId × Value → H} {W : World} {base : Nat} {sp : Nat → Bool} {held : Bool}

theorem openInt {n : Nat} {c : Value} {y : DataW H × List MemPlace} (h : DataW.trod enc Tryd.prog W base sp held n 3 [c] = some y) : ∃ z : Int, c = .int .i64 z ∧ (-9223372036854775808 ≤ z ∧ z ≤ 9223372036854775807) := by
  obtain ⟨z, h1, _, hw⟩ := DataW.trod_int Tryd.underlying3 h
  simp only [List.cons.injEq, and_true] at h1
  exact ⟨z, h1, bd hw⟩

end

set_option maxRecDepth 100000 in
theorem lifted (os : Os) (started : os.Started) (H : Type) (enc : TypeId × Value → H) :
    ReturnsInHanded {} Tryd.checked os 3 .any (fun w args => (Rows.fnCubicsSpec.pre enc Tryd.prog Tryd.f3 [] false w args ∧ laidMetH Tryd.prog Rows.fnCubicsRow.laid w) ∧ sizedMet enc Tryd.prog Tryd.f3 (OpenSpec.ofChange Rows.fnCubicsSpec) false w args)
      (Rows.fnCubicsSpec.post enc Tryd.prog Tryd.f3 false true false false) := by
  refine returnsInHanded_of_change_and (C := Tryd.checked) (X := fun w _ => laidMetH Tryd.prog Rows.fnCubicsRow.laid w) (fun _ _ _ hh h => h.of_heap hh) own started (by kernel_rfl) Tryd.func3
    (ChangeSpec.witness_shaped (enc := enc) (C := Tryd.checked) (os := os) (X := fun w _ => laidMetH Tryd.prog Rows.fnCubicsRow.laid w) false (World.doorLaid Tryd.prog 400 os) #[.slice none 0 0] 8 rfl (World.shaped_of_RefB (by kernel_rfl) (by kernel_rfl)) (by kernel_rfl) (by kernel_rfl) (by kernel_rfl) (door_met os _)) ?_
  intro W base args ds gs before hval0 hW _ _ hL _
  have hval : ∀ (j : Nat) t v, Tryd.f3.params[j]? = some t → args[j]? = some v → Value.okWide Tryd.prog W .any base t v := hval0
  have hW' := hW
  obtain ⟨p, q, hA0, hV0, rfl, hfz, hnd⟩ := hW
  have hA : DataW.TrodAll enc Tryd.prog W 0 (fun _ => true) true Tryd.f3.params.toList args.toList ds p := hA0
  have hV : DataW.TrodVars enc Tryd.prog W (fun _ => true) ["loop.example/g00453/impl.errNoStep", "loop.example/g00453/impl.errNoRoom"] gs q := hV0
  have hV1 := hV
  rw [Tryd.params3] at hA hval
  obtain ⟨v0, vs0, d0, ds0, p0, q0, hargs, rfl, rfl, h0, tl0⟩ := trodAll_cons hA
  obtain ⟨rfl, rfl, rfl⟩ := trodAll_nil tl0
  obtain rfl : args = #[v0] := by cases args; simp_all
  obtain ⟨gg0, tt0, gcs0, gf0, gd0, gp0, gg1, tt1, gcs1, gf1, gd1, gp1, rfl, _⟩ := trodVars_two hV1
  have k0 := h0
  have lt0 : ∀ x ∈ p0, x.block < W.heap.size := by obtain ⟨m, hm⟩ := k0; exact DataW.trod_lt m _ _ _ hm
  obtain ⟨a0, len0, cap0, rfl⟩ := okWide_slice Tryd.underlying22 (hval 0 22 v0 rfl rfl)
  obtain ⟨z0, hin0⟩ : ∃ zs, IsRow .u8 W a0 len0 cap0 zs := by
    obtain ⟨fuel, hf⟩ := h0
    rcases open_ints Tryd.underlying22 Tryd.underlying5 (by kernel_rfl) hf with ⟨hcs, _⟩ | ⟨x, l, c, zs, hcs, _, hl, hm, hz, _, hcell, hwz⟩
    · simp [Value.cells] at hcs
      obtain ⟨rfl, rfl, rfl⟩ := hcs
      exact ⟨[], .inl ⟨rfl, rfl, rfl, rfl⟩⟩
    · simp [Value.cells] at hcs
      obtain ⟨rfl, rfl, rfl⟩ := hcs
      exact ⟨zs, .inr ⟨_, rfl, hl, hm, by simpa using hz, hcell, hwz⟩⟩
  clear hA0 hV0 hval0
  refine (walk a0 len0 cap0 z0 W hin0 (errs_of hL)).mono fun e W' ⟨he, bel⟩ => ?_
  subst he
  exact ⟨_, rfl, _, _, _, [], _, _, hW', trodAll_mk1 (shut_bool Tryd.underlying4 _), (trodAll_cons_mk (Below.trod laidOut (by kernel_rfl) (of_decide_eq_true (by kernel_rfl)) k0 bel lt0) trodAll_mk0), Below.trodVars laidOut bel (by kernel_rfl) hV, bel.frame _, fun h => by cases h⟩

theorem over : Rows.FnCubicsSaid :=
  OpenClaim.holds_of_wide 3 Tryd.f3 rfl rfl rfl rfl rfl rfl rfl ⟨rfl, rfl, rfl, rfl, rfl⟩ rfl rfl rfl rfl rfl (by kernel_rfl) Tryd.func3 (by kernel_rfl)
    (of_decide_eq_true (by kernel_rfl)) (by unfold Func.isWrapper; first | (rw [if_pos (by decide +kernel)]; kernel_rfl) | (rw [if_neg (by decide +kernel)]; exact ⟨rfl, rfl⟩))
    (fun os started H enc _ => lifted os started H enc)

theorem plain (f : FuncId) (fn : Func) (hf : Tryd.pinned.checked.prog.funcNamed "loop.example/g00453/laws.FnCubics" = some f) (hfn : Tryd.pinned.checked.prog.funcs[f]? = some fn) :
    true = Tryd.pinned.checked.prog.looks [] ∧ ∀ (j : Nat) t, fn.params[j]? = some t → Tryd.pinned.checked.prog.wantsStandIn t = false := by
  obtain rfl : f = 3 := Option.some.inj ((show Tryd.prog.funcNamed "loop.example/g00453/laws.FnCubics" = some 3 by kernel_rfl).symm.trans hf) |>.symm
  obtain rfl : fn = Tryd.f3 := (Option.some.inj (Tryd.func3.symm.trans hfn)).symm
  refine ⟨by kernel_rfl, fun j t ht => ?_⟩
  rw [Tryd.params3] at ht
  have hm := Array.mem_of_getElem? ht
  have hall : (Tryd.f3.params.toList.all fun u => !Tryd.prog.wantsStandIn u) = true := by kernel_rfl
  rw [Tryd.params3] at hall
  exact (show Tryd.prog.wantsStandIn t = false by simpa using List.all_eq_true.1 hall t (by simpa using hm))

theorem proved : Rows.FnCubicsCardSaid :=
  Claim7.holds_tied_plain_at .later [] _ _ _ _ over (fun _ h => by cases h) (by kernel_rfl) (fun _ h => by cases h) fnCubics_row_tie rfl ⟨rfl, rfl⟩ (by kernel_rfl) rfl plain (by kernel_rfl)
end Go.Proofs.YtfflheebjbdnoafDoor.fnCubics
namespace Go.Proofs.YtfflheebjbdnoafDoor
theorem fnCubics_holds : Rows.FnCubicsCardSaid := fnCubics.proved
#print axioms fnCubics_holds
end Go.Proofs.YtfflheebjbdnoafDoor
