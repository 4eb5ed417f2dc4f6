/-
  Whatever bytes the law FnRtts draws its Rtt and its sample from, it returns true and leaves the bytes as they were.
-/
import Derived.Test.YthdlpgehojdhkafRows
import Derived.WalkKit
import Derived.ProofKit
import Derived.OpenShut
import Derived.Deep.Cut
import Derived.Test.YthdlpgehojdhkafQCalm
import Derived.Test.YthdlpgehojdhkafDrawRt
import Derived.Test.YthdlpgehojdhkafRttI
import Derived.ShutString
import Derived.ChangeOld
import Derived.Below
namespace Go.Proofs.Ythdlpgehojdhkaf.fnRtts
open Go.ChangeShapes Go.WideShapes Go.ChangeAt Go.RowKit
open Go.ChangeMaps (open_string shut_string)
set_option linter.unusedVariables false

theorem own : ownKnob Try.prog.godebug = none := by kernel_rfl
theorem laidOut : laidOutB Try.prog = true := by kernel_rfl

/-- A slice of integers that came in. -/
def IsRow (k : IntKind) (w : World) (a : Option Addr) (len cap : Nat) (zs : List Int) : Prop :=
  (a = none ∧ len = 0 ∧ cap = 0 ∧ zs = []) ∨
  ∃ x, a = some x ∧ len ≤ cap ∧ cap ≤ maxLen ∧ zs.length = cap ∧ (∀ i, i < zs.length → w.cell? (x.add i) = some (.int k (zs.getD i 0))) ∧ ∀ n ∈ zs, (Lit.int k n).wf = true

theorem code_of {w : World} {a : Option Addr} {len cap : Nat} {zs : List Int} (h : IsRow .u8 w a len cap zs) : len ≤ 9223372036854775807 ∧ Code w w.heap.size a len := by
  rcases h with ⟨rfl, rfl, rfl, rfl⟩ | ⟨x, rfl, hl, hm, hz, hcell, hwz⟩
  · exact ⟨by omega, .inl rfl⟩
  · unfold maxLen at hm
    refine ⟨by omega, ?_⟩
    by_cases h0 : len = 0
    · exact .inl h0
    · obtain ⟨b, off, rfl, hc⟩ := ints_at hcell (by omega)
      refine .inr ⟨b, off, rfl, World.block_lt_of_cell? w _ (hc 0 (by omega)), fun k hk => ?_⟩
      have hb := bounds_u8 (hwz (zs.getD k 0) (by rw [List.getD_eq_getElem?_getD, List.getElem?_eq_getElem (by omega)]; exact List.getElem_mem _))
      exact ⟨zs.getD k 0, hb.1, hb.2, hc k (by omega)⟩


theorem nxt_mean (r : Rt) (us : Int) (hg : r.good = true) (h0 : 0 ≤ us) (h1 : us ≤ 60000000) : (r.nxt us).hs = true ∧ 0 ≤ (r.nxt us).mn ∧ (r.nxt us).mn ≤ 60000000 ∧ 1000000 ≤ (r.nxt us).ro ∧ (r.nxt us).ro ≤ 60000000 ∧ ((r.nxt us).mn ≤ (r.nxt us).ro ∨ (r.nxt us).ro = 60000000) ∧ (r.hs = false → (r.nxt us).mn = us) ∧ (r.hs = true → r.mn ≤ us → r.mn ≤ (r.nxt us).mn ∧ (r.nxt us).mn ≤ us) ∧ (r.hs = true → us < r.mn → us ≤ (r.nxt us).mn ∧ (r.nxt us).mn ≤ r.mn) := by
  obtain ⟨h, a, b, c, d⟩ := Rt.smp_bd hg h0 h1
  have k := rtoF_bd (r.smp us).mn (r.smp us).vr
  unfold Rt.nxt
  dsimp only
  refine ⟨h, a, b, k.1, k.2.1, k.2.2, fun e => ?_, fun e l => ?_, fun e l => ?_⟩
  · unfold Rt.smp; rw [e]; rfl
  · have : (r.smp us).mn = r.mn + (us - r.mn) / 8 := by unfold Rt.smp; rw [e]; rfl
    omega
  · have : (r.smp us).mn = r.mn + (us - r.mn) / 8 := by unfold Rt.smp; rw [e]; rfl
    omega
theorem new_well : (Rt.mk false 0 0 1000000).good = true := by decide

set_option maxRecDepth 100000 in
set_option maxHeartbeats 20000000 in
theorem walk (a0 : Option Addr) (len0 cap0 : Nat) (z0 : List Int) (w : World) (w0 : IsRow .u8 w a0 len0 cap0 z0) :
    Calls Try.prog 3 #[.slice a0 len0 cap0] w fun e w' => e = .returned (.bool true) ∧ Below w.heap.size w w' := by
  obtain ⟨hl, hcode⟩ := code_of w0
  clear w0
  have HC : Hid (Code w w.heap.size a0 len0) := hcode
  clear hcode
  go_enter Try.func3, Try.ntmps3
  go_wp2_with fail
  refine (drawRttSample_any a0 len0 cap0 _ hl HC.out).mono ?_
  rintro e w1 ⟨r, us, rfl, hr, ⟨t0, t1⟩, b4⟩
  clear HC
  go_upto_region 2 with fail
  obtain ⟨V, hV⟩ : ∃ V, w1.heap.size = V := ⟨_, rfl⟩
  obtain ⟨wv, hwv⟩ : ∃ y, w1.alloc (.cells (rtCells r) 24) = y := ⟨_, rfl⟩
  have sV' : Sits wv V (rtCells r) 24 := by rw [← hwv]; exact Sits.new' hV
  replace b4 : Below w.heap.size w wv := by rw [← hwv]; exact b4.alloc b4.size _
  rw [hwv, hV]
  clear hwv hV
  obtain ⟨q, hq⟩ : ∃ q, r.smF us = q := ⟨_, rfl⟩
  obtain ⟨ok, hok⟩ : ∃ o, r.smB us = o := ⟨_, rfl⟩
  obtain ⟨v0, v1, v2, v3⟩ := rt_cells sV'
  go_wp2_with fail
  refine (irttSample_any r us _).mono ?_
  rintro e w2 ⟨rfl, b2⟩
  rw [hq, hok]
  have sV := sV'.below b2 sV'.lt
  replace b4 := b4.trans (b2.mono b4.size)
  clear b2 sV' v0 v1 v2 v3
  go_upto_region 3 with fail
  obtain ⟨X, hX⟩ : ∃ V, w2.heap.size = V := ⟨_, rfl⟩
  obtain ⟨wx, hwx⟩ : ∃ y, w2.alloc (.cells (rtCells q) 24) = y := ⟨_, rfl⟩
  have sV' : Sits wx V (rtCells r) 24 := by rw [← hwx]; exact sV.alloc _
  have sX' : Sits wx X (rtCells q) 24 := by rw [← hwx]; exact Sits.new' hX
  replace b4 : Below w.heap.size w wx := by rw [← hwx]; exact b4.alloc b4.size _
  rw [hwx, hX]
  clear hwx hX
  clear sV
  go_wp2_with fail
  refine (irttNew_any _).mono ?_
  rintro e w5 ⟨rfl, b5⟩
  have sV := sV'.below b5 sV'.lt
  have sX := sX'.below b5 sX'.lt
  replace b4 := b4.trans (b5.mono b4.size)
  clear b5 sV' sX'
  go_upto_region 4 with fail
  obtain ⟨O, hO⟩ : ∃ V, w5.heap.size = V := ⟨_, rfl⟩
  obtain ⟨wo, hwo⟩ : ∃ y, w5.alloc (.cells (rtCells (Rt.mk false 0 0 1000000)) 24) = y := ⟨_, rfl⟩
  have sV' : Sits wo V (rtCells r) 24 := by rw [← hwo]; exact sV.alloc _
  have sX' : Sits wo X (rtCells q) 24 := by rw [← hwo]; exact sX.alloc _
  have sO' : Sits wo O (rtCells (Rt.mk false 0 0 1000000)) 24 := by rw [← hwo]; exact Sits.new' hO
  replace b4 : Below w.heap.size w wo := by rw [← hwo]; exact b4.alloc b4.size _
  rw [hwo, hO]
  clear hwo hO
  clear sV sX
  have HV : Hid (Sits wo V (rtCells r) 24) := sV'
  have HX : Hid (Sits wo X (rtCells q) 24) := sX'
  have HO : Hid (Sits wo O (rtCells (Rt.mk false 0 0 1000000)) 24) := sO'
  have lv := sV'.lt
  have lx := sX'.lt
  have lo := sO'.lt
  clear sV' sX' sO'
  obtain ⟨y0, y1, y2, y3⟩ := rt_cells HX.out
  obtain ⟨o0, o1, o2, o3⟩ := rt_cells HO.out
  dsimp only at o0 o1 o2 o3
  cases ok
  case false =>
    have hq0 : q = Rt.zero := by rw [← hq]; unfold Rt.smF; rw [hok]; rfl
    clear hq hok
    subst hq0
    dsimp only [Rt.zero] at y0 y1 y2 y3
    have NW : Hid ((Rt.mk false 0 0 1000000).good = true) := new_well
    go_wp2_with (go_at_call 7; refine (irttOk_any (Rt.mk false 0 0 1000000) _).mono ?_; rintro e w6 ⟨rfl, b6⟩; rw [NW.out]; replace b4 := b4.trans (b6.mono b4.size))
    go_ret
    exact ⟨rfl, b4⟩
  case true =>
  have hgb : r.good = true ∧ (0 ≤ us ∧ us ≤ 60000000) := by unfold Rt.smB at hok; simpa [inB] using hok
  obtain ⟨hg, u0, u1⟩ := hgb
  have hqe : q = r.nxt us := by rw [← hq]; unfold Rt.smF; rw [hok]; rfl
  have hqg : q.good = true := by rw [hqe]; exact Rt.nxt_good hg u0 u1
  obtain ⟨m0, m1, m2, m3, m4, m5, m6, m7, m8⟩ := nxt_mean r us hg u0 u1
  rw [← hqe] at m0 m1 m2 m3 m4 m5 m6 m7 m8
  have HQG : Hid (q.good = true) := hqg
  have HB1 : Hid (q.baF = q.bak) := by show q.baF = _; unfold Rt.baF; rw [hqg]; rfl
  obtain ⟨B, hB⟩ : ∃ B, mnF (2 * q.ro) 60000000 = B := ⟨_, rfl⟩
  have hbk : q.bak = Rt.mk q.hs q.mn q.vr B := by unfold Rt.bak; rw [hB]
  have kB := mnF_bd (2 * q.ro) 60000000
  rw [hB] at kB
  obtain ⟨kb0, kb1, kb2⟩ := kB
  have kb3 : q.ro ≤ B := by omega
  have HBK : Hid (q.bak = Rt.mk q.hs q.mn q.vr B) := hbk
  have HM0 : Hid (q.hs = true) := m0
  have HOK : Hid (∀ W, Calls Try.prog 7 #[(Rt.mk true q.mn q.vr q.ro).val] W fun e w' => e = .returned (.bool true) ∧ Below W.heap.size W w') := fun W => by
    have hqe : Rt.mk true q.mn q.vr q.ro = q := by rw [← m0]
    have h := irttOk_any q W
    rw [hqg] at h
    rw [hqe]
    exact h
  clear hq hok hqe hqg hbk hB m0
  have w2r : IntKind.i64.wrap (2 * q.ro) = 2 * q.ro := wrapr (by omega) (by omega)
  have hcs : (q.mn ≤ q.ro) ∨ (decide (q.mn ≤ q.ro) = false ∧ (q.ro == 60000000) = true) := by
    rcases m5 with h | h
    · exact .inl h
    · by_cases h2 : q.mn ≤ q.ro
      · exact .inl h2
      · exact .inr ⟨by simpa using h2, by simp [h]⟩
  have hb2 : ((B == 2 * q.ro) = true) ∨ ((B == 2 * q.ro) = false ∧ (B == 60000000) = true) := by
    by_cases h : B = 2 * q.ro
    · exact .inl (by simp [h])
    · exact .inr ⟨by simp [h], by simp; omega⟩
  clear m5 kb2
  obtain ⟨v0, v1, v2, v3⟩ := rt_cells HV.out
  have HL0 : Hid (∀ l1 : Int, ((r.hs = false ∧ l1 = us) ∨ (r.hs = true ∧ l1 = r.mn)) → ((l1 ≤ us → l1 ≤ q.mn ∧ q.mn ≤ us) ∧ (us < l1 → us ≤ q.mn ∧ q.mn ≤ l1))) := by
    rintro l1 (⟨h, rfl⟩ | ⟨h, rfl⟩)
    · have := m6 h
      omega
    · exact ⟨fun k => m7 h k, fun k => m8 h k⟩
  clear m6 m7 m8 hg hr
  clear y0 y1 y2 y3 o0 o1 o2 o3
  go_upto_if 43 with fail
  go_cut [8] from 12 (fun s8 wz => wo = wz ∧ ∃ l1 : Int, s8 = .int .i64 l1 ∧ Hid ((l1 ≤ us → l1 ≤ q.mn ∧ q.mn ≤ us) ∧ (us < l1 → us ≤ q.mn ∧ q.mn ≤ l1)))
  case first =>
    cases hh : r.hs
    all_goals
      go_wp2_with fail
      go_meet
      case rel => exact ⟨rfl, _, rfl, HL0.out _ (by first | exact .inl ⟨hh, rfl⟩ | exact .inr ⟨hh, rfl⟩)⟩
  case rest =>
  obtain ⟨hwc, l1, rfl, HL⟩ := hcut
  subst hwc
  clear HL0
  go_upto_if 47 with fail
  go_cut [8, 9] from 12 (fun s8 s9 wz => wo = wz ∧ ∃ l h : Int, s8 = .int .i64 l ∧ s9 = .int .i64 h ∧ l ≤ q.mn ∧ q.mn ≤ h)
  case first =>
    by_cases hlt : us < l1
    · go_wp2_with fail
      go_meet
      case rel => exact ⟨rfl, _, _, rfl, rfl, (HL.out.2 hlt).1, (HL.out.2 hlt).2⟩
    · go_wp2_with fail
      go_meet
      case rel => exact ⟨rfl, _, _, rfl, rfl, (HL.out.1 (by omega)).1, (HL.out.1 (by omega)).2⟩
  case rest =>
    obtain ⟨hwc, l, h, rfl, rfl, l0, l1⟩ := hcut
    subst hwc
    obtain ⟨y0, y1, y2, y3⟩ := rt_cells HX.out
    go_upto_region 11 with fail
    go_upto_region 12 with (go_at_call 8; refine (irttBackoff_any q _).mono ?_; rintro e w6 ⟨rfl, b6⟩; rw [HB1.out, HQG.out, HBK.out]; replace b4 := b4.trans (b6.mono b4.size); have s6 := Sits.below HX.out b6 lx; have o6 := Sits.below HO.out b6 lo; clear y0 y1 y2 y3; have HX6 : Hid (Sits w6 X (rtCells q) 24) := s6; have HO6 : Hid (Sits w6 O (rtCells (Rt.mk false 0 0 1000000)) 24) := o6; clear s6 o6 b6)
    obtain ⟨R, hR⟩ : ∃ V, w6.heap.size = V := ⟨_, rfl⟩
    obtain ⟨wz, hwz⟩ : ∃ y, w6.alloc (.cells (rtCells (Rt.mk q.hs q.mn q.vr B)) 24) = y := ⟨_, rfl⟩
    have xz : Sits wz X (rtCells q) 24 := by rw [← hwz]; exact Sits.alloc HX6.out _
    have oz : Sits wz O (rtCells (Rt.mk false 0 0 1000000)) 24 := by rw [← hwz]; exact Sits.alloc HO6.out _
    have rz : Sits wz R (rtCells (Rt.mk q.hs q.mn q.vr B)) 24 := by rw [← hwz]; exact Sits.new' hR
    replace b4 : Below w.heap.size w wz := by rw [← hwz]; exact b4.alloc b4.size _
    rw [hwz, hR]
    have HX7 : Hid (Sits wz X (rtCells q) 24) := xz
    have HO7 : Hid (Sits wz O (rtCells (Rt.mk false 0 0 1000000)) 24) := oz
    have HR7 : Hid (Sits wz R (rtCells (Rt.mk q.hs q.mn q.vr B)) 24) := rz
    have lx7 := xz.lt
    have lo7 := oz.lt
    have lr7 := rz.lt
    clear hwz hR xz oz rz HX6 HO6 HX HO HV
    rcases hcs with hcs | ⟨hcs, hce⟩
    all_goals
      rcases hb2 with hb2 | ⟨hb2, hb3⟩
      all_goals
        refine wp_region_calm (C := fun w' => Below wz.heap.size wz w') (Below.refl _ _) ?_
        (try simp only [List.append_eq, List.cons_append, List.nil_append])
        repeat (first
          | go_big_quiet_skip
          | (go_big_quiet_want
             unfold Oper.quiet
             apply Exists.intro
             refine ⟨fun w' hw' => ?_, ?_⟩
             (obtain ⟨y0, y1, y2, y3⟩ := rt_cells (Sits.below HX7.out hw' lx7)
              obtain ⟨o0, o1, o2, o3⟩ := rt_cells (Sits.below HO7.out hw' lo7)
              obtain ⟨r0, r1, r2, r3⟩ := rt_cells (Sits.below HR7.out hw' lr7)
              rw [HM0.out] at y0
              dsimp only at o0 o1 o2 o3 r0 r1 r2 r3
              go_simp
              first
                | (go_at_call 7; refine (HOK.out _).mono ?_; rintro e w8 ⟨rfl, hb8⟩; exact ⟨rfl, hw'.trans (hb8.mono hw'.size)⟩)
                | exact rfl)
             simp only [Act.put, List.setIfInBounds_toArray, List.set_cons_zero, List.set_cons_succ]
             go_big_quiet_on))
        refine wpQuiet_nil ?_
        intro w7 hw7
        go_wp2_with fail
        go_ret
        exact ⟨by first | rfl | (simp; done) | (simp; omega), b4.trans (hw7.mono b4.size)⟩

set_option maxRecDepth 100000 in
theorem lifted (os : Os) (started : os.Started) (H : Type) (enc : TypeId × Value → H) :
    ReturnsInHanded {} Try.checked os 3 .any (Rows.fnRttsSpec.pre6 enc Try.prog Try.f3 Rows.fnRttsRow.domain false) (Rows.fnRttsSpec.post enc Try.prog Try.f3 false true false false) := by
  refine returnsInHanded_of_change (C := Try.checked) own started (by kernel_rfl) Try.func3
    (ChangeSpec.witness6 (enc := enc) (C := Try.checked) false ⟨#[], #[.slice none 0 0], []⟩ 8 (by kernel_rfl) (by kernel_rfl) (by kernel_rfl) (by kernel_rfl)) ?_
  intro W base args ds gs before hval0 hW hcnd _
  have hval : ∀ (j : Nat) t v, Try.f3.params[j]? = some t → args[j]? = some v → Value.okWide Try.prog W .any base t v := hval0
  have hW' := hW
  obtain ⟨p, q, hA0, hV, rfl, hfz, hnd⟩ := hW
  have hA : DataW.TrodAll enc Try.prog W 0 (fun _ => true) true Try.f3.params.toList args.toList ds p := hA0
  rw [Try.params3] at hA hval
  obtain ⟨v0, vs0, d0, ds0, p0, q0, hargs, rfl, rfl, h0, r0⟩ := trodAll_cons hA
  obtain ⟨rfl, rfl, rfl⟩ := trodAll_nil r0
  obtain rfl : args = #[v0] := by cases args; simp_all
  obtain ⟨rfl, rfl⟩ := trodVars_none hV
  obtain ⟨a0, len0, cap0, rfl⟩ := okWide_slice Try.underlying22 (hval 0 22 v0 rfl rfl)
  have k0 := h0
  have lt0 : ∀ x ∈ p0, x.block < W.heap.size := by obtain ⟨m, hm⟩ := k0; exact DataW.trod_lt m _ _ _ hm
  obtain ⟨z0, w0⟩ : ∃ zs, IsRow .u8 W a0 len0 cap0 zs := by
    obtain ⟨fuel, hf⟩ := h0
    rcases open_ints Try.underlying22 Try.underlying5 (by kernel_rfl) hf with ⟨hcs, _⟩ | ⟨x, l, c, zs, hcs, _, hl, hm, hz, _, hcell, hwz⟩
    · simp [Value.cells] at hcs
      obtain ⟨rfl, rfl, rfl⟩ := hcs
      exact ⟨[], .inl ⟨rfl, rfl, rfl, rfl⟩⟩
    · simp [Value.cells] at hcs
      obtain ⟨rfl, rfl, rfl⟩ := hcs
      exact ⟨zs, .inr ⟨_, rfl, hl, hm, by simpa using hz, hcell, hwz⟩⟩
  clear hA0 hval0
  refine (walk a0 len0 cap0 z0 W w0).mono fun e W' ⟨he, bel⟩ => ?_
  subst he
  exact ⟨_, rfl, _, _, _, [], _, [], hW', trodAll_mk1 (shut_bool Try.underlying4 _), (trodAll_cons_mk (Below.trod laidOut (by kernel_rfl) (of_decide_eq_true (by kernel_rfl)) k0 bel lt0) trodAll_mk0), rfl, bel.frame _, fun h => by cases h⟩

theorem over : Rows.fnRttsRow.holds Try.pinned (OpenSpec.ofChange Rows.fnRttsSpec) :=
  OpenClaim.holds_of_wide 3 Try.f3 rfl rfl rfl rfl rfl rfl rfl ⟨rfl, rfl, rfl, rfl, rfl⟩ rfl rfl rfl rfl rfl (by kernel_rfl) Try.func3 (by kernel_rfl)
    (of_decide_eq_true (by kernel_rfl)) (by unfold Func.isWrapper; first | (rw [if_pos (by decide +kernel)]; kernel_rfl) | (rw [if_neg (by decide +kernel)]; exact ⟨rfl, rfl⟩))
    (fun os started H enc _ => lifted os started H enc)

theorem proved : Rows.FnRttsSaid := over
end Go.Proofs.Ythdlpgehojdhkaf.fnRtts
namespace Go.Proofs.Ythdlpgehojdhkaf
theorem fnRtts_holds : Rows.FnRttsSaid := fnRtts.proved
#print axioms fnRtts_holds
end Go.Proofs.Ythdlpgehojdhkaf
