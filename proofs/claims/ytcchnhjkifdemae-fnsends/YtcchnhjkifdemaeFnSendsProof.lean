/-
  Whatever bytes the law FnSends draws its senders and numbers from, it returns true and leaves the bytes as they were; no condition.
-/
import Derived.Test.YtcchnhjkifdemaeRows
import Derived.WalkKit
import Derived.ProofKit
import Derived.OpenShut
import Derived.Test.YtcchnhjkifdemaeSenders
import Derived.Test.YtcchnhjkifdemaeDrawSd
import Derived.ShutString
import Derived.ChangeOld
import Derived.Below
namespace Go.Proofs.Ytcchnhjkifdemae.fnSends
open Go.ChangeShapes Go.WideShapes Go.ChangeAt Go.RowKit
open Go.ChangeMaps (open_string shut_string)
set_option linter.unusedVariables false

theorem own : ownKnob Try.prog.godebug = none := by kernel_rfl
theorem laidOut : laidOutB Try.prog = true := by kernel_rfl

/-- A slice of integers that came in. -/
def IsRow (k : IntKind) (w : World) (a : Option Addr) (len cap : Nat) (zs : List Int) : Prop :=
  (a = none ∧ len = 0 ∧ cap = 0 ∧ zs = []) ∨
  ∃ x, a = some x ∧ len ≤ cap ∧ cap ≤ maxLen ∧ zs.length = cap ∧ (∀ i, i < zs.length → w.cell? (x.add i) = some (.int k (zs.getD i 0))) ∧ ∀ n ∈ zs, (Lit.int k n).wf = true

theorem code_of {w : World} {a : Option Addr} {len cap : Nat} {zs : List Int} (h : IsRow .u8 w a len cap zs) : len ≤ 9223372036854775807 ∧ Code w w.heap.size a len := by
  rcases h with ⟨rfl, rfl, rfl, rfl⟩ | ⟨x, rfl, hl, hm, hz, hcell, hwz⟩
  · exact ⟨by omega, .inl rfl⟩
  · unfold maxLen at hm
    refine ⟨by omega, ?_⟩
    by_cases h0 : len = 0
    · exact .inl h0
    · obtain ⟨b, off, rfl, hc⟩ := ints_at hcell (by omega)
      refine .inr ⟨b, off, rfl, World.block_lt_of_cell? w _ (hc 0 (by omega)), fun k hk => ?_⟩
      have hb := bounds_u8 (hwz (zs.getD k 0) (by rw [List.getD_eq_getElem?_getD, List.getElem?_eq_getElem (by omega)]; exact List.getElem_mem _))
      exact ⟨zs.getD k 0, hb.1, hb.2, hc k (by omega)⟩


theorem Code.later {w W : World} {a : Option Addr} {len : Nat} (h : Code w w.heap.size a len) (hb : Below w.heap.size w W) : Code W W.heap.size a len := by
  rcases h with h | ⟨b, off, ha, hlt, hk⟩
  · exact .inl h
  · refine .inr ⟨b, off, ha, Nat.lt_of_lt_of_le hlt hb.size, fun k hk' => ?_⟩
    obtain ⟨v, v0, v1, hv⟩ := hk k hk'
    exact ⟨v, v0, v1, (hb.cell (p := ⟨b, off + k, none⟩) (by show b < _; exact hlt)).trans hv⟩
theorem zero_fl : (if Rn.zero.good then Rn.zero.fl else 0) = 0 := by rw [rn_zero_bad]; rfl

set_option maxHeartbeats 4000000 in
theorem walk (a0 : Option Addr) (len0 cap0 : Nat) (z0 : List Int) (w : World) (w0 : IsRow .u8 w a0 len0 cap0 z0) :
    Calls Try.prog 5 #[.slice a0 len0 cap0] w fun e w' => e = .returned (.bool true) ∧ Below w.heap.size w w' := by
  obtain ⟨hl, hcode⟩ := code_of w0
  clear w0
  have HC : Hid (Code w w.heap.size a0 len0) := hcode
  clear hcode
  go_enter Try.func5, Try.ntmps5
  go_wp2_with fail
  refine (drawMaySend_any a0 len0 cap0 _ hl HC.out).mono ?_
  rintro e w1 ⟨r, win, rfl, hr, hwin, b1⟩
  unfold in64 at hwin
  go_upto_region 2 with fail
  obtain ⟨V, hV⟩ : ∃ V, w1.heap.size = V := ⟨_, rfl⟩
  obtain ⟨wv, hwv⟩ : ∃ x, w1.alloc (.cells (rnCells r) 24) = x := ⟨_, rfl⟩
  have HV : Hid (Sits wv V (rnCells r) 24) := by rw [← hwv]; exact Sits.new' hV
  have b4 : Below w.heap.size w wv := by rw [← hwv]; exact b1.alloc b1.size _
  rw [hwv, hV]
  clear hwv hV b1
  obtain ⟨v0, v1, v2, v3, v4, v5, v6, v7, v8, v9⟩ := rn_cells HV.out
  obtain ⟨n, hn⟩ : ∃ n, mayF r win = n := ⟨_, rfl⟩
  go_upto_region 3 with (go_at_call 13; refine (imaySend_any r win _).mono ?_; rintro e w2 ⟨rfl, b2⟩; rw [hn])
  have HV2 : Hid (Sits w2 V (rnCells r) 24) := Sits.below HV.out b2 (Sits.lt HV.out)
  replace b4 := b4.trans (b2.mono b4.size)
  clear HV b2 v0 v1 v2 v3 v4 v5 v6 v7 v8 v9
  obtain ⟨v0, v1, v2, v3, v4, v5, v6, v7, v8, v9⟩ := rn_cells HV2.out
  have lv := Sits.lt HV2.out
  cases hg : r.good
  case false =>
    have hn0 : n = 0 := by rw [← hn]; unfold mayF; simp [hg]
    subst hn0
    clear hn
    go_wp2_with (first | (go_at_call 9; refine (srenoOk_any r _).mono ?_; rintro e w5 ⟨rfl, b5⟩; rw [hg]; replace b4 := b4.trans (b5.mono b4.size); clear b5) | (go_at_call 14; refine (iflight_any Rn.zero _).mono ?_; rintro e w6 ⟨rfl, b6⟩; rw [zero_fl]; replace b4 := b4.trans (b6.mono b4.size); clear b6) | (go_at_call 10; refine (senders_any _).mono ?_; rintro e w7 ⟨rfl, b7⟩; replace b4 := b4.trans (b7.mono b4.size); clear b7))
    go_ret
    exact ⟨rfl, b4⟩
  case true =>
  by_cases hw : win < 0
  · have hn0 : n = 0 := by rw [← hn]; unfold mayF; rw [if_neg (by omega)]
    subst hn0
    clear hn
    go_wp2_with (first | (go_at_call 9; refine (srenoOk_any r _).mono ?_; rintro e w5 ⟨rfl, b5⟩; rw [hg]; replace b4 := b4.trans (b5.mono b4.size); clear b5) | (go_at_call 14; refine (iflight_any Rn.zero _).mono ?_; rintro e w6 ⟨rfl, b6⟩; rw [zero_fl]; replace b4 := b4.trans (b6.mono b4.size); clear b6) | (go_at_call 10; refine (senders_any _).mono ?_; rintro e w7 ⟨rfl, b7⟩; replace b4 := b4.trans (b7.mono b4.size); clear b7))
    go_ret
    exact ⟨rfl, b4⟩
  obtain ⟨f, hfe⟩ : ∃ f, r.fl = f := ⟨_, rfl⟩
  have hfit := good_fit hg
  unfold Rn.fit at hfit
  have hfb : 0 ≤ f ∧ f ≤ 1000000000000 := by rw [← hfe]; unfold Rn.fl; omega
  have hfd : r.nx - r.una = f := hfe
  have hnb : 0 ≤ n ∧ (n = 0 ∨ (f + n ≤ r.cw ∧ f + n ≤ win)) ∧ n ≤ 100000000 := by
    rw [← hn]; unfold mayF; rw [if_pos ⟨hg, by omega⟩, hfe]; (repeat' split) <;> omega
  have hcs : (¬ n < 0 ∧ ¬ 0 < n) ∨ (¬ n < 0 ∧ 0 < n ∧ ¬ r.cw < f + n ∧ ¬ win < f + n) := by omega
  have hne : (f != f) = false := by simp
  clear hn
  go_upto_region 6 with (first | (go_at_call 9; refine (srenoOk_any r _).mono ?_; rintro e w5 ⟨rfl, b5⟩; rw [hg]; replace b4 := b4.trans (b5.mono b4.size); have s5 := Sits.below HV2.out b5 lv; clear v0 v1 v2 v3 v4 v5 v6 v7 v8 v9 HV2 lv; obtain ⟨v0, v1, v2, v3, v4, v5, v6, v7, v8, v9⟩ := rn_cells s5; have HV2 : Hid (Sits w5 V (rnCells r) 24) := s5; have lv := s5.lt; clear s5 b5) | (go_at_call 14; refine (iflight_any r _).mono ?_; rintro e w6 ⟨rfl, b6⟩; rw [hg, if_pos rfl, hfe]; replace b4 := b4.trans (b6.mono b4.size); have s6 := Sits.below HV2.out b6 lv; clear v0 v1 v2 v3 v4 v5 v6 v7 v8 v9; obtain ⟨v0, v1, v2, v3, v4, v5, v6, v7, v8, v9⟩ := rn_cells s6; clear s6 b6))
  rcases hcs with ⟨k1, k2⟩ | ⟨k1, k2, k3, k4⟩
  all_goals
    go_upto_region 8 with fail
    clear hnb k1 k2 hne v0 v1 v2 v3 v4 v5 v6 v7 v8 v9 HV2 lv
    go_wp2_with fail
    refine (drawSent_any a0 len0 cap0 _ hl (Code.later HC.out b4)).mono ?_
    rintro e w7 ⟨s, b, rfl, hs, hb, b7⟩
    unfold in64 at hb
    replace b4 := b4.trans (b7.mono b4.size)
    clear b7 HC
    go_upto_region 9 with fail
    obtain ⟨Y, hY⟩ : ∃ V, w7.heap.size = V := ⟨_, rfl⟩
    obtain ⟨wy, hwy⟩ : ∃ x, w7.alloc (.cells (rnCells s) 24) = x := ⟨_, rfl⟩
    have HY : Hid (Sits wy Y (rnCells s) 24) := by rw [← hwy]; exact Sits.new' hY
    replace b4 : Below w.heap.size w wy := by rw [← hwy]; exact b4.alloc b4.size _
    rw [hwy, hY]
    clear hwy hY
    obtain ⟨v0, v1, v2, v3, v4, v5, v6, v7, v8, v9⟩ := rn_cells HY.out
    obtain ⟨q, hq⟩ : ∃ q, s.sentF b = q := ⟨_, rfl⟩
    obtain ⟨ok, hok⟩ : ∃ o, s.sentB b = o := ⟨_, rfl⟩
    go_wp2_with fail
    refine (isent_any s b hb.1 hb.2 _).mono ?_
    rintro e w8 ⟨rfl, b8⟩
    rw [hq, hok]
    have s8 := Sits.below HY.out b8 (Sits.lt HY.out)
    replace b4 := b4.trans (b8.mono b4.size)
    clear b8 HY v0 v1 v2 v3 v4 v5 v6 v7 v8 v9
    go_upto_region 10 with fail
    obtain ⟨X, hX⟩ : ∃ V, w8.heap.size = V := ⟨_, rfl⟩
    obtain ⟨wx, hwx⟩ : ∃ x, w8.alloc (.cells (rnCells q) 24) = x := ⟨_, rfl⟩
    have HY : Hid (Sits wx Y (rnCells s) 24) := by rw [← hwx]; exact s8.alloc _
    have HX : Hid (Sits wx X (rnCells q) 24) := by rw [← hwx]; exact Sits.new' hX
    replace b4 : Below w.heap.size w wx := by rw [← hwx]; exact b4.alloc b4.size _
    rw [hwx, hX]
    clear hwx hX s8
    have ly := Sits.lt HY.out
    have lx := Sits.lt HX.out
    cases ok
    case false =>
      have hq0 : q = Rn.zero := by rw [← hq]; unfold Rn.sentF; simp [hok]
      subst hq0
      obtain ⟨q0, q1, q2, q3, q4, q5, q6, q7, q8, q9⟩ := rn_cells HX.out
      dsimp only [Rn.zero] at q0 q1 q2 q3 q4 q5 q6 q7 q8 q9
      clear hq hok
      go_wp2_with (first | (go_at_call 10; refine (senders_any _).mono ?_; rintro e w9 ⟨rfl, b9⟩; replace b4 := b4.trans (b9.mono b4.size); clear b9))
      go_ret
      exact ⟨rfl, b4⟩
    case true =>
      have hgq : q.good = true := by rw [← hq]; exact sent_good hok
      obtain ⟨hgs, j1, j2, j3, j4⟩ := (s.sentB_iff b).1 hok
      have hqv : q = (Rn.mk s.mss s.cw s.th s.ac s.una (s.nx + b) s.du s.rc s.inn s.cut) := by rw [← hq]; unfold Rn.sentF; rw [if_pos hok]
      have hfs := good_fit hgs
      unfold Rn.fit at hfs
      obtain ⟨g, hge⟩ : ∃ f, s.fl = f := ⟨_, rfl⟩
      have hgb : 0 ≤ g ∧ g ≤ 1000000000000 := by rw [← hge]; unfold Rn.fl; omega
      have hqf : Rn.fl (Rn.mk s.mss s.cw s.th s.ac s.una (s.nx + b) s.du s.rc s.inn s.cut) = g + b := by rw [← hge]; unfold Rn.fl; dsimp only; omega
      rw [hge] at j4
      have m1 : 1 ≤ b := j1
      have m2 : b ≤ s.mss := j2
      have m3 : g + b ≤ s.cw := by omega
      have e1 : IntKind.i64.wrap (g + b) = g + b := wrap_id (by omega) (by omega)
      have e2 : (g + b == g + b) = true := by simp
      have HGS : Hid (s.good = true) := hgs
      clear hq hok j3 j4 hgs
      subst hqv
      have HGQ : Hid (Rn.good (Rn.mk s.mss s.cw s.th s.ac s.una (s.nx + b) s.du s.rc s.inn s.cut) = true) := hgq
      clear hgq
      go_upto_region 12 with fail
      refine wp_region_quiet (C := fun w' => Below wx.heap.size wx w') (by kernel_rfl) (by kernel_rfl) ((Below.refl _ _).drew) ?_
      simp only []
      repeat (first
        | go_big_quiet_skip
        | (go_big_quiet_want
           unfold Oper.quiet
           apply Exists.intro
           refine ⟨fun w' hw' => ?_, ?_⟩
           (obtain ⟨v0, v1, v2, v3, v4, v5, v6, v7, v8, v9⟩ := rn_cells (Sits.below HY.out hw' ly)
            obtain ⟨q0, q1, q2, q3, q4, q5, q6, q7, q8, q9⟩ := rn_cells (Sits.below HX.out hw' lx)
            (try dsimp only at q0 q1 q2 q3 q4 q5 q6 q7 q8 q9)
            go_simp
            first
              | (go_at_call 11; refine (irenoOk_any (Rn.mk s.mss s.cw s.th s.ac s.una (s.nx + b) s.du s.rc s.inn s.cut) _).mono ?_; rintro e w10 ⟨rfl, hb8⟩; rw [HGQ.out]; exact ⟨rfl, hw'.trans (hb8.mono hw'.size)⟩)
              | (go_at_call 14; with_reducible refine (iflight_any (Rn.mk s.mss s.cw s.th s.ac s.una (s.nx + b) s.du s.rc s.inn s.cut) _).mono ?_; rintro e w10 ⟨rfl, hb8⟩; rw [if_pos HGQ.out, hqf]; exact ⟨rfl, hw'.trans (hb8.mono hw'.size)⟩)
              | (go_at_call 14; with_reducible refine (iflight_any s _).mono ?_; rintro e w10 ⟨rfl, hb8⟩; rw [if_pos HGS.out, hge]; exact ⟨rfl, hw'.trans (hb8.mono hw'.size)⟩)
              | (go_at_call 10; refine (senders_any _).mono ?_; rintro e w10 ⟨rfl, hb8⟩; exact ⟨rfl, hw'.trans (hb8.mono hw'.size)⟩)
              | exact rfl)
           simp only [Act.put, List.setIfInBounds_toArray, List.set_cons_zero, List.set_cons_succ]
           go_big_quiet_on))
      refine wpQuiet_nil ?_
      intro w9 hw9
      go_wp2_with fail
      go_ret
      exact ⟨rfl, b4.trans (hw9.mono b4.size)⟩

set_option maxRecDepth 100000 in
theorem lifted (os : Os) (started : os.Started) (H : Type) (enc : TypeId × Value → H) :
    ReturnsInHanded {} Try.checked os 5 .any (Rows.fnSendsSpec.pre6 enc Try.prog Try.f5 Rows.fnSendsRow.domain false) (Rows.fnSendsSpec.post enc Try.prog Try.f5 false true false false) := by
  refine returnsInHanded_of_change (C := Try.checked) own started (by kernel_rfl) Try.func5
    (ChangeSpec.witness6 (enc := enc) (C := Try.checked) false ⟨#[], #[.slice none 0 0], []⟩ 8 (by kernel_rfl) (by kernel_rfl) (by kernel_rfl) (by kernel_rfl)) ?_
  intro W base args ds gs before hval0 hW hcnd _
  have hval : ∀ (j : Nat) t v, Try.f5.params[j]? = some t → args[j]? = some v → Value.okWide Try.prog W .any base t v := hval0
  have hW' := hW
  obtain ⟨p, q, hA0, hV, rfl, hfz, hnd⟩ := hW
  have hA : DataW.TrodAll enc Try.prog W 0 (fun _ => true) true Try.f5.params.toList args.toList ds p := hA0
  rw [Try.params5] at hA hval
  obtain ⟨v0, vs0, d0, ds0, p0, q0, hargs, rfl, rfl, h0, r0⟩ := trodAll_cons hA
  obtain ⟨rfl, rfl, rfl⟩ := trodAll_nil r0
  obtain rfl : args = #[v0] := by cases args; simp_all
  obtain ⟨rfl, rfl⟩ := trodVars_none hV
  obtain ⟨a0, len0, cap0, rfl⟩ := okWide_slice Try.underlying22 (hval 0 22 v0 rfl rfl)
  have k0 := h0
  have lt0 : ∀ x ∈ p0, x.block < W.heap.size := by obtain ⟨m, hm⟩ := k0; exact DataW.trod_lt m _ _ _ hm
  obtain ⟨z0, w0⟩ : ∃ zs, IsRow .u8 W a0 len0 cap0 zs := by
    obtain ⟨fuel, hf⟩ := h0
    rcases open_ints Try.underlying22 Try.underlying5 (by kernel_rfl) hf with ⟨hcs, _⟩ | ⟨x, l, c, zs, hcs, _, hl, hm, hz, _, hcell, hwz⟩
    · simp [Value.cells] at hcs
      obtain ⟨rfl, rfl, rfl⟩ := hcs
      exact ⟨[], .inl ⟨rfl, rfl, rfl, rfl⟩⟩
    · simp [Value.cells] at hcs
      obtain ⟨rfl, rfl, rfl⟩ := hcs
      exact ⟨zs, .inr ⟨_, rfl, hl, hm, by simpa using hz, hcell, hwz⟩⟩
  clear hA0 hval0
  refine (walk a0 len0 cap0 z0 W w0).mono fun e W' ⟨he, bel⟩ => ?_
  subst he
  exact ⟨_, rfl, _, _, _, [], _, [], hW', trodAll_mk1 (shut_bool Try.underlying4 _), (trodAll_cons_mk (Below.trod laidOut (by kernel_rfl) (of_decide_eq_true (by kernel_rfl)) k0 bel lt0) trodAll_mk0), rfl, bel.frame _, fun h => by cases h⟩

theorem over : Rows.fnSendsRow.holds Try.pinned (OpenSpec.ofChange Rows.fnSendsSpec) :=
  OpenClaim.holds_of_wide 5 Try.f5 rfl rfl rfl rfl rfl rfl rfl ⟨rfl, rfl, rfl, rfl, rfl⟩ rfl rfl rfl rfl rfl (by kernel_rfl) Try.func5 (by kernel_rfl)
    (of_decide_eq_true (by kernel_rfl)) (by unfold Func.isWrapper; first | (rw [if_pos (by decide +kernel)]; kernel_rfl) | (rw [if_neg (by decide +kernel)]; exact ⟨rfl, rfl⟩))
    (fun os started H enc _ => lifted os started H enc)

theorem proved : Rows.FnSendsSaid := over
end Go.Proofs.Ytcchnhjkifdemae.fnSends
namespace Go.Proofs.Ytcchnhjkifdemae
theorem fnSends_holds : Rows.FnSendsSaid := fnSends.proved
#print axioms fnSends_holds
end Go.Proofs.Ytcchnhjkifdemae
