/-
  Whatever bytes the law FnTimeouts draws its sender from, it returns true and leaves the bytes as they were; no condition.
-/
import Derived.Test.YtcchnhjkifdemaeRows
import Derived.WalkKit
import Derived.ProofKit
import Derived.OpenShut
import Derived.Test.YtcchnhjkifdemaeSenders
import Derived.Test.YtcchnhjkifdemaeBentRn
import Derived.ShutString
import Derived.ChangeOld
import Derived.Below
namespace Go.Proofs.Ytcchnhjkifdemae.fnTimeouts
open Go.ChangeShapes Go.WideShapes Go.ChangeAt Go.RowKit
open Go.ChangeMaps (open_string shut_string)
set_option linter.unusedVariables false

theorem own : ownKnob Try.prog.godebug = none := by kernel_rfl
theorem laidOut : laidOutB Try.prog = true := by kernel_rfl

/-- A slice of integers that came in. -/
def IsRow (k : IntKind) (w : World) (a : Option Addr) (len cap : Nat) (zs : List Int) : Prop :=
  (a = none ∧ len = 0 ∧ cap = 0 ∧ zs = []) ∨
  ∃ x, a = some x ∧ len ≤ cap ∧ cap ≤ maxLen ∧ zs.length = cap ∧ (∀ i, i < zs.length → w.cell? (x.add i) = some (.int k (zs.getD i 0))) ∧ ∀ n ∈ zs, (Lit.int k n).wf = true

theorem code_of {w : World} {a : Option Addr} {len cap : Nat} {zs : List Int} (h : IsRow .u8 w a len cap zs) : len ≤ 9223372036854775807 ∧ Code w w.heap.size a len := by
  rcases h with ⟨rfl, rfl, rfl, rfl⟩ | ⟨x, rfl, hl, hm, hz, hcell, hwz⟩
  · exact ⟨by omega, .inl rfl⟩
  · unfold maxLen at hm
    refine ⟨by omega, ?_⟩
    by_cases h0 : len = 0
    · exact .inl h0
    · obtain ⟨b, off, rfl, hc⟩ := ints_at hcell (by omega)
      refine .inr ⟨b, off, rfl, World.block_lt_of_cell? w _ (hc 0 (by omega)), fun k hk => ?_⟩
      have hb := bounds_u8 (hwz (zs.getD k 0) (by rw [List.getD_eq_getElem?_getD, List.getElem?_eq_getElem (by omega)]; exact List.getElem_mem _))
      exact ⟨zs.getD k 0, hb.1, hb.2, hc k (by omega)⟩


set_option maxHeartbeats 4000000 in
theorem walk (a0 : Option Addr) (len0 cap0 : Nat) (z0 : List Int) (w : World) (w0 : IsRow .u8 w a0 len0 cap0 z0) :
    Calls Try.prog 6 #[.slice a0 len0 cap0] w fun e w' => e = .returned (.bool true) ∧ Below w.heap.size w w' := by
  obtain ⟨hl, hcode⟩ := code_of w0
  clear w0
  have HC : Hid (Code w w.heap.size a0 len0) := hcode
  clear hcode
  go_enter Try.func6, Try.ntmps6
  go_wp2_with (go_at_call 17; refine (drawTimedOut_any a0 len0 cap0 _ hl HC.out).mono ?_; rintro e w1 ⟨r, rfl, hr, b1⟩)
  obtain ⟨V, hV⟩ : ∃ V, w1.heap.size = V := ⟨_, rfl⟩
  obtain ⟨wv, hwv⟩ : ∃ x, w1.alloc (.cells (rnCells r) 24) = x := ⟨_, rfl⟩
  have s1 : Sits wv V (rnCells r) 24 := by rw [← hwv]; exact Sits.new' hV
  have b2 : Below w.heap.size w wv := by rw [← hwv]; exact b1.alloc b1.size _
  rw [hwv, hV]
  clear hwv hV b1 HC
  obtain ⟨q, hq⟩ : ∃ q, r.outF = q := ⟨_, rfl⟩
  obtain ⟨ok, hok⟩ : ∃ o, r.outB = o := ⟨_, rfl⟩
  refine (itimedOut_any r _).mono ?_
  rintro e w2 ⟨rfl, b3⟩
  rw [hq, hok]
  have s2 := s1.below b3 s1.lt
  replace b2 := b2.trans (b3.mono b2.size)
  clear b3 s1
  go_upto_region 3 with fail
  obtain ⟨X, hX⟩ : ∃ X, w2.heap.size = X := ⟨_, rfl⟩
  obtain ⟨wx, hwx⟩ : ∃ x, w2.alloc (.cells (rnCells q) 24) = x := ⟨_, rfl⟩
  have HV : Hid (Sits wx V (rnCells r) 24) := by rw [← hwx]; exact s2.alloc _
  have HX : Hid (Sits wx X (rnCells q) 24) := by rw [← hwx]; exact Sits.new' hX
  have b4 : Below w.heap.size w wx := by rw [← hwx]; exact b2.alloc b2.size _
  rw [hwx, hX]
  clear hwx hX b2 s2
  have lv := Sits.lt HV.out
  have lx := Sits.lt HX.out
  cases ok
  case false =>
    have hq0 : q = Rn.zero := by rw [← hq]; unfold Rn.outF; simp [hok]
    subst hq0
    obtain ⟨v0, v1, v2, v3, v4, v5, v6, v7, v8, v9⟩ := rn_cells HV.out
    obtain ⟨q0, q1, q2, q3, q4, q5, q6, q7, q8, q9⟩ := rn_cells HX.out
    dsimp only [Rn.zero] at q0 q1 q2 q3 q4 q5 q6 q7 q8 q9
    have hcs : r.good = false ∨ (r.good = true ∧ (r.nx == r.una) = true) := by
      cases hg : r.good
      · exact .inl rfl
      · refine .inr ⟨rfl, ?_⟩
        obtain ⟨g1, g2, g3, g4, g5, g6, g7, g8, g9, g10, g11, g12, g13, g14, g15, g16, g17, g18⟩ := r.good_iff.1 hg
        have : ¬ 0 < r.nx - r.una := by unfold Rn.outB Rn.fl at hok; simpa [hg] using hok
        simp; omega
    clear hq hok
    rcases hcs with hg | ⟨hg, hz⟩
    all_goals
      go_wp2_with (first | (go_at_call 9; refine (srenoOk_any r _).mono ?_; rintro e w5 ⟨rfl, b5⟩; rw [hg]; replace b4 := b4.trans (b5.mono b4.size); have s5 := Sits.below HV.out b5 lv; clear v0 v1 v2 v3 v4 v5 v6 v7 v8 v9; obtain ⟨v0, v1, v2, v3, v4, v5, v6, v7, v8, v9⟩ := rn_cells s5; clear s5 b5) | (go_at_call 10; refine (senders_any _).mono ?_; rintro e w6 ⟨rfl, b6⟩; replace b4 := b4.trans (b6.mono b4.size); clear b6))
      go_ret
      exact ⟨rfl, b4⟩
  case true =>
    have hgq : q.good = true := by rw [← hq]; exact out_good hok
    obtain ⟨hg, hfl⟩ : r.good = true ∧ 0 < r.fl := by unfold Rn.outB at hok; simpa using hok
    have hf := good_fit hg
    have hh := half_bd hf
    obtain ⟨h, hhe⟩ : ∃ h, r.half = h := ⟨_, rfl⟩
    obtain ⟨f, hfe⟩ : ∃ f, r.fl = f := ⟨_, rfl⟩
    obtain ⟨M, hM⟩ : ∃ M, minI r.cut r.una = M := ⟨_, rfl⟩
    have hqv : q = ⟨r.mss, r.mss, h, 0, r.una, r.una, 0, r.una, false, M⟩ := by rw [← hq]; unfold Rn.outF; rw [if_pos hok, hhe]; unfold Rn.anew; rw [hM]
    have hflb : f ≤ 1000000000000 := by rw [← hfe]; unfold Rn.fl; unfold Rn.fit at hf; omega
    unfold Rn.fit at hf
    rw [hhe, hfe] at hh
    rw [hfe] at hfl
    have k1 : 2 * r.mss ≤ h := hh.1
    have k2 : h ≤ f / 2 + 2 * r.mss := by omega
    clear hh hq hok hhe hM
    subst hqv
    have HGQ : Hid (Rn.good ⟨r.mss, r.mss, h, 0, r.una, r.una, 0, r.una, false, M⟩ = true) := hgq
    have HGR : Hid (r.good = true) := hg
    clear hgq hg
    have e1 : IntKind.i64.wrap (2 * r.mss) = 2 * r.mss := wrap_id (by omega) (by omega)
    have e2 : IntKind.i64.wrap (f.tdiv 2) = f / 2 := by rw [Int.tdiv_eq_ediv_of_nonneg (by omega)]; exact wrap_id (by omega) (by omega)
    have e3 : IntKind.i64.wrap (f / 2 + 2 * r.mss) = f / 2 + 2 * r.mss := wrap_id (by omega) (by omega)
    have t1 : (r.mss == r.mss) = true := by simp
    have t2 : (r.una == r.una) = true := by simp
    go_upto_region 5 with fail
    refine wp_region_quiet (C := fun w' => Below wx.heap.size wx w') (by kernel_rfl) (by kernel_rfl) ((Below.refl _ _).drew) ?_
    simp only []
    repeat (first
      | go_big_quiet_skip
      | (go_big_quiet_want
         unfold Oper.quiet
         apply Exists.intro
         refine ⟨fun w' hw' => ?_, ?_⟩
         (obtain ⟨v0, v1, v2, v3, v4, v5, v6, v7, v8, v9⟩ := rn_cells (Sits.below HV.out hw' lv)
          obtain ⟨q0, q1, q2, q3, q4, q5, q6, q7, q8, q9⟩ := rn_cells (Sits.below HX.out hw' lx)
          (try dsimp only at q0 q1 q2 q3 q4 q5 q6 q7 q8 q9)
          go_simp
          first
            | (go_at_call 11; refine (irenoOk_any ⟨r.mss, r.mss, h, 0, r.una, r.una, 0, r.una, false, M⟩ _).mono ?_; rintro e w8 ⟨rfl, hb8⟩; rw [HGQ.out]; exact ⟨rfl, hw'.trans (hb8.mono hw'.size)⟩)
            | (go_at_call 14; refine (iflight_any r _).mono ?_; rintro e w8 ⟨rfl, hb8⟩; rw [if_pos HGR.out, hfe]; exact ⟨rfl, hw'.trans (hb8.mono hw'.size)⟩)
            | (go_at_call 10; refine (senders_any _).mono ?_; rintro e w8 ⟨rfl, hb8⟩; exact ⟨rfl, hw'.trans (hb8.mono hw'.size)⟩)
            | exact rfl)
         simp only [Act.put, List.setIfInBounds_toArray, List.set_cons_zero, List.set_cons_succ]
         go_big_quiet_on))
    refine wpQuiet_nil ?_
    intro w7 hw7
    go_wp2_with fail
    go_ret
    exact ⟨rfl, b4.trans (hw7.mono b4.size)⟩

set_option maxRecDepth 100000 in
theorem lifted (os : Os) (started : os.Started) (H : Type) (enc : TypeId × Value → H) :
    ReturnsInHanded {} Try.checked os 6 .any (Rows.fnTimeoutsSpec.pre6 enc Try.prog Try.f6 Rows.fnTimeoutsRow.domain false) (Rows.fnTimeoutsSpec.post enc Try.prog Try.f6 false true false false) := by
  refine returnsInHanded_of_change (C := Try.checked) own started (by kernel_rfl) Try.func6
    (ChangeSpec.witness6 (enc := enc) (C := Try.checked) false ⟨#[], #[.slice none 0 0], []⟩ 8 (by kernel_rfl) (by kernel_rfl) (by kernel_rfl) (by kernel_rfl)) ?_
  intro W base args ds gs before hval0 hW hcnd _
  have hval : ∀ (j : Nat) t v, Try.f6.params[j]? = some t → args[j]? = some v → Value.okWide Try.prog W .any base t v := hval0
  have hW' := hW
  obtain ⟨p, q, hA0, hV, rfl, hfz, hnd⟩ := hW
  have hA : DataW.TrodAll enc Try.prog W 0 (fun _ => true) true Try.f6.params.toList args.toList ds p := hA0
  rw [Try.params6] at hA hval
  obtain ⟨v0, vs0, d0, ds0, p0, q0, hargs, rfl, rfl, h0, r0⟩ := trodAll_cons hA
  obtain ⟨rfl, rfl, rfl⟩ := trodAll_nil r0
  obtain rfl : args = #[v0] := by cases args; simp_all
  obtain ⟨rfl, rfl⟩ := trodVars_none hV
  obtain ⟨a0, len0, cap0, rfl⟩ := okWide_slice Try.underlying22 (hval 0 22 v0 rfl rfl)
  have k0 := h0
  have lt0 : ∀ x ∈ p0, x.block < W.heap.size := by obtain ⟨m, hm⟩ := k0; exact DataW.trod_lt m _ _ _ hm
  obtain ⟨z0, w0⟩ : ∃ zs, IsRow .u8 W a0 len0 cap0 zs := by
    obtain ⟨fuel, hf⟩ := h0
    rcases open_ints Try.underlying22 Try.underlying5 (by kernel_rfl) hf with ⟨hcs, _⟩ | ⟨x, l, c, zs, hcs, _, hl, hm, hz, _, hcell, hwz⟩
    · simp [Value.cells] at hcs
      obtain ⟨rfl, rfl, rfl⟩ := hcs
      exact ⟨[], .inl ⟨rfl, rfl, rfl, rfl⟩⟩
    · simp [Value.cells] at hcs
      obtain ⟨rfl, rfl, rfl⟩ := hcs
      exact ⟨zs, .inr ⟨_, rfl, hl, hm, by simpa using hz, hcell, hwz⟩⟩
  clear hA0 hval0
  refine (walk a0 len0 cap0 z0 W w0).mono fun e W' ⟨he, bel⟩ => ?_
  subst he
  exact ⟨_, rfl, _, _, _, [], _, [], hW', trodAll_mk1 (shut_bool Try.underlying4 _), (trodAll_cons_mk (Below.trod laidOut (by kernel_rfl) (of_decide_eq_true (by kernel_rfl)) k0 bel lt0) trodAll_mk0), rfl, bel.frame _, fun h => by cases h⟩

theorem over : Rows.fnTimeoutsRow.holds Try.pinned (OpenSpec.ofChange Rows.fnTimeoutsSpec) :=
  OpenClaim.holds_of_wide 6 Try.f6 rfl rfl rfl rfl rfl rfl rfl ⟨rfl, rfl, rfl, rfl, rfl⟩ rfl rfl rfl rfl rfl (by kernel_rfl) Try.func6 (by kernel_rfl)
    (of_decide_eq_true (by kernel_rfl)) (by unfold Func.isWrapper; first | (rw [if_pos (by decide +kernel)]; kernel_rfl) | (rw [if_neg (by decide +kernel)]; exact ⟨rfl, rfl⟩))
    (fun os started H enc _ => lifted os started H enc)

theorem proved : Rows.FnTimeoutsSaid := over
end Go.Proofs.Ytcchnhjkifdemae.fnTimeouts
namespace Go.Proofs.Ytcchnhjkifdemae
theorem fnTimeouts_holds : Rows.FnTimeoutsSaid := fnTimeouts.proved
#print axioms fnTimeouts_holds
end Go.Proofs.Ytcchnhjkifdemae
