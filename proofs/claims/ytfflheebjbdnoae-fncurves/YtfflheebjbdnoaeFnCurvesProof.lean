/-
  Whatever bytes the law FnCurves draws its numbers from, it returns true and leaves the bytes as they were; no condition.
-/
import Derived.Test.YtfflheebjbdnoaeRows
import Derived.WalkKit
import Derived.ProofKit
import Derived.OpenShut
import Derived.Deep.Cut
import Derived.Test.YtfflheebjbdnoaeCurveN
import Derived.Test.YtfflheebjbdnoaeDrawCb1
import Derived.ShutString
import Derived.ChangeOld
import Derived.Below
namespace Go.Proofs.Ytfflheebjbdnoae.fnCurves
open Go.ChangeShapes Go.WideShapes Go.ChangeAt Go.RowKit
open Go.ChangeMaps (open_string shut_string)
set_option linter.unusedVariables false

theorem own : ownKnob Try.prog.godebug = none := by kernel_rfl
theorem laidOut : laidOutB Try.prog = true := by kernel_rfl

/-- A slice of integers that came in. -/
def IsRow (k : IntKind) (w : World) (a : Option Addr) (len cap : Nat) (zs : List Int) : Prop :=
  (a = none ∧ len = 0 ∧ cap = 0 ∧ zs = []) ∨
  ∃ x, a = some x ∧ len ≤ cap ∧ cap ≤ maxLen ∧ zs.length = cap ∧ (∀ i, i < zs.length → w.cell? (x.add i) = some (.int k (zs.getD i 0))) ∧ ∀ n ∈ zs, (Lit.int k n).wf = true

theorem code_of {w : World} {a : Option Addr} {len cap : Nat} {zs : List Int} (h : IsRow .u8 w a len cap zs) : len ≤ 9223372036854775807 ∧ Code w w.heap.size a len := by
  rcases h with ⟨rfl, rfl, rfl, rfl⟩ | ⟨x, rfl, hl, hm, hz, hcell, hwz⟩
  · exact ⟨by omega, .inl rfl⟩
  · unfold maxLen at hm
    refine ⟨by omega, ?_⟩
    by_cases h0 : len = 0
    · exact .inl h0
    · obtain ⟨b, off, rfl, hc⟩ := ints_at hcell (by omega)
      refine .inr ⟨b, off, rfl, World.block_lt_of_cell? w _ (hc 0 (by omega)), fun k hk => ?_⟩
      have hb := bounds_u8 (hwz (zs.getD k 0) (by rw [List.getD_eq_getElem?_getD, List.getElem?_eq_getElem (by omega)]; exact List.getElem_mem _))
      exact ⟨zs.getD k 0, hb.1, hb.2, hc k (by omega)⟩


theorem cw_10 : wF 10 5 5 = 10 := by decide
theorem code_below {w w' : World} {a : Option Addr} {len : Nat} (h : Code w w.heap.size a len) (hb : Below w.heap.size w w') : Code w' w'.heap.size a len := by
  rcases h with h | ⟨b, off, ha, hlt, hk⟩
  · exact .inl h
  · refine .inr ⟨b, off, ha, Nat.lt_of_lt_of_le hlt hb.size, fun k hk' => ?_⟩
    obtain ⟨v, v0, v1, hv⟩ := hk k hk'
    exact ⟨v, v0, v1, (hb.cell (p := ⟨b, off + k, none⟩) hlt).trans hv⟩

set_option maxHeartbeats 4000000 in
theorem walk (a0 : Option Addr) (len0 cap0 : Nat) (z0 : List Int) (w : World) (w0 : IsRow .u8 w a0 len0 cap0 z0) :
    Calls Try.prog 7 #[.slice a0 len0 cap0] w fun e w' => e = .returned (.bool true) ∧ Below w.heap.size w w' := by
  obtain ⟨hl, hcode⟩ := code_of w0
  clear w0
  have HC2 : Hid (∀ W, Below w.heap.size w W → Code W W.heap.size a0 len0) := fun W hb => code_below hcode hb
  have HC : Hid (Code w w.heap.size a0 len0) := hcode
  clear hcode
  have C10 : Hid _ := cw_10
  go_enter Try.func7, Try.ntmps7
  go_wp2_with (go_at_call 20; refine (drawCubicW a0 len0 cap0 _ hl HC.out).mono ?_; rintro e w1 ⟨m, k, t, rfl, ⟨a1, a2⟩, ⟨b1, b2⟩, ⟨d1, d2⟩, hb⟩)
  clear HC
  by_cases hno : 0 ≤ m ∧ m ≤ 1048576 ∧ 0 ≤ k ∧ k ≤ 200000 ∧ 0 ≤ t ∧ t ≤ 1048576
  case neg =>
    have HX : Hid (wF m k t = 0) := if_neg hno
    have HN : Hid (¬ (0 ≤ m ∧ m ≤ 1048576 ∧ 0 ≤ k ∧ k ≤ 200000 ∧ 0 ≤ t ∧ t ≤ 1048576)) := hno
    clear hno
    go_wp2_with (first | (go_at_call 21; refine (icubicW_any _ _ _ _).mono ?_; rintro e w8 ⟨rfl, hw8⟩; replace hw8 := hw8.symm; subst hw8; (first | rw [HX.out] | rw [C10.out])))
    all_goals first
      | (exfalso; have := HN.out; omega)
      | (go_ret
         exact ⟨rfl, hb⟩)
  case pos =>
  obtain ⟨m0, m1, k0, k1, t0, t1⟩ := hno
  obtain ⟨x, hx⟩ : ∃ x, wF m k t = x := ⟨_, rfl⟩
  have ex : x = m + upF (t - k) := by rw [← hx]; exact wF_in ⟨m0, m1, k0, k1, t0, t1⟩
  obtain ⟨y, hy⟩ : ∃ y, wF m k (t + 1) = y := ⟨_, rfl⟩
  have ez : wF m k k = m := by rw [wF_in ⟨m0, m1, k0, k1, by omega, by omega⟩, show k - k = (0 : Int) by omega, upF_0]; omega
  have HX : Hid (wF m k t = x) := hx
  have HY : Hid (wF m k (t + 1) = y) := hy
  have HZ : Hid (wF m k k = m) := ez
  have hy2 : t < 1048576 → x ≤ y := fun h => by
    have e2 : y = m + upF (t + 1 - k) := by rw [← hy]; exact wF_in ⟨m0, m1, k0, k1, by omega, by omega⟩
    have := upF_step (t - k)
    rw [show t - k + 1 = t + 1 - k by omega] at this
    omega
  have hlo : t < k → x ≤ m := fun h => by have := upF_neg (d := t - k) (by omega); omega
  have hhi : k < t → m ≤ x := fun h => by have := upF_pos (d := t - k) (by omega); omega
  have hcs : (t < 1048576 ∧ x ≤ y ∧ t < k ∧ x ≤ m ∧ ¬ k < t) ∨ (t < 1048576 ∧ x ≤ y ∧ ¬ t < k ∧ m ≤ x ∧ k < t) ∨ (t < 1048576 ∧ x ≤ y ∧ ¬ t < k ∧ x ≤ x ∧ ¬ k < t) ∨ (¬ t < 1048576 ∧ x ≤ x ∧ ¬ t < k ∧ m ≤ x ∧ k < t) := by
    by_cases h : t < 1048576
    · by_cases h1 : t < k
      · exact .inl ⟨h, hy2 h, h1, hlo h1, by omega⟩
      · by_cases h2 : k < t
        · exact .inr (.inl ⟨h, hy2 h, h1, hhi h2, h2⟩)
        · exact .inr (.inr (.inl ⟨h, hy2 h, h1, Int.le_refl _, h2⟩))
    · exact .inr (.inr (.inr ⟨h, Int.le_refl _, by omega, hhi (by omega), by omega⟩))
  clear hx hy ez hy2 hlo hhi ex
  have hr : Hid (∀ (u v : Int), ∃ j, kF u v = j ∧ (¬ (0 ≤ u ∧ u ≤ 1048576 ∧ 0 ≤ v ∧ v ≤ 1048576) → j = 0) ∧ (u ≤ v → j = 0) ∧ (0 ≤ u ∧ u ≤ 1048576 ∧ 0 ≤ v ∧ v ≤ 1048576 ∧ v < u → ∃ b, wF u j 0 = b ∧ v ≤ b ∧ b - v ≤ 1 + (u - v) / 100 ∧ b ≤ u)) := fun u v => by
    refine ⟨_, rfl, fun h => if_neg (fun h2 => h (by omega)), fun h => if_neg (by omega), fun h => ⟨_, rfl, ?_⟩⟩
    have hk : kF u v = root3F (2500000000 * (u - v)) := if_pos h
    have hb := kF_bd u v
    obtain ⟨r0, r1, r2⟩ := root3F_is (n := 2500000000 * (u - v)) (by omega)
    rw [← hk] at r0 r1 r2
    have hB := back (D := u - v) (by omega) r0 r1 r2
    rw [wF_in ⟨by omega, by omega, hb.1, hb.2, by omega, by omega⟩, show (0 : Int) - kF u v = -kF u v by omega, upF_opp]
    have hp := upF_pos r0
    omega
  rcases hcs with ⟨c1, c2, c3, c4, c5⟩ | ⟨c1, c2, c3, c4, c5⟩ | ⟨c1, c2, c3, c4, c5⟩ | ⟨c1, c2, c3, c4, c5⟩
  all_goals
      go_upto_region 8 with (first | (go_at_call 21; refine (icubicW_any _ _ _ _).mono ?_; rintro e w8 ⟨rfl, hw8⟩; replace hw8 := hw8.symm; subst hw8; (first | rw [HX.out] | rw [HY.out] | rw [HZ.out])) | (go_at_call 22; refine (drawCubicK a0 len0 cap0 _ hl (HC2.out _ hb)).mono ?_; rintro e w2 ⟨u, v, rfl, ⟨u1, u2⟩, ⟨v1, v2⟩, hb2⟩; replace hb := hb.trans (hb2.mono hb.size); clear hb2))
      clear HX HY HZ
      clear c1 c2 c3 c4 c5
      obtain ⟨j, hj, j1, j2, j3⟩ := hr.out u v
      have HK : Hid (kF u v = j) := hj
      clear hj hr
      by_cases hin : 0 ≤ u ∧ u ≤ 1048576 ∧ 0 ≤ v ∧ v ≤ 1048576
      case neg =>
        have hj0 := j1 hin
        have HN : Hid (¬ (0 ≤ u ∧ u ≤ 1048576 ∧ 0 ≤ v ∧ v ≤ 1048576)) := hin
        clear j1 j2 j3 hin
        subst hj0
        go_wp2_with (first | (go_at_call 23; refine (icubicK_any _ _ _).mono ?_; rintro e w3 ⟨rfl, hk⟩; rw [HK.out]; replace hb := hb.trans (hk.1.mono hb.size); clear hk) | (go_at_call 21; refine (icubicW_any _ _ _ _).mono ?_; rintro e w8 ⟨rfl, hw8⟩; replace hw8 := hw8.symm; subst hw8; (first | rw [C10.out])))
        all_goals first
          | (exfalso; have := HN.out; omega)
          | (go_ret
             exact ⟨rfl, hb⟩)
      case pos =>
        obtain ⟨p1, p2, p3, p4⟩ := hin
        by_cases hle : u ≤ v
        · have hj0 := j2 hle
          clear j1 j2 j3
          subst hj0
          go_wp2_with (first | (go_at_call 23; refine (icubicK_any _ _ _).mono ?_; rintro e w3 ⟨rfl, hk⟩; rw [HK.out]; replace hb := hb.trans (hk.1.mono hb.size); clear hk))
          go_ret
          exact ⟨rfl, hb⟩
        · obtain ⟨b, hbk, q1, q2, q3⟩ := j3 ⟨p1, p2, p3, p4, by omega⟩
          have HBK : Hid (wF u j 0 = b) := hbk
          clear j1 j2 j3 hbk
          have e1 : IntKind.i64.wrap ((u - v).tdiv 100) = (u - v) / 100 := by rw [Int.tdiv_eq_ediv_of_nonneg (by omega), IntKind.wrap_i64]; omega
          go_wp2_with (first | (go_at_call 23; refine (icubicK_any _ _ _).mono ?_; rintro e w3 ⟨rfl, hk⟩; rw [HK.out]; replace hb := hb.trans (hk.1.mono hb.size); clear hk) | (go_at_call 21; refine (icubicW_any _ _ _ _).mono ?_; rintro e w8 ⟨rfl, hw8⟩; replace hw8 := hw8.symm; subst hw8; (first | rw [HBK.out])))
          go_ret
          exact ⟨rfl, hb⟩

set_option maxRecDepth 100000 in
theorem lifted (os : Os) (started : os.Started) (H : Type) (enc : TypeId × Value → H) :
    ReturnsInHanded {} Try.checked os 7 .any (Rows.fnCurvesSpec.pre6 enc Try.prog Try.f7 Rows.fnCurvesRow.domain false) (Rows.fnCurvesSpec.post enc Try.prog Try.f7 false true false false) := by
  refine returnsInHanded_of_change (C := Try.checked) own started (by kernel_rfl) Try.func7
    (ChangeSpec.witness6 (enc := enc) (C := Try.checked) false ⟨#[], #[.slice none 0 0], []⟩ 8 (by kernel_rfl) (by kernel_rfl) (by kernel_rfl) (by kernel_rfl)) ?_
  intro W base args ds gs before hval0 hW hcnd _
  have hval : ∀ (j : Nat) t v, Try.f7.params[j]? = some t → args[j]? = some v → Value.okWide Try.prog W .any base t v := hval0
  have hW' := hW
  obtain ⟨p, q, hA0, hV, rfl, hfz, hnd⟩ := hW
  have hA : DataW.TrodAll enc Try.prog W 0 (fun _ => true) true Try.f7.params.toList args.toList ds p := hA0
  rw [Try.params7] at hA hval
  obtain ⟨v0, vs0, d0, ds0, p0, q0, hargs, rfl, rfl, h0, r0⟩ := trodAll_cons hA
  obtain ⟨rfl, rfl, rfl⟩ := trodAll_nil r0
  obtain rfl : args = #[v0] := by cases args; simp_all
  obtain ⟨rfl, rfl⟩ := trodVars_none hV
  obtain ⟨a0, len0, cap0, rfl⟩ := okWide_slice Try.underlying22 (hval 0 22 v0 rfl rfl)
  have k0 := h0
  have lt0 : ∀ x ∈ p0, x.block < W.heap.size := by obtain ⟨m, hm⟩ := k0; exact DataW.trod_lt m _ _ _ hm
  obtain ⟨z0, w0⟩ : ∃ zs, IsRow .u8 W a0 len0 cap0 zs := by
    obtain ⟨fuel, hf⟩ := h0
    rcases open_ints Try.underlying22 Try.underlying5 (by kernel_rfl) hf with ⟨hcs, _⟩ | ⟨x, l, c, zs, hcs, _, hl, hm, hz, _, hcell, hwz⟩
    · simp [Value.cells] at hcs
      obtain ⟨rfl, rfl, rfl⟩ := hcs
      exact ⟨[], .inl ⟨rfl, rfl, rfl, rfl⟩⟩
    · simp [Value.cells] at hcs
      obtain ⟨rfl, rfl, rfl⟩ := hcs
      exact ⟨zs, .inr ⟨_, rfl, hl, hm, by simpa using hz, hcell, hwz⟩⟩
  clear hA0 hval0
  refine (walk a0 len0 cap0 z0 W w0).mono fun e W' ⟨he, bel⟩ => ?_
  subst he
  exact ⟨_, rfl, _, _, _, [], _, [], hW', trodAll_mk1 (shut_bool Try.underlying4 _), (trodAll_cons_mk (Below.trod laidOut (by kernel_rfl) (of_decide_eq_true (by kernel_rfl)) k0 bel lt0) trodAll_mk0), rfl, bel.frame _, fun h => by cases h⟩

theorem over : Rows.fnCurvesRow.holds Try.pinned (OpenSpec.ofChange Rows.fnCurvesSpec) :=
  OpenClaim.holds_of_wide 7 Try.f7 rfl rfl rfl rfl rfl rfl rfl ⟨rfl, rfl, rfl, rfl, rfl⟩ rfl rfl rfl rfl rfl (by kernel_rfl) Try.func7 (by kernel_rfl)
    (of_decide_eq_true (by kernel_rfl)) (by unfold Func.isWrapper; first | (rw [if_pos (by decide +kernel)]; kernel_rfl) | (rw [if_neg (by decide +kernel)]; exact ⟨rfl, rfl⟩))
    (fun os started H enc _ => lifted os started H enc)

theorem proved : Rows.FnCurvesSaid := over
end Go.Proofs.Ytfflheebjbdnoae.fnCurves
namespace Go.Proofs.Ytfflheebjbdnoae
theorem fnCurves_holds : Rows.FnCurvesSaid := fnCurves.proved
#print axioms fnCurves_holds
end Go.Proofs.Ytfflheebjbdnoae
