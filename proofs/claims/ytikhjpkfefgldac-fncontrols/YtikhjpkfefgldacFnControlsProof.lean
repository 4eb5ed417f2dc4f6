/-
  Whatever bytes the law FnControls draws its three numbers from, it returns true and leaves the bytes as they were; no condition.
-/
import Derived.Test.YtikhjpkfefgldacRows
import Derived.WalkKit
import Derived.ProofKit
import Derived.OpenShut
import Derived.Test.YtikhjpkfefgldacControl
import Derived.Test.YtikhjpkfefgldacDrawCon
import Derived.ShutString
import Derived.ChangeOld
import Derived.Below
namespace Go.Proofs.Ytikhjpkfefgldac.fnControls
open Go.ChangeShapes Go.WideShapes Go.ChangeAt Go.RowKit
open Go.ChangeMaps (open_string shut_string)
set_option linter.unusedVariables false

theorem own : ownKnob Try.prog.godebug = none := by kernel_rfl
theorem laidOut : laidOutB Try.prog = true := by kernel_rfl

/-- A slice of integers that came in. -/
def IsRow (k : IntKind) (w : World) (a : Option Addr) (len cap : Nat) (zs : List Int) : Prop :=
  (a = none ∧ len = 0 ∧ cap = 0 ∧ zs = []) ∨
  ∃ x, a = some x ∧ len ≤ cap ∧ cap ≤ maxLen ∧ zs.length = cap ∧ (∀ i, i < zs.length → w.cell? (x.add i) = some (.int k (zs.getD i 0))) ∧ ∀ n ∈ zs, (Lit.int k n).wf = true

theorem code_of {w : World} {a : Option Addr} {len cap : Nat} {zs : List Int} (h : IsRow .u8 w a len cap zs) : len ≤ 9223372036854775807 ∧ Code w w.heap.size a len := by
  rcases h with ⟨rfl, rfl, rfl, rfl⟩ | ⟨x, rfl, hl, hm, hz, hcell, hwz⟩
  · exact ⟨by omega, .inl rfl⟩
  · unfold maxLen at hm
    refine ⟨by omega, ?_⟩
    by_cases h0 : len = 0
    · exact .inl h0
    · obtain ⟨b, off, rfl, hc⟩ := ints_at hcell (by omega)
      refine .inr ⟨b, off, rfl, World.block_lt_of_cell? w _ (hc 0 (by omega)), fun k hk => ?_⟩
      have hb := bounds_u8 (hwz (zs.getD k 0) (by rw [List.getD_eq_getElem?_getD, List.getElem?_eq_getElem (by omega)]; exact List.getElem_mem _))
      exact ⟨zs.getD k 0, hb.1, hb.2, hc k (by omega)⟩

theorem con_105 : conF 5 100 1 = 105 := by
  have : conF 5 100 1 = nextF 5 100 1 := rfl
  rw [this]; unfold nextF; rw [show max (1 : Int) 1 = 1 by decide, invF_1]; decide
theorem con_55 : conF 5 100 4 = 55 := by
  have : conF 5 100 4 = nextF 5 100 4 := rfl
  rw [this]; unfold nextF; rw [show max (4 : Int) 1 = 4 by decide, invF_4]; decide
theorem con_no {t iv n : Int} (h : ¬ (0 ≤ t ∧ t ≤ 1000000000000 ∧ 1 ≤ iv ∧ iv ≤ 1000000000 ∧ 0 ≤ n ∧ n ≤ 1073741824)) : conF t iv n = 0 := by
  unfold conF inB
  rw [if_neg]
  simp only [Bool.and_eq_true, decide_eq_true_eq]
  omega
theorem con_yes {t iv n : Int} (h : 0 ≤ t ∧ t ≤ 1000000000000 ∧ 1 ≤ iv ∧ iv ≤ 1000000000 ∧ 0 ≤ n ∧ n ≤ 1073741824) : conF t iv n = nextF t iv n := by
  unfold conF inB
  simp [h]
theorem next_1 {t iv n : Int} (h : n ≤ 1) : nextF t iv n = t + iv := by
  unfold nextF
  rw [show max n 1 = 1 by omega, invF_1]
  omega

set_option maxHeartbeats 4000000 in
theorem walk (a0 : Option Addr) (len0 cap0 : Nat) (z0 : List Int) (w : World) (w0 : IsRow .u8 w a0 len0 cap0 z0) :
    Calls Try.prog 4 #[.slice a0 len0 cap0] w fun e w' => e = .returned (.bool true) ∧ Below w.heap.size w w' := by
  obtain ⟨hl, hcode⟩ := code_of w0
  clear w0
  have HC : Hid (Code w w.heap.size a0 len0) := hcode
  clear hcode
  have C105 : Hid _ := con_105
  have C55 : Hid _ := con_55
  go_enter Try.func4, Try.ntmps4
  go_wp2_with (go_at_call 14; refine (drawControl a0 len0 cap0 _ hl HC.out).mono ?_; rintro e w1 ⟨t, iv, n, rfl, ⟨a1, a2⟩, ⟨b1, b2⟩, ⟨⟨d1, d2⟩, d3⟩, hb⟩)
  by_cases hno : 0 ≤ t ∧ t ≤ 1000000000000 ∧ 1 ≤ iv ∧ iv ≤ 1000000000 ∧ 0 ≤ n ∧ n ≤ 1073741824
  · obtain ⟨t0, t1, i0, i1, n0, n1⟩ := hno
    obtain ⟨x, hx⟩ : ∃ x, conF t iv n = x := ⟨_, rfl⟩
    obtain ⟨y, hy⟩ : ∃ y, conF t iv (n + 1) = y := ⟨_, rfl⟩
    have ex : nextF t iv n = x := by rw [← hx, con_yes ⟨t0, t1, i0, i1, n0, n1⟩]
    obtain ⟨x0, x1⟩ : t ≤ x ∧ x ≤ t + iv := by rw [← ex]; exact nextF_bd i0 i1
    have HX : Hid (conF t iv n = x) := hx
    have HY : Hid (conF t iv (n + 1) = y) := hy
    have h1 : decide (t < 0) = false := by simp; omega
    have h2 : decide (1000000000000 < t) = false := by simp; omega
    have h3 : decide (iv < 1) = false := by simp; omega
    have h4 : decide (1000000000 < iv) = false := by simp; omega
    have h5 : decide (n < 0) = false := by simp; omega
    have h6 : decide (1073741824 < n) = false := by simp; omega
    have hc : (1 < n ∧ n + 1 ≤ 1073741824 ∧ y ≤ x) ∨ (1 < n ∧ 1073741824 < n + 1) ∨ (¬ 1 < n ∧ x = t + iv ∧ n + 1 ≤ 1073741824 ∧ y ≤ t + iv) := by
      have hy2 : n + 1 ≤ 1073741824 → y ≤ x := fun h => by rw [← hy, con_yes ⟨t0, t1, i0, i1, by omega, h⟩, ← ex]; exact nextF_anti i0
      by_cases e : 1 < n
      · by_cases e2 : n + 1 ≤ 1073741824
        · exact .inl ⟨e, e2, hy2 e2⟩
        · exact .inr (.inl ⟨e, by omega⟩)
      · have e3 : x = t + iv := by rw [← ex]; exact next_1 (by omega)
        exact .inr (.inr ⟨e, e3, by omega, by rw [← e3]; exact hy2 (by omega)⟩)
    clear hx hy ex
    rcases hc with ⟨e1, e2, e3⟩ | ⟨e1, e2⟩ | ⟨e1, e2, e3, e4⟩
    all_goals
      go_wp2_with (go_at_call 15; refine (icontrol_any _ _ _ _).mono ?_; rintro e w2 ⟨rfl, hk⟩; (first | rw [HX.out] | rw [HY.out] | rw [C55.out]); replace hb := hb.trans (hk.1.mono hb.size); clear hk)
      go_ret
      exact ⟨rfl, hb⟩
  · have hx : conF t iv n = 0 := con_no hno
    have HX : Hid (conF t iv n = 0) := hx
    have HB : t < 0 ∨ ¬ t < 0 ∧ 1000000000000 < t ∨ ¬ t < 0 ∧ ¬ 1000000000000 < t ∧ iv < 1 ∨ ¬ t < 0 ∧ ¬ 1000000000000 < t ∧ ¬ iv < 1 ∧ 1000000000 < iv ∨ ¬ t < 0 ∧ ¬ 1000000000000 < t ∧ ¬ iv < 1 ∧ ¬ 1000000000 < iv ∧ n < 0 ∨ ¬ t < 0 ∧ ¬ 1000000000000 < t ∧ ¬ iv < 1 ∧ ¬ 1000000000 < iv ∧ ¬ n < 0 ∧ 1073741824 < n := by omega
    clear hno hx
    rcases HB with h | ⟨h1, h⟩ | ⟨h1, h2, h⟩ | ⟨h1, h2, h3, h⟩ | ⟨h1, h2, h3, h4, h⟩ | ⟨h1, h2, h3, h4, h5, h⟩
    all_goals
      go_wp2_with (go_at_call 15; refine (icontrol_any _ _ _ _).mono ?_; rintro e w2 ⟨rfl, hk⟩; (first | rw [HX.out] | rw [C105.out]); replace hb := hb.trans (hk.1.mono hb.size); clear hk)
      go_ret
      exact ⟨rfl, hb⟩

set_option maxRecDepth 100000 in
theorem lifted (os : Os) (started : os.Started) (H : Type) (enc : TypeId × Value → H) :
    ReturnsInHanded {} Try.checked os 4 .any (Rows.fnControlsSpec.pre6 enc Try.prog Try.f4 Rows.fnControlsRow.domain false) (Rows.fnControlsSpec.post enc Try.prog Try.f4 false true false false) := by
  refine returnsInHanded_of_change (C := Try.checked) own started (by kernel_rfl) Try.func4
    (ChangeSpec.witness6 (enc := enc) (C := Try.checked) false ⟨#[], #[.slice none 0 0], []⟩ 8 (by kernel_rfl) (by kernel_rfl) (by kernel_rfl) (by kernel_rfl)) ?_
  intro W base args ds gs before hval0 hW hcnd _
  have hval : ∀ (j : Nat) t v, Try.f4.params[j]? = some t → args[j]? = some v → Value.okWide Try.prog W .any base t v := hval0
  have hW' := hW
  obtain ⟨p, q, hA0, hV, rfl, hfz, hnd⟩ := hW
  have hA : DataW.TrodAll enc Try.prog W 0 (fun _ => true) true Try.f4.params.toList args.toList ds p := hA0
  rw [Try.params4] at hA hval
  obtain ⟨v0, vs0, d0, ds0, p0, q0, hargs, rfl, rfl, h0, r0⟩ := trodAll_cons hA
  obtain ⟨rfl, rfl, rfl⟩ := trodAll_nil r0
  obtain rfl : args = #[v0] := by cases args; simp_all
  obtain ⟨rfl, rfl⟩ := trodVars_none hV
  obtain ⟨a0, len0, cap0, rfl⟩ := okWide_slice Try.underlying22 (hval 0 22 v0 rfl rfl)
  have k0 := h0
  have lt0 : ∀ x ∈ p0, x.block < W.heap.size := by obtain ⟨m, hm⟩ := k0; exact DataW.trod_lt m _ _ _ hm
  obtain ⟨z0, w0⟩ : ∃ zs, IsRow .u8 W a0 len0 cap0 zs := by
    obtain ⟨fuel, hf⟩ := h0
    rcases open_ints Try.underlying22 Try.underlying5 (by kernel_rfl) hf with ⟨hcs, _⟩ | ⟨x, l, c, zs, hcs, _, hl, hm, hz, _, hcell, hwz⟩
    · simp [Value.cells] at hcs
      obtain ⟨rfl, rfl, rfl⟩ := hcs
      exact ⟨[], .inl ⟨rfl, rfl, rfl, rfl⟩⟩
    · simp [Value.cells] at hcs
      obtain ⟨rfl, rfl, rfl⟩ := hcs
      exact ⟨zs, .inr ⟨_, rfl, hl, hm, by simpa using hz, hcell, hwz⟩⟩
  clear hA0 hval0
  refine (walk a0 len0 cap0 z0 W w0).mono fun e W' ⟨he, bel⟩ => ?_
  subst he
  exact ⟨_, rfl, _, _, _, [], _, [], hW', trodAll_mk1 (shut_bool Try.underlying4 _), (trodAll_cons_mk (Below.trod laidOut (by kernel_rfl) (of_decide_eq_true (by kernel_rfl)) k0 bel lt0) trodAll_mk0), rfl, bel.frame _, fun h => by cases h⟩

theorem over : Rows.fnControlsRow.holds Try.pinned (OpenSpec.ofChange Rows.fnControlsSpec) :=
  OpenClaim.holds_of_wide 4 Try.f4 rfl rfl rfl rfl rfl rfl rfl ⟨rfl, rfl, rfl, rfl, rfl⟩ rfl rfl rfl rfl rfl (by kernel_rfl) Try.func4 (by kernel_rfl)
    (of_decide_eq_true (by kernel_rfl)) (by unfold Func.isWrapper; first | (rw [if_pos (by decide +kernel)]; kernel_rfl) | (rw [if_neg (by decide +kernel)]; exact ⟨rfl, rfl⟩))
    (fun os started H enc _ => lifted os started H enc)

theorem proved : Rows.FnControlsSaid := over
end Go.Proofs.Ytikhjpkfefgldac.fnControls
namespace Go.Proofs.Ytikhjpkfefgldac
theorem fnControls_holds : Rows.FnControlsSaid := fnControls.proved
#print axioms fnControls_holds
end Go.Proofs.Ytikhjpkfefgldac
