/-
  Whatever bytes the law FnRoots draws its three numbers from, it returns true and leaves the bytes as they were; no condition.
-/
import Derived.Test.YtlhocfgacikdeaaRows
import Derived.WalkKit
import Derived.ProofKit
import Derived.OpenShut
import Derived.Test.YtlhocfgacikdeaaRoots
import Derived.Test.YtlhocfgacikdeaaDraw1
import Derived.Deep.Cut
import Derived.ShutString
import Derived.ChangeOld
import Derived.Below
namespace Go.Proofs.Ytlhocfgacikdeaa.fnRoots
open Go.ChangeShapes Go.WideShapes Go.ChangeAt Go.RowKit
open Go.ChangeMaps (open_string shut_string)
set_option linter.unusedVariables false

theorem own : ownKnob Try.prog.godebug = none := by kernel_rfl
theorem laidOut : laidOutB Try.prog = true := by kernel_rfl

/-- A slice of integers that came in. -/
def IsRow (k : IntKind) (w : World) (a : Option Addr) (len cap : Nat) (zs : List Int) : Prop :=
  (a = none ∧ len = 0 ∧ cap = 0 ∧ zs = []) ∨
  ∃ x, a = some x ∧ len ≤ cap ∧ cap ≤ maxLen ∧ zs.length = cap ∧ (∀ i, i < zs.length → w.cell? (x.add i) = some (.int k (zs.getD i 0))) ∧ ∀ n ∈ zs, (Lit.int k n).wf = true

theorem code_of {w : World} {a : Option Addr} {len cap : Nat} {zs : List Int} (h : IsRow .u8 w a len cap zs) : len ≤ 9223372036854775807 ∧ Code w w.heap.size a len := by
  rcases h with ⟨rfl, rfl, rfl, rfl⟩ | ⟨x, rfl, hl, hm, hz, hcell, hwz⟩
  · exact ⟨by omega, .inl rfl⟩
  · unfold maxLen at hm
    refine ⟨by omega, ?_⟩
    by_cases h0 : len = 0
    · exact .inl h0
    · obtain ⟨b, off, rfl, hc⟩ := ints_at hcell (by omega)
      refine .inr ⟨b, off, rfl, World.block_lt_of_cell? w _ (hc 0 (by omega)), fun k hk => ?_⟩
      have hb := bounds_u8 (hwz (zs.getD k 0) (by rw [List.getD_eq_getElem?_getD, List.getElem?_eq_getElem (by omega)]; exact List.getElem_mem _))
      exact ⟨zs.getD k 0, hb.1, hb.2, hc k (by omega)⟩

theorem next_bd {r k : Int} (h0 : 0 ≤ r) (h1 : r ≤ k) : 0 ≤ (r + 1) * (r + 1) ∧ (r + 1) * (r + 1) ≤ (k + 1) * (k + 1) := sq_bd (by omega) (by omega)
theorem next_bd3 {r k : Int} (h0 : 0 ≤ r) (h1 : r ≤ k) : 0 ≤ (r + 1) * (r + 1) * (r + 1) ∧ (r + 1) * (r + 1) * (r + 1) ≤ (k + 1) * (k + 1) * (k + 1) := cb_bd (by omega) (by omega)
theorem three : root3F 28 = 3 := (root3F_only (by decide) (by decide) (by decide)).symm
theorem one_le {n : Int} (h : 1 ≤ n) : 1 ≤ root2F n := by
  have := root2F_is (n := n) (by omega)
  rcases (show root2F n = 0 ∨ 1 ≤ root2F n by omega) with h' | h'
  · rw [h'] at this; omega
  · exact h'

theorem code_wide {w : World} {B C : Nat} {a : Option Addr} {len : Nat} (h : Code w B a len) (hB : B ≤ C) : Code w C a len := by
  rcases h with h | ⟨b, off, ha, hb, hk⟩
  · exact .inl h
  · exact .inr ⟨b, off, ha, by omega, hk⟩

/-- What the tests ask of a root, by cases. -/
theorem root2_case (n : Int) (h : n ≤ 9223372036854775807) : (n < 0 ∧ root2F n = 0) ∨ (¬ n < 0 ∧ root2F n < 3037000499 ∧ 0 ≤ root2F n * root2F n ∧ root2F n * root2F n ≤ n ∧ n < (root2F n + 1) * (root2F n + 1) ∧ (root2F n + 1) * (root2F n + 1) ≤ 9223372030926249001) ∨ (¬ n < 0 ∧ ¬ root2F n < 3037000499 ∧ 0 ≤ root2F n * root2F n ∧ root2F n * root2F n ≤ n) := by
  by_cases hn : n < 0
  · exact .inl ⟨hn, root2F_neg (by omega)⟩
  · obtain ⟨a, b, c⟩ := root2F_is (n := n) (by omega)
    have d := Int.mul_nonneg a a
    by_cases hr : root2F n < 3037000499
    · exact .inr (.inl ⟨hn, hr, d, b, c, (sq_bd (m := root2F n + 1) (k := 3037000499) (by omega) (by omega)).2⟩)
    · exact .inr (.inr ⟨hn, hr, d, b⟩)
theorem root3_case (n : Int) (h : n ≤ 9223372036854775807) : (n < 0 ∧ root3F n = 0) ∨ (¬ n < 0 ∧ root3F n < 2097151 ∧ 0 ≤ root3F n * root3F n ∧ root3F n * root3F n ≤ 4398042316801 ∧ 0 ≤ root3F n * root3F n * root3F n ∧ root3F n * root3F n * root3F n ≤ n ∧ 0 ≤ (root3F n + 1) * (root3F n + 1) ∧ (root3F n + 1) * (root3F n + 1) ≤ 4398042316801 ∧ n < (root3F n + 1) * (root3F n + 1) * (root3F n + 1) ∧ (root3F n + 1) * (root3F n + 1) * (root3F n + 1) ≤ 9223358842721533951) ∨ (¬ n < 0 ∧ ¬ root3F n < 2097151 ∧ 0 ≤ root3F n * root3F n ∧ root3F n * root3F n ≤ 4398042316801 ∧ 0 ≤ root3F n * root3F n * root3F n ∧ root3F n * root3F n * root3F n ≤ n) := by
  by_cases hn : n < 0
  · exact .inl ⟨hn, root3F_neg (by omega)⟩
  · obtain ⟨a, b, c⟩ := root3F_is (n := n) (by omega)
    have l := root3F_le h
    have s := sq_bd (m := root3F n) (k := 2097151) a (by omega)
    have d := Int.mul_nonneg (Int.mul_nonneg a a) a
    by_cases hr : root3F n < 2097151
    · have t := sq_bd (m := root3F n + 1) (k := 2097151) (by omega) (by omega)
      have u := cb_bd (m := root3F n + 1) (k := 2097151) (by omega) (by omega)
      exact .inr (.inl ⟨hn, hr, s.1, s.2, d, b, t.1, t.2, c, u.2⟩)
    · exact .inr (.inr ⟨hn, hr, s.1, s.2, d, b⟩)
theorem inv_case (k : Int) (h : k ≤ 9223372036854775807) : (k < 1 ∧ invF k = 0) ∨ (¬ k < 1 ∧ 4294967296 < k ∧ invF k = 0) ∨ (¬ k < 1 ∧ ¬ 4294967296 < k ∧ 1 ≤ invF k ∧ invF k ≤ 65536 ∧ 0 ≤ invF k * invF k ∧ invF k * invF k ≤ 4294967296 / k ∧ 4294967296 / k < (invF k + 1) * (invF k + 1) ∧ (invF k + 1) * (invF k + 1) ≤ 4295098369 ∧ 1 ≤ 4294967296 / k ∧ 4294967296 / k ≤ 4294967296) := by
  by_cases h1 : k < 1
  · exact .inl ⟨h1, by unfold invF; rw [if_pos (by omega)]⟩
  by_cases h2 : 4294967296 < k
  · exact .inr (.inl ⟨h1, h2, by unfold invF; rw [if_pos (by omega)]⟩)
  have e : invF k = root2F (4294967296 / k) := by unfold invF; rw [if_neg (by omega)]
  have p1 : 1 ≤ 4294967296 / k := (Int.le_ediv_iff_mul_le (by omega)).2 (by omega)
  have p2 : 4294967296 / k ≤ 4294967296 := Int.ediv_le_self k (by omega)
  obtain ⟨a, b, c⟩ := root2F_is (n := 4294967296 / k) (by omega)
  have o := one_le p1
  rw [← e] at a b c o
  have u : invF k ≤ 65536 := by
    rcases (show invF k ≤ 65536 ∨ 65537 ≤ invF k by omega) with h | h
    · exact h
    · have := Int.mul_le_mul h h (by omega) (by omega); omega
  have t := sq_bd (m := invF k + 1) (k := 65537) (by omega) (by omega)
  exact .inr (.inr ⟨h1, h2, o, u, Int.mul_nonneg a a, b, c, t.2, p1, p2⟩)

set_option maxRecDepth 100000 in
set_option maxHeartbeats 2000000 in
theorem walk (a0 : Option Addr) (len0 cap0 : Nat) (z0 : List Int) (w : World) (w0 : IsRow .u8 w a0 len0 cap0 z0) :
    Calls Try.prog 5 #[.slice a0 len0 cap0] w fun e w' => e = .returned (.bool true) ∧ Below w.heap.size w w' := by
  obtain ⟨hl, hcode⟩ := code_of w0
  clear w0
  have HC : Hid (Code w w.heap.size a0 len0) := hcode
  clear hcode
  go_enter Try.func5, Try.ntmps5
  go_wp2_with (go_at_call 15; refine (drawRoot2 a0 len0 cap0 _ hl HC.out).mono ?_; rintro e w1 ⟨n, rfl, ⟨n1, n2⟩, hb⟩)
  have r1 := root2F_le n2
  go_wp2_with (first | (go_at_call 14; refine (root2_impl _ n1 n2 _).mono ?_; rintro e w2 ⟨rfl, hk⟩) | (go_at_call 16; refine (drawRoot3 a0 len0 cap0 _ hl (code_wide (HC.out.move fun b o h => (hb.trans (hk.1.mono hb.size)).cell (p := ⟨b, o, none⟩) h) (Nat.le_trans hb.size hk.1.size))).mono ?_; rintro e w3 ⟨m, rfl, ⟨m1, m2⟩, hb3⟩; replace hb := (hb.trans (hk.1.mono hb.size)).trans (hb3.mono (Nat.le_trans hb.size hk.1.size)); clear hk hb3))
  have r2 := root3F_le m2
  go_wp2_with (first | (go_at_call 17; refine (root3_impl _ m1 m2 _).mono ?_; rintro e w2 ⟨rfl, hk⟩) | (go_at_call 18; refine (drawInvRoot a0 len0 cap0 _ hl (code_wide (HC.out.move fun b o h => (hb.trans (hk.1.mono hb.size)).cell (p := ⟨b, o, none⟩) h) (Nat.le_trans hb.size hk.1.size))).mono ?_; rintro e w3 ⟨k, rfl, ⟨k1, k2⟩, hb3⟩; replace hb := (hb.trans (hk.1.mono hb.size)).trans (hb3.mono (Nat.le_trans hb.size hk.1.size)); clear hk hb3))
  have hn := root2_case n n2
  have hm := root3_case m m2
  have hv := inv_case k k2
  have t28 := three
  go_wp2_with fail
  refine (inv_impl _ k1 k2 _).mono ?_
  rintro e w2 ⟨rfl, hk⟩
  replace hb := hb.trans (hk.1.mono hb.size)
  clear hk HC
  generalize root2F n = r at *
  generalize root3F m = q at *
  generalize invF k = v at *
  go_upto_region 7 with fail
  go_cut [50] from 21 (fun s wx => s = .bool false ∧ wx = w2)
  case first => as_aux_lemma =>
    clear hm hv
    rcases hn with ⟨n3, rfl⟩ | ⟨n3, hr, s0, s1, s2, s3⟩ | ⟨n3, hr, s0, s1⟩
    all_goals
      go_wp2_with fail
      go_meet
      case rel => exact ⟨congrArg Value.bool (by first | rfl | (simp; omega)), rfl⟩
  case rest => as_aux_lemma =>
    clear hn
    obtain ⟨rfl, rfl⟩ := hcut
    go_upto_region 9 with fail
    go_cut [85] from 21 (fun s wx => s = .bool false ∧ wx = wc)
    case first => as_aux_lemma =>
      clear hv
      rcases hm with ⟨m3, rfl⟩ | ⟨m3, hq, q0, q1, q2, q3, q4, q5, q6, q7⟩ | ⟨m3, hq, q0, q1, q2, q3⟩
      all_goals
        go_wp2_with fail
        go_meet
        case rel => exact ⟨congrArg Value.bool (by first | rfl | (simp; omega)), rfl⟩
    case rest => as_aux_lemma =>
      clear hm
      obtain ⟨rfl, rfl⟩ := hcut
      go_upto_region 11 with fail
      rcases hv with ⟨k3, rfl⟩ | ⟨k3, k4, rfl⟩ | ⟨k3, k4, v0, v1, v2, v3, v4, v5, v6, v7⟩
      all_goals
        go_wp2_with (go_at_call 17; refine (root3_impl _ (by omega) (by omega) _).mono ?_; rintro e w4 ⟨rfl, hk⟩; replace hb := hb.trans (hk.1.mono hb.size); clear hk)
        go_ret
        first | exact ⟨rfl, hb⟩ | exact ⟨ret_bool (by simp; omega), hb⟩

set_option maxRecDepth 100000 in
theorem lifted (os : Os) (started : os.Started) (H : Type) (enc : TypeId × Value → H) :
    ReturnsInHanded {} Try.checked os 5 .any (Rows.fnRootsSpec.pre6 enc Try.prog Try.f5 Rows.fnRootsRow.domain false) (Rows.fnRootsSpec.post enc Try.prog Try.f5 false true false false) := by
  refine returnsInHanded_of_change (C := Try.checked) own started (by kernel_rfl) Try.func5
    (ChangeSpec.witness6 (enc := enc) (C := Try.checked) false ⟨#[], #[.slice none 0 0], []⟩ 8 (by kernel_rfl) (by kernel_rfl) (by kernel_rfl) (by kernel_rfl)) ?_
  intro W base args ds gs before hval0 hW hcnd _
  have hval : ∀ (j : Nat) t v, Try.f5.params[j]? = some t → args[j]? = some v → Value.okWide Try.prog W .any base t v := hval0
  have hW' := hW
  obtain ⟨p, q, hA0, hV, rfl, hfz, hnd⟩ := hW
  have hA : DataW.TrodAll enc Try.prog W 0 (fun _ => true) true Try.f5.params.toList args.toList ds p := hA0
  rw [Try.params5] at hA hval
  obtain ⟨v0, vs0, d0, ds0, p0, q0, hargs, rfl, rfl, h0, r0⟩ := trodAll_cons hA
  obtain ⟨rfl, rfl, rfl⟩ := trodAll_nil r0
  obtain rfl : args = #[v0] := by cases args; simp_all
  obtain ⟨rfl, rfl⟩ := trodVars_none hV
  obtain ⟨a0, len0, cap0, rfl⟩ := okWide_slice Try.underlying22 (hval 0 22 v0 rfl rfl)
  have k0 := h0
  have lt0 : ∀ x ∈ p0, x.block < W.heap.size := by obtain ⟨m, hm⟩ := k0; exact DataW.trod_lt m _ _ _ hm
  obtain ⟨z0, w0⟩ : ∃ zs, IsRow .u8 W a0 len0 cap0 zs := by
    obtain ⟨fuel, hf⟩ := h0
    rcases open_ints Try.underlying22 Try.underlying5 (by kernel_rfl) hf with ⟨hcs, _⟩ | ⟨x, l, c, zs, hcs, _, hl, hm, hz, _, hcell, hwz⟩
    · simp [Value.cells] at hcs
      obtain ⟨rfl, rfl, rfl⟩ := hcs
      exact ⟨[], .inl ⟨rfl, rfl, rfl, rfl⟩⟩
    · simp [Value.cells] at hcs
      obtain ⟨rfl, rfl, rfl⟩ := hcs
      exact ⟨zs, .inr ⟨_, rfl, hl, hm, by simpa using hz, hcell, hwz⟩⟩
  clear hA0 hval0
  refine (walk a0 len0 cap0 z0 W w0).mono fun e W' ⟨he, bel⟩ => ?_
  subst he
  exact ⟨_, rfl, _, _, _, [], _, [], hW', trodAll_mk1 (shut_bool Try.underlying4 _), (trodAll_cons_mk (Below.trod laidOut (by kernel_rfl) (of_decide_eq_true (by kernel_rfl)) k0 bel lt0) trodAll_mk0), rfl, bel.frame _, fun h => by cases h⟩

theorem over : Rows.fnRootsRow.holds Try.pinned (OpenSpec.ofChange Rows.fnRootsSpec) :=
  OpenClaim.holds_of_wide 5 Try.f5 rfl rfl rfl rfl rfl rfl rfl ⟨rfl, rfl, rfl, rfl, rfl⟩ rfl rfl rfl rfl rfl (by kernel_rfl) Try.func5 (by kernel_rfl)
    (of_decide_eq_true (by kernel_rfl)) (by unfold Func.isWrapper; first | (rw [if_pos (by decide +kernel)]; kernel_rfl) | (rw [if_neg (by decide +kernel)]; exact ⟨rfl, rfl⟩))
    (fun os started H enc _ => lifted os started H enc)

theorem proved : Rows.FnRootsSaid := over
end Go.Proofs.Ytlhocfgacikdeaa.fnRoots
namespace Go.Proofs.Ytlhocfgacikdeaa
theorem fnRoots_holds : Rows.FnRootsSaid := fnRoots.proved
#print axioms fnRoots_holds
end Go.Proofs.Ytlhocfgacikdeaa
