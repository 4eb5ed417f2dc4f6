/-
  Whatever bytes the law FnMulDivs draws its three numbers from, it returns true and leaves the bytes as they were; no condition.
-/
import Derived.Test.YtlhocfgacikdeaaRows
import Derived.WalkKit
import Derived.ProofKit
import Derived.OpenShut
import Derived.Test.YtlhocfgacikdeaaMulDiv
import Derived.Test.YtlhocfgacikdeaaRoots
import Derived.Test.YtlhocfgacikdeaaDraw1
import Derived.ShutString
import Derived.ChangeOld
import Derived.Below
namespace Go.Proofs.Ytlhocfgacikdeaa.fnMulDivs
open Go.ChangeShapes Go.WideShapes Go.ChangeAt Go.RowKit
open Go.ChangeMaps (open_string shut_string)
set_option linter.unusedVariables false

theorem own : ownKnob Try.prog.godebug = none := by kernel_rfl
theorem laidOut : laidOutB Try.prog = true := by kernel_rfl

/-- A slice of integers that came in. -/
def IsRow (k : IntKind) (w : World) (a : Option Addr) (len cap : Nat) (zs : List Int) : Prop :=
  (a = none ∧ len = 0 ∧ cap = 0 ∧ zs = []) ∨
  ∃ x, a = some x ∧ len ≤ cap ∧ cap ≤ maxLen ∧ zs.length = cap ∧ (∀ i, i < zs.length → w.cell? (x.add i) = some (.int k (zs.getD i 0))) ∧ ∀ n ∈ zs, (Lit.int k n).wf = true

theorem code_of {w : World} {a : Option Addr} {len cap : Nat} {zs : List Int} (h : IsRow .u8 w a len cap zs) : len ≤ 9223372036854775807 ∧ Code w w.heap.size a len := by
  rcases h with ⟨rfl, rfl, rfl, rfl⟩ | ⟨x, rfl, hl, hm, hz, hcell, hwz⟩
  · exact ⟨by omega, .inl rfl⟩
  · unfold maxLen at hm
    refine ⟨by omega, ?_⟩
    by_cases h0 : len = 0
    · exact .inl h0
    · obtain ⟨b, off, rfl, hc⟩ := ints_at hcell (by omega)
      refine .inr ⟨b, off, rfl, World.block_lt_of_cell? w _ (hc 0 (by omega)), fun k hk => ?_⟩
      have hb := bounds_u8 (hwz (zs.getD k 0) (by rw [List.getD_eq_getElem?_getD, List.getElem?_eq_getElem (by omega)]; exact List.getElem_mem _))
      exact ⟨zs.getD k 0, hb.1, hb.2, hc k (by omega)⟩

theorem ten : root2F 10 = 3 := (root2F_only (by decide) (by decide) (by decide)).symm
theorem rem_pos (a : Int) (h : 0 ≤ a) : 0 ≤ a % 3037000499 ∧ a % 3037000499 ≤ 3037000498 := by omega
theorem small_prod (i k : Int) (i0 : 0 ≤ i) (i1 : i ≤ 3037000498) (k0 : 0 ≤ k) (k1 : k ≤ 3037000498) : 0 ≤ i * k ∧ i * k ≤ 9223372036854775807 := by
  have := Int.mul_le_mul i1 k1 k0 (by omega)
  exact ⟨Int.mul_nonneg i0 k0, by omega⟩
theorem more_less (p c : Int) (p0 : 0 ≤ p) (c0 : 1 ≤ c) : p / (c + 1) ≤ p / c := by
  have q := Int.ediv_nonneg p0 (show 0 ≤ c + 1 by omega)
  refine (Int.le_ediv_iff_mul_le (by omega)).2 ?_
  have := Int.ediv_mul_le p (show c + 1 ≠ 0 by omega)
  rw [Int.mul_add] at this
  omega

theorem walk (a0 : Option Addr) (len0 cap0 : Nat) (z0 : List Int) (w : World) (w0 : IsRow .u8 w a0 len0 cap0 z0) :
    Calls Try.prog 4 #[.slice a0 len0 cap0] w fun e w' => e = .returned (.bool true) ∧ Below w.heap.size w w' := by
  obtain ⟨hl, hcode⟩ := code_of w0
  clear w0
  have HC : Hid (Code w w.heap.size a0 len0) := hcode
  clear hcode
  go_enter Try.func4, Try.ntmps4
  go_wp2_with (go_at_call 12; refine (drawMulDiv a0 len0 cap0 _ hl HC.out).mono ?_; rintro e w1 ⟨a, b, c, rfl, ⟨a1, a2⟩, ⟨b1, b2⟩, ⟨c1, c2⟩, hb⟩)
  by_cases hno : a < 0 ∨ b < 0 ∨ c < 1
  · have t10 := ten
    have H : Hid _ := hno
    rcases (show a < 0 ∨ (¬ a < 0 ∧ b < 0) ∨ (¬ a < 0 ∧ ¬ b < 0 ∧ c < 1) by omega) with h | ⟨h, k⟩ | ⟨h, k, l⟩
    all_goals
      go_wp2_with (first | (go_at_call 13; refine (mulDiv_no _ _ _ H.out _).mono ?_; rintro e w2 ⟨rfl, hk⟩; replace hb := hb.trans (hk.1.mono hb.size); clear hk) | (go_at_call 14; refine (root2_impl _ (by omega) (by omega) _).mono ?_; rintro e w2 ⟨rfl, hk⟩; replace hb := hb.trans (hk.1.mono hb.size); clear hk))
      go_ret
      exact ⟨rfl, hb⟩
  have hp := Int.mul_nonneg (show 0 ≤ a by omega) (show 0 ≤ b by omega)
  have hq := Int.ediv_nonneg hp (show 0 ≤ c by omega)
  have hcm : b * a = a * b := Int.mul_comm b a
  have hi := rem_pos a (by omega)
  have hk' := rem_pos b (by omega)
  obtain ⟨i, ei⟩ : ∃ i, a % 3037000499 = i := ⟨_, rfl⟩
  obtain ⟨k, ek⟩ : ∃ k, b % 3037000499 = k := ⟨_, rfl⟩
  rw [ei] at hi
  rw [ek] at hk'
  have hs := small_prod i k hi.1 hi.2 hk'.1 hk'.2
  have hz := Int.ediv_nonneg hs.1 (show 0 ≤ c by omega)
  have h4 : i * k / c ≤ 9223372036854775807 := Int.le_trans (Int.ediv_le_self c hs.1) hs.2
  have H4 : Hid _ := h4
  have n1 : ¬ a < 0 := by omega
  have n2 : ¬ b < 0 := by omega
  have n3 : ¬ c < 1 := by omega
  by_cases hm : a * b / c ≤ 9223372036854775807
  · have H : Hid _ := hm
    have H2 : Hid (b * a / c ≤ 9223372036854775807) := by rw [hcm]; exact hm
    have hle := more_less (a * b) c hp (by omega)
    have hl0 := Int.ediv_nonneg hp (show 0 ≤ c + 1 by omega)
    have H3 : Hid (a * b / (c + 1) ≤ 9223372036854775807) := Int.le_trans hle hm
    go_wp2_with fail
    refine (mulDiv_ok a b c (by omega) (by omega) (by omega) (by omega) (by omega) (by omega) H.out _).mono ?_
    rintro e w2 ⟨rfl, hk⟩
    replace hb := hb.trans (hk.1.mono hb.size)
    clear hk
    go_wp2_with fail
    refine (mulDiv_ok b a c (by omega) (by omega) (by omega) (by omega) (by omega) (by omega) H2.out _).mono ?_
    rintro e w2 ⟨rfl, hk⟩
    replace hb := hb.trans (hk.1.mono hb.size)
    clear hk
    by_cases b3 : 0 < b
    · have hab : a * b / b = a := Int.mul_ediv_cancel a (by omega)
      have H5 : Hid (a * b / b ≤ 9223372036854775807) := by rw [hab]; exact a2
      go_wp2_with fail
      refine (mulDiv_ok a b b (by omega) (by omega) (by omega) (by omega) (by omega) (by omega) H5.out _).mono ?_
      rintro e w2 ⟨rfl, hk⟩
      replace hb := hb.trans (hk.1.mono hb.size)
      clear hk
      by_cases c3 : c < 9223372036854775807
      · go_wp2_with fail
        refine (mulDiv_ok a b (c + 1) (by omega) (by omega) (by omega) (by omega) (by omega) (by omega) H3.out _).mono ?_
        rintro e w2 ⟨rfl, hk⟩
        replace hb := hb.trans (hk.1.mono hb.size)
        clear hk
        go_wp2_with fail
        refine (mulDiv_ok i k c (by omega) (by omega) (by omega) (by omega) (by omega) (by omega) H4.out _).mono ?_
        rintro e w2 ⟨rfl, hk⟩
        replace hb := hb.trans (hk.1.mono hb.size)
        clear hk
        go_wp2
        go_ret
        exact ⟨rfl, hb⟩
      · go_wp2_with fail
        refine (mulDiv_ok i k c (by omega) (by omega) (by omega) (by omega) (by omega) (by omega) H4.out _).mono ?_
        rintro e w2 ⟨rfl, hk⟩
        replace hb := hb.trans (hk.1.mono hb.size)
        clear hk
        go_wp2
        go_ret
        exact ⟨rfl, hb⟩
    · by_cases c3 : c < 9223372036854775807
      · go_wp2_with fail
        refine (mulDiv_ok a b (c + 1) (by omega) (by omega) (by omega) (by omega) (by omega) (by omega) H3.out _).mono ?_
        rintro e w2 ⟨rfl, hk⟩
        replace hb := hb.trans (hk.1.mono hb.size)
        clear hk
        go_wp2_with fail
        refine (mulDiv_ok i k c (by omega) (by omega) (by omega) (by omega) (by omega) (by omega) H4.out _).mono ?_
        rintro e w2 ⟨rfl, hk⟩
        replace hb := hb.trans (hk.1.mono hb.size)
        clear hk
        go_wp2
        go_ret
        exact ⟨rfl, hb⟩
      · go_wp2_with fail
        refine (mulDiv_ok i k c (by omega) (by omega) (by omega) (by omega) (by omega) (by omega) H4.out _).mono ?_
        rintro e w2 ⟨rfl, hk⟩
        replace hb := hb.trans (hk.1.mono hb.size)
        clear hk
        go_wp2
        go_ret
        exact ⟨rfl, hb⟩
  · have H : Hid _ := hm
    have H2 : Hid (¬ b * a / c ≤ 9223372036854775807) := by rw [hcm]; exact hm
    have b3 : 0 < b := by
      rcases (show b = 0 ∨ 0 < b by omega) with h | h
      · rw [h] at hm; simp at hm
      · exact h
    have hab : a * b / b = a := Int.mul_ediv_cancel a (by omega)
    have H5 : Hid (a * b / b ≤ 9223372036854775807) := by rw [hab]; exact a2
    go_wp2_with fail
    refine (mulDiv_big a b c (by omega) (by omega) (by omega) (by omega) (by omega) (by omega) H.out _).mono ?_
    rintro e w2 ⟨rfl, hk⟩
    replace hb := hb.trans (hk.1.mono hb.size)
    clear hk
    go_wp2_with fail
    refine (mulDiv_big b a c (by omega) (by omega) (by omega) (by omega) (by omega) (by omega) (by have := H2.out; omega) _).mono ?_
    rintro e w2 ⟨rfl, hk⟩
    replace hb := hb.trans (hk.1.mono hb.size)
    clear hk
    go_wp2_with fail
    refine (mulDiv_ok a b b (by omega) (by omega) (by omega) (by omega) (by omega) (by omega) H5.out _).mono ?_
    rintro e w2 ⟨rfl, hk⟩
    replace hb := hb.trans (hk.1.mono hb.size)
    clear hk
    by_cases c3 : c < 9223372036854775807
    · go_wp2_with fail
      refine (mulDiv_ok i k c (by omega) (by omega) (by omega) (by omega) (by omega) (by omega) H4.out _).mono ?_
      rintro e w2 ⟨rfl, hk⟩
      replace hb := hb.trans (hk.1.mono hb.size)
      clear hk
      go_wp2
      go_ret
      exact ⟨rfl, hb⟩
    · go_wp2_with fail
      refine (mulDiv_ok i k c (by omega) (by omega) (by omega) (by omega) (by omega) (by omega) H4.out _).mono ?_
      rintro e w2 ⟨rfl, hk⟩
      replace hb := hb.trans (hk.1.mono hb.size)
      clear hk
      go_wp2
      go_ret
      exact ⟨rfl, hb⟩

set_option maxRecDepth 100000 in
theorem lifted (os : Os) (started : os.Started) (H : Type) (enc : TypeId × Value → H) :
    ReturnsInHanded {} Try.checked os 4 .any (Rows.fnMulDivsSpec.pre6 enc Try.prog Try.f4 Rows.fnMulDivsRow.domain false) (Rows.fnMulDivsSpec.post enc Try.prog Try.f4 false true false false) := by
  refine returnsInHanded_of_change (C := Try.checked) own started (by kernel_rfl) Try.func4
    (ChangeSpec.witness6 (enc := enc) (C := Try.checked) false ⟨#[], #[.slice none 0 0], []⟩ 8 (by kernel_rfl) (by kernel_rfl) (by kernel_rfl) (by kernel_rfl)) ?_
  intro W base args ds gs before hval0 hW hcnd _
  have hval : ∀ (j : Nat) t v, Try.f4.params[j]? = some t → args[j]? = some v → Value.okWide Try.prog W .any base t v := hval0
  have hW' := hW
  obtain ⟨p, q, hA0, hV, rfl, hfz, hnd⟩ := hW
  have hA : DataW.TrodAll enc Try.prog W 0 (fun _ => true) true Try.f4.params.toList args.toList ds p := hA0
  rw [Try.params4] at hA hval
  obtain ⟨v0, vs0, d0, ds0, p0, q0, hargs, rfl, rfl, h0, r0⟩ := trodAll_cons hA
  obtain ⟨rfl, rfl, rfl⟩ := trodAll_nil r0
  obtain rfl : args = #[v0] := by cases args; simp_all
  obtain ⟨rfl, rfl⟩ := trodVars_none hV
  obtain ⟨a0, len0, cap0, rfl⟩ := okWide_slice Try.underlying22 (hval 0 22 v0 rfl rfl)
  have k0 := h0
  have lt0 : ∀ x ∈ p0, x.block < W.heap.size := by obtain ⟨m, hm⟩ := k0; exact DataW.trod_lt m _ _ _ hm
  obtain ⟨z0, w0⟩ : ∃ zs, IsRow .u8 W a0 len0 cap0 zs := by
    obtain ⟨fuel, hf⟩ := h0
    rcases open_ints Try.underlying22 Try.underlying5 (by kernel_rfl) hf with ⟨hcs, _⟩ | ⟨x, l, c, zs, hcs, _, hl, hm, hz, _, hcell, hwz⟩
    · simp [Value.cells] at hcs
      obtain ⟨rfl, rfl, rfl⟩ := hcs
      exact ⟨[], .inl ⟨rfl, rfl, rfl, rfl⟩⟩
    · simp [Value.cells] at hcs
      obtain ⟨rfl, rfl, rfl⟩ := hcs
      exact ⟨zs, .inr ⟨_, rfl, hl, hm, by simpa using hz, hcell, hwz⟩⟩
  clear hA0 hval0
  refine (walk a0 len0 cap0 z0 W w0).mono fun e W' ⟨he, bel⟩ => ?_
  subst he
  exact ⟨_, rfl, _, _, _, [], _, [], hW', trodAll_mk1 (shut_bool Try.underlying4 _), (trodAll_cons_mk (Below.trod laidOut (by kernel_rfl) (of_decide_eq_true (by kernel_rfl)) k0 bel lt0) trodAll_mk0), rfl, bel.frame _, fun h => by cases h⟩

theorem over : Rows.fnMulDivsRow.holds Try.pinned (OpenSpec.ofChange Rows.fnMulDivsSpec) :=
  OpenClaim.holds_of_wide 4 Try.f4 rfl rfl rfl rfl rfl rfl rfl ⟨rfl, rfl, rfl, rfl, rfl⟩ rfl rfl rfl rfl rfl (by kernel_rfl) Try.func4 (by kernel_rfl)
    (of_decide_eq_true (by kernel_rfl)) (by unfold Func.isWrapper; first | (rw [if_pos (by decide +kernel)]; kernel_rfl) | (rw [if_neg (by decide +kernel)]; exact ⟨rfl, rfl⟩))
    (fun os started H enc _ => lifted os started H enc)

theorem proved : Rows.FnMulDivsSaid := over
end Go.Proofs.Ytlhocfgacikdeaa.fnMulDivs
namespace Go.Proofs.Ytlhocfgacikdeaa
theorem fnMulDivs_holds : Rows.FnMulDivsSaid := fnMulDivs.proved
#print axioms fnMulDivs_holds
end Go.Proofs.Ytlhocfgacikdeaa
