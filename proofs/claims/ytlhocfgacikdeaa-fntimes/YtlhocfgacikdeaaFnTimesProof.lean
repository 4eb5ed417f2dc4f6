/-
  Whatever bytes the law FnTimes draws its bytes and its rate from, it returns true and leaves the bytes as they were; no condition.
-/
import Derived.Test.YtlhocfgacikdeaaRows
import Derived.WalkKit
import Derived.ProofKit
import Derived.OpenShut
import Derived.Test.YtlhocfgacikdeaaBytes
import Derived.Test.YtlhocfgacikdeaaTimes
import Derived.Test.YtlhocfgacikdeaaRoots
import Derived.Test.YtlhocfgacikdeaaDraw2
import Derived.ShutString
import Derived.ChangeOld
import Derived.Below
namespace Go.Proofs.Ytlhocfgacikdeaa.fnTimes
open Go.ChangeShapes Go.WideShapes Go.ChangeAt Go.RowKit
open Go.ChangeMaps (open_string shut_string)
set_option linter.unusedVariables false

theorem own : ownKnob Try.prog.godebug = none := by kernel_rfl
theorem laidOut : laidOutB Try.prog = true := by kernel_rfl

/-- A slice of integers that came in. -/
def IsRow (k : IntKind) (w : World) (a : Option Addr) (len cap : Nat) (zs : List Int) : Prop :=
  (a = none ∧ len = 0 ∧ cap = 0 ∧ zs = []) ∨
  ∃ x, a = some x ∧ len ≤ cap ∧ cap ≤ maxLen ∧ zs.length = cap ∧ (∀ i, i < zs.length → w.cell? (x.add i) = some (.int k (zs.getD i 0))) ∧ ∀ n ∈ zs, (Lit.int k n).wf = true

theorem code_of {w : World} {a : Option Addr} {len cap : Nat} {zs : List Int} (h : IsRow .u8 w a len cap zs) : len ≤ 9223372036854775807 ∧ Code w w.heap.size a len := by
  rcases h with ⟨rfl, rfl, rfl, rfl⟩ | ⟨x, rfl, hl, hm, hz, hcell, hwz⟩
  · exact ⟨by omega, .inl rfl⟩
  · unfold maxLen at hm
    refine ⟨by omega, ?_⟩
    by_cases h0 : len = 0
    · exact .inl h0
    · obtain ⟨b, off, rfl, hc⟩ := ints_at hcell (by omega)
      refine .inr ⟨b, off, rfl, World.block_lt_of_cell? w _ (hc 0 (by omega)), fun k hk => ?_⟩
      have hb := bounds_u8 (hwz (zs.getD k 0) (by rw [List.getD_eq_getElem?_getD, List.getElem?_eq_getElem (by omega)]; exact List.getElem_mem _))
      exact ⟨zs.getD k 0, hb.1, hb.2, hc k (by omega)⟩

theorem ten : root2F 10 = 3 := (root2F_only (by decide) (by decide) (by decide)).symm
/-- What cutting upwards gives. -/
theorem up_is (n c : Int) (n0 : 0 ≤ n) (c0 : 1 ≤ c) : 0 ≤ upF n c ∧ n ≤ upF n c * c ∧ upF n c * c < n + c ∧ upF n c ≤ n / c + 1 ∧ (upF n c - 1) * c < n := by
  have e := Int.mul_ediv_add_emod n c
  rw [Int.mul_comm] at e
  have m0 := Int.emod_nonneg n (show c ≠ 0 by omega)
  have m1 := Int.emod_lt_of_pos n (show 0 < c by omega)
  have q0 : 0 ≤ n / c := Int.ediv_nonneg n0 (by omega)
  unfold upF
  by_cases h : n % c = 0
  · rw [if_pos h, Int.sub_mul]; omega
  · rw [if_neg h, Int.add_mul, Int.sub_mul, Int.add_mul]; omega

theorem walk (a0 : Option Addr) (len0 cap0 : Nat) (z0 : List Int) (w : World) (w0 : IsRow .u8 w a0 len0 cap0 z0) :
    Calls Try.prog 7 #[.slice a0 len0 cap0] w fun e w' => e = .returned (.bool true) ∧ Below w.heap.size w w' := by
  obtain ⟨hl, hcode⟩ := code_of w0
  clear w0
  have HC : Hid (Code w w.heap.size a0 len0) := hcode
  clear hcode
  go_enter Try.func7, Try.ntmps7
  go_wp2_with (go_at_call 23; refine (drawTimeOf a0 len0 cap0 _ hl HC.out).mono ?_; rintro e w1 ⟨n, r, rfl, ⟨n1, n2⟩, ⟨r1, r2⟩, hb⟩)
  have t10 := ten
  by_cases hno : r < 1 ∨ n < 0
  · have H : Hid _ := hno
    clear hno
    go_wp2_with (first | (go_at_call 24; refine (timeOf_impl_no _ _ H.out _).mono ?_; rintro e w2 ⟨rfl, hk⟩; replace hb := hb.trans (hk.1.mono hb.size); clear hk) | (go_at_call 14; refine (root2_impl _ (by omega) (by omega) _).mono ?_; rintro e w2 ⟨rfl, hk⟩; replace hb := hb.trans (hk.1.mono hb.size); clear hk))
    go_ret
    exact ⟨rfl, hb⟩
  by_cases hbig : n * 1000000000 / r < 9223372036854775807
  · by_cases h60 : 1152921504606846976 < n
    · have H : Hid _ := hbig
      clear hbig
      go_wp2_with (first | (go_at_call 24; refine (timeOf_impl_ok _ _ (by omega) (by omega) (by omega) (by omega) H.out _).mono ?_; rintro e w2 ⟨rfl, hk⟩; replace hb := hb.trans (hk.1.mono hb.size); clear hk) | (go_at_call 14; refine (root2_impl _ (by omega) (by omega) _).mono ?_; rintro e w2 ⟨rfl, hk⟩; replace hb := hb.trans (hk.1.mono hb.size); clear hk))
      go_ret
      exact ⟨rfl, hb⟩
    · obtain ⟨u0, u1, u2, u3, u4⟩ := up_is (n * 1000000000) r (by omega) (by omega)
      have H : Hid _ := hbig
      have q1 : n ≤ upF (n * 1000000000) r * r / 1000000000 := by omega
      have q2 : upF (n * 1000000000) r * r / 1000000000 ≤ 9223372036854775807 := by omega
      have q4 : (upF (n * 1000000000) r - 1) * r / 1000000000 < n := by omega
      have q5 : upF (n * 1000000000) r = 0 → n = 0 := by
        intro h
        rw [h] at u1
        omega
      have q6 : upF (n * 1000000000) r ≤ 9223372036854775807 := by omega
      clear hbig u1 u2 u3 u4
      go_wp2_with (first | (go_at_call 24; refine (timeOf_impl_ok _ _ (by omega) (by omega) (by omega) (by omega) H.out _).mono ?_; rintro e w2 ⟨rfl, hk⟩; replace hb := hb.trans (hk.1.mono hb.size); clear hk; generalize upF (n * 1000000000) r = t at *))
      by_cases ht : t = 0
      · have hn := q5 ht
        subst ht
        subst hn
        clear q5
        go_wp2_with (go_at_call 25; refine (bytesOf_impl_ok _ _ (by omega) (by omega) (by omega) (by omega) (by omega) _).mono ?_; rintro e w2 ⟨rfl, hk⟩; replace hb := hb.trans (hk.1.mono hb.size); clear hk)
        go_ret
        exact ⟨rfl, hb⟩
      · have ht' : (t == 0) = false := by simpa using ht
        clear q5
        go_wp2_with (go_at_call 25; refine (bytesOf_impl_ok _ _ (by omega) (by omega) (by omega) (by omega) (by omega) _).mono ?_; rintro e w2 ⟨rfl, hk⟩; replace hb := hb.trans (hk.1.mono hb.size); clear hk)
        go_ret
        exact ⟨ret_bool (by simp), hb⟩
  · have H : Hid _ := hbig
    clear hbig
    go_wp2_with (first | (go_at_call 24; refine (timeOf_impl_big _ _ (by omega) (by omega) (by omega) (by omega) H.out _).mono ?_; rintro e w2 ⟨rfl, hk⟩; replace hb := hb.trans (hk.1.mono hb.size); clear hk) | (go_at_call 14; refine (root2_impl _ (by omega) (by omega) _).mono ?_; rintro e w2 ⟨rfl, hk⟩; replace hb := hb.trans (hk.1.mono hb.size); clear hk))
    go_ret
    exact ⟨rfl, hb⟩

set_option maxRecDepth 100000 in
theorem lifted (os : Os) (started : os.Started) (H : Type) (enc : TypeId × Value → H) :
    ReturnsInHanded {} Try.checked os 7 .any (Rows.fnTimesSpec.pre6 enc Try.prog Try.f7 Rows.fnTimesRow.domain false) (Rows.fnTimesSpec.post enc Try.prog Try.f7 false true false false) := by
  refine returnsInHanded_of_change (C := Try.checked) own started (by kernel_rfl) Try.func7
    (ChangeSpec.witness6 (enc := enc) (C := Try.checked) false ⟨#[], #[.slice none 0 0], []⟩ 8 (by kernel_rfl) (by kernel_rfl) (by kernel_rfl) (by kernel_rfl)) ?_
  intro W base args ds gs before hval0 hW hcnd _
  have hval : ∀ (j : Nat) t v, Try.f7.params[j]? = some t → args[j]? = some v → Value.okWide Try.prog W .any base t v := hval0
  have hW' := hW
  obtain ⟨p, q, hA0, hV, rfl, hfz, hnd⟩ := hW
  have hA : DataW.TrodAll enc Try.prog W 0 (fun _ => true) true Try.f7.params.toList args.toList ds p := hA0
  rw [Try.params7] at hA hval
  obtain ⟨v0, vs0, d0, ds0, p0, q0, hargs, rfl, rfl, h0, r0⟩ := trodAll_cons hA
  obtain ⟨rfl, rfl, rfl⟩ := trodAll_nil r0
  obtain rfl : args = #[v0] := by cases args; simp_all
  obtain ⟨rfl, rfl⟩ := trodVars_none hV
  obtain ⟨a0, len0, cap0, rfl⟩ := okWide_slice Try.underlying22 (hval 0 22 v0 rfl rfl)
  have k0 := h0
  have lt0 : ∀ x ∈ p0, x.block < W.heap.size := by obtain ⟨m, hm⟩ := k0; exact DataW.trod_lt m _ _ _ hm
  obtain ⟨z0, w0⟩ : ∃ zs, IsRow .u8 W a0 len0 cap0 zs := by
    obtain ⟨fuel, hf⟩ := h0
    rcases open_ints Try.underlying22 Try.underlying5 (by kernel_rfl) hf with ⟨hcs, _⟩ | ⟨x, l, c, zs, hcs, _, hl, hm, hz, _, hcell, hwz⟩
    · simp [Value.cells] at hcs
      obtain ⟨rfl, rfl, rfl⟩ := hcs
      exact ⟨[], .inl ⟨rfl, rfl, rfl, rfl⟩⟩
    · simp [Value.cells] at hcs
      obtain ⟨rfl, rfl, rfl⟩ := hcs
      exact ⟨zs, .inr ⟨_, rfl, hl, hm, by simpa using hz, hcell, hwz⟩⟩
  clear hA0 hval0
  refine (walk a0 len0 cap0 z0 W w0).mono fun e W' ⟨he, bel⟩ => ?_
  subst he
  exact ⟨_, rfl, _, _, _, [], _, [], hW', trodAll_mk1 (shut_bool Try.underlying4 _), (trodAll_cons_mk (Below.trod laidOut (by kernel_rfl) (of_decide_eq_true (by kernel_rfl)) k0 bel lt0) trodAll_mk0), rfl, bel.frame _, fun h => by cases h⟩

theorem over : Rows.fnTimesRow.holds Try.pinned (OpenSpec.ofChange Rows.fnTimesSpec) :=
  OpenClaim.holds_of_wide 7 Try.f7 rfl rfl rfl rfl rfl rfl rfl ⟨rfl, rfl, rfl, rfl, rfl⟩ rfl rfl rfl rfl rfl (by kernel_rfl) Try.func7 (by kernel_rfl)
    (of_decide_eq_true (by kernel_rfl)) (by unfold Func.isWrapper; first | (rw [if_pos (by decide +kernel)]; kernel_rfl) | (rw [if_neg (by decide +kernel)]; exact ⟨rfl, rfl⟩))
    (fun os started H enc _ => lifted os started H enc)

theorem proved : Rows.FnTimesSaid := over
end Go.Proofs.Ytlhocfgacikdeaa.fnTimes
namespace Go.Proofs.Ytlhocfgacikdeaa
theorem fnTimes_holds : Rows.FnTimesSaid := fnTimes.proved
#print axioms fnTimes_holds
end Go.Proofs.Ytlhocfgacikdeaa
