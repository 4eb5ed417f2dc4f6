/-
  Whatever bytes the law FnSats draws its two numbers from, it returns true and leaves the bytes as they were; no condition.
-/
import Derived.Test.YtlhocfgacikdeaaRows
import Derived.WalkKit
import Derived.ProofKit
import Derived.OpenShut
import Derived.Test.YtlhocfgacikdeaaSatMul
import Derived.Test.YtlhocfgacikdeaaDraw1
import Derived.ShutString
import Derived.ChangeOld
import Derived.Below
namespace Go.Proofs.Ytlhocfgacikdeaa.fnSats
open Go.ChangeShapes Go.WideShapes Go.ChangeAt Go.RowKit
open Go.ChangeMaps (open_string shut_string)
set_option linter.unusedVariables false

theorem own : ownKnob Try.prog.godebug = none := by kernel_rfl
theorem laidOut : laidOutB Try.prog = true := by kernel_rfl

/-- A slice of integers that came in. -/
def IsRow (k : IntKind) (w : World) (a : Option Addr) (len cap : Nat) (zs : List Int) : Prop :=
  (a = none ∧ len = 0 ∧ cap = 0 ∧ zs = []) ∨
  ∃ x, a = some x ∧ len ≤ cap ∧ cap ≤ maxLen ∧ zs.length = cap ∧ (∀ i, i < zs.length → w.cell? (x.add i) = some (.int k (zs.getD i 0))) ∧ ∀ n ∈ zs, (Lit.int k n).wf = true

theorem code_of {w : World} {a : Option Addr} {len cap : Nat} {zs : List Int} (h : IsRow .u8 w a len cap zs) : len ≤ 9223372036854775807 ∧ Code w w.heap.size a len := by
  rcases h with ⟨rfl, rfl, rfl, rfl⟩ | ⟨x, rfl, hl, hm, hz, hcell, hwz⟩
  · exact ⟨by omega, .inl rfl⟩
  · unfold maxLen at hm
    refine ⟨by omega, ?_⟩
    by_cases h0 : len = 0
    · exact .inl h0
    · obtain ⟨b, off, rfl, hc⟩ := ints_at hcell (by omega)
      refine .inr ⟨b, off, rfl, World.block_lt_of_cell? w _ (hc 0 (by omega)), fun k hk => ?_⟩
      have hb := bounds_u8 (hwz (zs.getD k 0) (by rw [List.getD_eq_getElem?_getD, List.getElem?_eq_getElem (by omega)]; exact List.getElem_mem _))
      exact ⟨zs.getD k 0, hb.1, hb.2, hc k (by omega)⟩

theorem add_comm' (a b : Int) : satAddF a b = satAddF b a := by
  unfold satAddF
  rw [Int.add_comm]
theorem mul_comm' (a b : Int) : satMulF a b = satMulF b a := by
  unfold satMulF
  rw [Int.mul_comm]
theorem rem_bd (a : Int) (h0 : -9223372036854775808 ≤ a) (h1 : a ≤ 9223372036854775807) : -1000002 ≤ a.tmod 1000003 ∧ a.tmod 1000003 ≤ 1000002 := by
  rcases Int.le_total 0 a with h | h
  · rw [Int.tmod_eq_emod_of_nonneg h]; omega
  · have e : a.tmod 1000003 = -((-a) % 1000003) := by
      rw [← Int.tmod_eq_emod_of_nonneg (show 0 ≤ -a by omega), Int.neg_tmod, Int.neg_neg]
    rw [e]; omega
theorem small_mul (x y : Int) (x0 : -1000002 ≤ x) (x1 : x ≤ 1000002) (y0 : -1000002 ≤ y) (y1 : y ≤ 1000002) : -1000004000004 ≤ x * y ∧ x * y ≤ 1000004000004 := by
  have h1 : absF x ≤ 1000002 ∧ 0 ≤ absF x := by unfold absF; omega
  have h2 : absF y ≤ 1000002 ∧ 0 ≤ absF y := by unfold absF; omega
  have hp := Int.mul_le_mul h1.1 h2.1 h2.2 (by omega)
  have hq := Int.mul_nonneg h1.2 h2.2
  have ex := heldF_hi (a := x) (by omega)
  have ey := heldF_hi (a := y) (by omega)
  by_cases h : x < 0 ↔ y < 0
  · have := mul_same x y h
    rw [ex, ey] at this
    omega
  · have := mul_other x y h
    rw [ex, ey] at this
    omega
theorem add_small (x y : Int) (x0 : -1000002 ≤ x) (x1 : x ≤ 1000002) (y0 : -1000002 ≤ y) (y1 : y ≤ 1000002) : satAddF x y = x + y := by
  unfold satAddF
  rw [heldF_hi (by omega), heldF_hi (by omega)]
  omega
theorem sub_small (x y : Int) (x0 : -1000002 ≤ x) (x1 : x ≤ 1000002) (y0 : -1000002 ≤ y) (y1 : y ≤ 1000002) : satAddF x (-heldF y) = x - y := by
  rw [heldF_hi (a := y) (by omega), add_small x (-y) x0 x1 (by omega) (by omega)]
  omega
theorem mul_small (x y : Int) (x0 : -1000002 ≤ x) (x1 : x ≤ 1000002) (y0 : -1000002 ≤ y) (y1 : y ≤ 1000002) : satMulF x y = x * y := by
  have := small_mul x y x0 x1 y0 y1
  unfold satMulF cutF
  rw [heldF_hi (by omega), heldF_hi (by omega)]
  omega
theorem add_zero' (a : Int) (h : a ≤ 9223372036854775807) : satAddF a 0 = heldF a := by
  have := heldF_bd h
  unfold satAddF
  rw [heldF_hi (a := 0) (by omega)]
  omega
theorem sub_zero' (a : Int) (h : a ≤ 9223372036854775807) : satAddF a (-heldF 0) = heldF a := by
  rw [heldF_hi (a := 0) (by omega)]
  exact add_zero' a h
theorem mul_one' (a : Int) (h : a ≤ 9223372036854775807) : satMulF a 1 = heldF a := by
  have := heldF_bd h
  unfold satMulF cutF
  rw [heldF_hi (a := 1) (by omega), Int.mul_one]
  omega
theorem most_two : satMulF 9223372036854775807 2 = 9223372036854775807 := by decide

theorem walk (a0 : Option Addr) (len0 cap0 : Nat) (z0 : List Int) (w : World) (w0 : IsRow .u8 w a0 len0 cap0 z0) :
    Calls Try.prog 3 #[.slice a0 len0 cap0] w fun e w' => e = .returned (.bool true) ∧ Below w.heap.size w w' := by
  obtain ⟨hl, hcode⟩ := code_of w0
  clear w0
  have HC : Hid (Code w w.heap.size a0 len0) := hcode
  clear hcode
  go_enter Try.func3, Try.ntmps3
  go_wp2_with (go_at_call 8; refine (drawSatAdd a0 len0 cap0 _ hl HC.out).mono ?_; rintro e w1 ⟨a, b, rfl, ⟨a1, a2⟩, ⟨b1, b2⟩, hb⟩)
  have ha := rem_bd a a1 a2
  have hb' := rem_bd b b1 b2
  obtain ⟨x, hx⟩ : ∃ x, a.tmod 1000003 = x := ⟨_, rfl⟩
  obtain ⟨y, hy⟩ : ∃ y, b.tmod 1000003 = y := ⟨_, rfl⟩
  rw [hx] at ha
  rw [hy] at hb'
  have s1 := satAddF_bd a b
  have s2 := satMulF_bd a b
  have s3 := add_small x y ha.1 ha.2 hb'.1 hb'.2
  have s4 := mul_small x y ha.1 ha.2 hb'.1 hb'.2
  have s5 := sub_small x y ha.1 ha.2 hb'.1 hb'.2
  have s6 := small_mul x y ha.1 ha.2 hb'.1 hb'.2
  have s7 := add_zero' a a2
  have s8 := sub_zero' a a2
  have s9 := mul_one' a a2
  have s10 := most_two
  have C1 : satAddF b a = satAddF a b := add_comm' b a
  have C2 : satMulF b a = satMulF a b := mul_comm' b a
  go_wp2_with (first | (go_at_call 9; refine (satAdd_impl _ _ (by omega) (by omega) (by omega) (by omega) _).mono ?_; rintro e w2 ⟨rfl, rfl⟩) | (go_at_call 10; refine (satMul_impl _ _ (by omega) (by omega) (by omega) (by omega) _).mono ?_; rintro e w2 ⟨rfl, rfl⟩) | (go_at_call 11; refine (satSub_impl _ _ (by omega) (by omega) (by omega) (by omega) _).mono ?_; rintro e w2 ⟨rfl, rfl⟩))
  go_ret
  exact ⟨rfl, hb⟩

set_option maxRecDepth 100000 in
theorem lifted (os : Os) (started : os.Started) (H : Type) (enc : TypeId × Value → H) :
    ReturnsInHanded {} Try.checked os 3 .any (Rows.fnSatsSpec.pre6 enc Try.prog Try.f3 Rows.fnSatsRow.domain false) (Rows.fnSatsSpec.post enc Try.prog Try.f3 false true false false) := by
  refine returnsInHanded_of_change (C := Try.checked) own started (by kernel_rfl) Try.func3
    (ChangeSpec.witness6 (enc := enc) (C := Try.checked) false ⟨#[], #[.slice none 0 0], []⟩ 8 (by kernel_rfl) (by kernel_rfl) (by kernel_rfl) (by kernel_rfl)) ?_
  intro W base args ds gs before hval0 hW hcnd _
  have hval : ∀ (j : Nat) t v, Try.f3.params[j]? = some t → args[j]? = some v → Value.okWide Try.prog W .any base t v := hval0
  have hW' := hW
  obtain ⟨p, q, hA0, hV, rfl, hfz, hnd⟩ := hW
  have hA : DataW.TrodAll enc Try.prog W 0 (fun _ => true) true Try.f3.params.toList args.toList ds p := hA0
  rw [Try.params3] at hA hval
  obtain ⟨v0, vs0, d0, ds0, p0, q0, hargs, rfl, rfl, h0, r0⟩ := trodAll_cons hA
  obtain ⟨rfl, rfl, rfl⟩ := trodAll_nil r0
  obtain rfl : args = #[v0] := by cases args; simp_all
  obtain ⟨rfl, rfl⟩ := trodVars_none hV
  obtain ⟨a0, len0, cap0, rfl⟩ := okWide_slice Try.underlying22 (hval 0 22 v0 rfl rfl)
  have k0 := h0
  have lt0 : ∀ x ∈ p0, x.block < W.heap.size := by obtain ⟨m, hm⟩ := k0; exact DataW.trod_lt m _ _ _ hm
  obtain ⟨z0, w0⟩ : ∃ zs, IsRow .u8 W a0 len0 cap0 zs := by
    obtain ⟨fuel, hf⟩ := h0
    rcases open_ints Try.underlying22 Try.underlying5 (by kernel_rfl) hf with ⟨hcs, _⟩ | ⟨x, l, c, zs, hcs, _, hl, hm, hz, _, hcell, hwz⟩
    · simp [Value.cells] at hcs
      obtain ⟨rfl, rfl, rfl⟩ := hcs
      exact ⟨[], .inl ⟨rfl, rfl, rfl, rfl⟩⟩
    · simp [Value.cells] at hcs
      obtain ⟨rfl, rfl, rfl⟩ := hcs
      exact ⟨zs, .inr ⟨_, rfl, hl, hm, by simpa using hz, hcell, hwz⟩⟩
  clear hA0 hval0
  refine (walk a0 len0 cap0 z0 W w0).mono fun e W' ⟨he, bel⟩ => ?_
  subst he
  exact ⟨_, rfl, _, _, _, [], _, [], hW', trodAll_mk1 (shut_bool Try.underlying4 _), (trodAll_cons_mk (Below.trod laidOut (by kernel_rfl) (of_decide_eq_true (by kernel_rfl)) k0 bel lt0) trodAll_mk0), rfl, bel.frame _, fun h => by cases h⟩

theorem over : Rows.fnSatsRow.holds Try.pinned (OpenSpec.ofChange Rows.fnSatsSpec) :=
  OpenClaim.holds_of_wide 3 Try.f3 rfl rfl rfl rfl rfl rfl rfl ⟨rfl, rfl, rfl, rfl, rfl⟩ rfl rfl rfl rfl rfl (by kernel_rfl) Try.func3 (by kernel_rfl)
    (of_decide_eq_true (by kernel_rfl)) (by unfold Func.isWrapper; first | (rw [if_pos (by decide +kernel)]; kernel_rfl) | (rw [if_neg (by decide +kernel)]; exact ⟨rfl, rfl⟩))
    (fun os started H enc _ => lifted os started H enc)

theorem proved : Rows.FnSatsSaid := over
end Go.Proofs.Ytlhocfgacikdeaa.fnSats
namespace Go.Proofs.Ytlhocfgacikdeaa
theorem fnSats_holds : Rows.FnSatsSaid := fnSats.proved
#print axioms fnSats_holds
end Go.Proofs.Ytlhocfgacikdeaa
