/-
  Whatever bytes the law FnExactEcnOf is given, it returns true and leaves the bytes as they were: the program's EcnOf answers as the specification's; no condition.
-/
import Derived.Test.YtaihddnhkfboaajRows
import Derived.WalkKit
import Derived.ProofKit
import Derived.OpenShut
import Derived.Test.YtaihddnhkfboaajSParse
import Derived.ShutString
import Derived.ChangeOld
import Derived.Below
namespace Go.Proofs.Ytaihddnhkfboaaj.fnExactEcnOf
open Go.ChangeShapes Go.WideShapes Go.ChangeAt Go.RowKit
open Go.ChangeMaps (open_string shut_string)
set_option linter.unusedVariables false

theorem own : ownKnob Try.prog.godebug = none := by kernel_rfl
theorem laidOut : laidOutB Try.prog = true := by kernel_rfl

/-- A slice of integers that came in. -/
def IsRow (k : IntKind) (w : World) (a : Option Addr) (len cap : Nat) (zs : List Int) : Prop :=
  (a = none ∧ len = 0 ∧ cap = 0 ∧ zs = []) ∨
  ∃ x, a = some x ∧ len ≤ cap ∧ cap ≤ maxLen ∧ zs.length = cap ∧ (∀ i, i < zs.length → w.cell? (x.add i) = some (.int k (zs.getD i 0))) ∧ ∀ n ∈ zs, (Lit.int k n).wf = true

theorem row_of {w : World} {a : Option Addr} {len cap : Nat} {zs : List Int} (h : IsRow .u8 w a len cap zs) : Row .u8 w a len (fun i => zs.getD i 0) ∧ Byt len (fun i => zs.getD i 0) ∧ len ≤ cap := by
  rcases h with ⟨rfl, rfl, rfl, rfl⟩ | ⟨x, rfl, hl, hm, hz, hcell, hwz⟩
  · exact ⟨.inl rfl, fun i hi => absurd hi (Nat.not_lt_zero _), Nat.le_refl _⟩
  · by_cases h0 : len = 0
    · subst h0
      exact ⟨.inl rfl, fun i hi => absurd hi (Nat.not_lt_zero _), hl⟩
    · obtain ⟨b, off, rfl, hc⟩ := ints_at hcell (by omega)
      refine ⟨.inr ⟨b, off, rfl, World.block_lt_of_cell? w _ (hc 0 (by omega)), fun k hk => hc k (by omega)⟩, fun k hk => ?_, hl⟩
      exact bounds_u8 (hwz (zs.getD k 0) (by rw [List.getD_eq_getElem?_getD, List.getElem?_eq_getElem (by omega)]; exact List.getElem_mem _))

set_option maxHeartbeats 4000000 in
theorem walk (a0 : Option Addr) (len0 cap0 : Nat) (z0 : List Int) (w : World) (w0 : IsRow .u8 w a0 len0 cap0 z0) :
    Calls Try.prog 3 #[.slice a0 len0 cap0] w fun e w' => e = .returned (.bool true) ∧ Below w.heap.size w w' := by
  obtain ⟨hr, hf, hcap⟩ := row_of w0
  generalize (fun i => z0.getD i 0) = f at hr hf
  clear w0
  have HR : Hid (Row .u8 w a0 len0 f) := hr
  have HF : Hid (Byt len0 f) := hf
  clear hr hf
  by_cases hbig : 1048576 < (len0 : Int)
  · go_enter Try.func3, Try.ntmps3
    go_wp2
    go_ret
    exact ⟨rfl, Below.refl _ _⟩
  · have hn : len0 ≤ 1048576 := by omega
    go_enter Try.func3, Try.ntmps3
    go_wp2_with (go_at_call 8; refine (toByteS_zn a0 len0 cap0 f _ HR.out hn).mono ?_; rintro e w1 ⟨d1, rfl, o1, b1⟩)
    go_wp2_with (go_at_call 7; refine (secn_all d1 len0 f _ o1.row HF.out hn).mono ?_; rintro e w2 ⟨rfl, b2⟩)
    have B2 := b1.trans (b2.mono b1.size)
    go_wp2_with (go_at_call 8; refine (toByteS_zn a0 len0 cap0 f _ (Row.below HR.out B2) hn).mono ?_; rintro e w3 ⟨d3, rfl, o3, b3⟩)
    have B3 := B2.trans (b3.mono B2.size)
    go_wp2_with (go_at_call 9; refine (iecn_all d3 len0 len0 f _ o3.row HF.out hn (Nat.le_refl _)).mono ?_; rintro e w4 ⟨rfl, b4⟩)
    have B4 := B3.trans (b4.mono B3.size)
    go_wp2_with (go_at_call 8; refine (toByteS_zn a0 len0 cap0 f _ (Row.below HR.out B4) hn).mono ?_; rintro e w5 ⟨d5, rfl, o5, b5⟩)
    have B5 := B4.trans (b5.mono B4.size)
    go_wp2_with (go_at_call 10; refine (eqByteS_yes d3 d5 len0 len0 len0 f f _ ((o3.below b4).below b5).row o5.row (fun _ _ => rfl) (by omega)).mono ?_; rintro e w6 ⟨rfl, k6⟩)
    go_ret
    exact ⟨rfl, B5.trans (k6.1.mono B5.size)⟩

set_option maxRecDepth 100000 in
theorem lifted (os : Os) (started : os.Started) (H : Type) (enc : TypeId × Value → H) :
    ReturnsInHanded {} Try.checked os 3 .any (Rows.fnExactEcnOfSpec.pre6 enc Try.prog Try.f3 Rows.fnExactEcnOfRow.domain false) (Rows.fnExactEcnOfSpec.post enc Try.prog Try.f3 false true false false) := by
  refine returnsInHanded_of_change (C := Try.checked) own started (by kernel_rfl) Try.func3
    (ChangeSpec.witness6 (enc := enc) (C := Try.checked) false ⟨#[], #[.slice none 0 0], []⟩ 8 (by kernel_rfl) (by kernel_rfl) (by kernel_rfl) (by kernel_rfl)) ?_
  intro W base args ds gs before hval0 hW hcnd _
  have hval : ∀ (j : Nat) t v, Try.f3.params[j]? = some t → args[j]? = some v → Value.okWide Try.prog W .any base t v := hval0
  have hW' := hW
  obtain ⟨p, q, hA0, hV, rfl, hfz, hnd⟩ := hW
  have hA : DataW.TrodAll enc Try.prog W 0 (fun _ => true) true Try.f3.params.toList args.toList ds p := hA0
  rw [Try.params3] at hA hval
  obtain ⟨v0, vs0, d0, ds0, p0, q0, hargs, rfl, rfl, h0, r0⟩ := trodAll_cons hA
  obtain ⟨rfl, rfl, rfl⟩ := trodAll_nil r0
  obtain rfl : args = #[v0] := by cases args; simp_all
  obtain ⟨rfl, rfl⟩ := trodVars_none hV
  obtain ⟨a0, len0, cap0, rfl⟩ := okWide_slice Try.underlying22 (hval 0 22 v0 rfl rfl)
  have k0 := h0
  have lt0 : ∀ x ∈ p0, x.block < W.heap.size := by obtain ⟨m, hm⟩ := k0; exact DataW.trod_lt m _ _ _ hm
  obtain ⟨z0, w0⟩ : ∃ zs, IsRow .u8 W a0 len0 cap0 zs := by
    obtain ⟨fuel, hf⟩ := h0
    rcases open_ints Try.underlying22 Try.underlying5 (by kernel_rfl) hf with ⟨hcs, _⟩ | ⟨x, l, c, zs, hcs, _, hl, hm, hz, _, hcell, hwz⟩
    · simp [Value.cells] at hcs
      obtain ⟨rfl, rfl, rfl⟩ := hcs
      exact ⟨[], .inl ⟨rfl, rfl, rfl, rfl⟩⟩
    · simp [Value.cells] at hcs
      obtain ⟨rfl, rfl, rfl⟩ := hcs
      exact ⟨zs, .inr ⟨_, rfl, hl, hm, by simpa using hz, hcell, hwz⟩⟩
  clear hA0 hval0
  refine (walk a0 len0 cap0 z0 W w0).mono fun e W' ⟨he, bel⟩ => ?_
  subst he
  exact ⟨_, rfl, _, _, _, [], _, [], hW', trodAll_mk1 (shut_bool Try.underlying4 _), (trodAll_cons_mk (Below.trod laidOut (by kernel_rfl) (of_decide_eq_true (by kernel_rfl)) k0 bel lt0) trodAll_mk0), rfl, bel.frame _, fun h => by cases h⟩

theorem over : Rows.fnExactEcnOfRow.holds Try.pinned (OpenSpec.ofChange Rows.fnExactEcnOfSpec) :=
  OpenClaim.holds_of_wide 3 Try.f3 rfl rfl rfl rfl rfl rfl rfl ⟨rfl, rfl, rfl, rfl, rfl⟩ rfl rfl rfl rfl rfl (by kernel_rfl) Try.func3 (by kernel_rfl)
    (of_decide_eq_true (by kernel_rfl)) (by unfold Func.isWrapper; first | (rw [if_pos (by decide +kernel)]; kernel_rfl) | (rw [if_neg (by decide +kernel)]; exact ⟨rfl, rfl⟩))
    (fun os started H enc _ => lifted os started H enc)

theorem proved : Rows.FnExactEcnOfSaid := over
end Go.Proofs.Ytaihddnhkfboaaj.fnExactEcnOf
namespace Go.Proofs.Ytaihddnhkfboaaj
theorem fnExactEcnOf_holds : Rows.FnExactEcnOfSaid := fnExactEcnOf.proved
#print axioms fnExactEcnOf_holds
end Go.Proofs.Ytaihddnhkfboaaj
