/-
  Whatever bytes the law FnExactMarkCe is given, it returns true and leaves the bytes as they were: the program's MarkCe answers as the specification's, in memory of its own; no condition.
-/
import Derived.Test.YtboomccnfnaboajRows
import Derived.WalkKit
import Derived.ProofKit
import Derived.OpenShut
import Derived.Test.YtboomccnfnaboajMark2
import Derived.ShutString
import Derived.ChangeOld
import Derived.Below
namespace Go.Proofs.Ytboomccnfnaboaj.fnExactMarkCe
open Go.ChangeShapes Go.WideShapes Go.ChangeAt Go.RowKit
open Go.ChangeMaps (open_string shut_string)
set_option linter.unusedVariables false

theorem own : ownKnob Try.prog.godebug = none := by kernel_rfl
theorem laidOut : laidOutB Try.prog = true := by kernel_rfl

/-- A slice of integers that came in. -/
def IsRow (k : IntKind) (w : World) (a : Option Addr) (len cap : Nat) (zs : List Int) : Prop :=
  (a = none ∧ len = 0 ∧ cap = 0 ∧ zs = []) ∨
  ∃ x, a = some x ∧ len ≤ cap ∧ cap ≤ maxLen ∧ zs.length = cap ∧ (∀ i, i < zs.length → w.cell? (x.add i) = some (.int k (zs.getD i 0))) ∧ ∀ n ∈ zs, (Lit.int k n).wf = true

theorem row_of {w : World} {a : Option Addr} {len cap : Nat} {zs : List Int} (h : IsRow .u8 w a len cap zs) : Row .u8 w a len (fun i => zs.getD i 0) ∧ Byt len (fun i => zs.getD i 0) ∧ len ≤ cap := by
  rcases h with ⟨rfl, rfl, rfl, rfl⟩ | ⟨x, rfl, hl, hm, hz, hcell, hwz⟩
  · exact ⟨.inl rfl, fun i hi => absurd hi (Nat.not_lt_zero _), Nat.le_refl _⟩
  · by_cases h0 : len = 0
    · subst h0
      exact ⟨.inl rfl, fun i hi => absurd hi (Nat.not_lt_zero _), hl⟩
    · obtain ⟨b, off, rfl, hc⟩ := ints_at hcell (by omega)
      refine ⟨.inr ⟨b, off, rfl, World.block_lt_of_cell? w _ (hc 0 (by omega)), fun k hk => hc k (by omega)⟩, fun k hk => ?_, hl⟩
      exact bounds_u8 (hwz (zs.getD k 0) (by rw [List.getD_eq_getElem?_getD, List.getElem?_eq_getElem (by omega)]; exact List.getElem_mem _))

set_option maxHeartbeats 4000000 in
theorem walk (a0 : Option Addr) (len0 cap0 : Nat) (z0 : List Int) (w : World) (w0 : IsRow .u8 w a0 len0 cap0 z0) :
    Calls Try.prog 4 #[.slice a0 len0 cap0] w fun e w' => e = .returned (.bool true) ∧ Below w.heap.size w w' := by
  obtain ⟨hr, hf, hcap⟩ := row_of w0
  generalize (fun i => z0.getD i 0) = f at hr hf
  clear w0
  have HR : Hid (Row .u8 w a0 len0 f) := hr
  have HF : Hid (Byt len0 f) := hf
  clear hr hf
  by_cases hbig : 1048576 < (len0 : Int)
  · go_enter Try.func4, Try.ntmps4
    go_wp2
    go_ret
    exact ⟨rfl, Below.refl _ _⟩
  · have hn : len0 ≤ 1048576 := by omega
    obtain ⟨L, hL⟩ : ∃ L, mkN f len0 = L := ⟨_, rfl⟩
    have bL : L ≤ 100 := hL ▸ mkN_le f len0
    obtain ⟨ok, hok⟩ : ∃ b, mkB f len0 = b := ⟨_, rfl⟩
    obtain ⟨bf, hbf⟩ : ∃ b, markF f = b := ⟨_, rfl⟩
    have HS : Hid (∀ (W : World) (x : Option Addr), Row .u8 W x len0 f → Calls Try.prog 13 #[.slice x len0 len0] W fun e w' => ∃ (y : Option Addr) (cy : Nat), e = .returned (.tuple #[.slice y L cy, .bool ok]) ∧ Zn W.heap.size w'.heap.size w' y L bf ∧ Below W.heap.size W w') := fun W x hx => by
      have := smark_any x len0 f W hx HF.out hn
      rw [hL, hok, hbf] at this
      exact this
    have HB : Hid (∀ (W : World) (x : Option Addr), Row .u8 W x len0 f → Calls Try.prog 14 #[.slice x len0 len0] W fun e w' => ∃ (y : Option Addr) (cy : Nat), e = .returned (.tuple #[.slice y L cy, .bool ok]) ∧ Zn W.heap.size w'.heap.size w' y L bf ∧ Below W.heap.size W w') := fun W x hx => by
      have := imark_any x len0 f W hx HF.out hn
      rw [hL, hok, hbf] at this
      exact this
    clear hL hok hbf
    have B := Below.refl w.heap.size w
    cases ok
    all_goals
      go_enter Try.func4, Try.ntmps4
      go_wp2_with fail
      refine (toByteS_zn a0 len0 cap0 f _ HR.out hn).mono ?_
      rintro o w1 ⟨d1, rfl, zd1, b⟩
      replace B := B.trans (b.mono B.size)
      clear b
      go_wp2_with fail
      refine (HS.out _ d1 zd1.row).mono ?_
      rintro o w2 ⟨x2, c2, rfl, z2, b⟩
      have s2 := b.size
      replace B := B.trans (b.mono B.size)
      have hw2 : w.heap.size ≤ w2.heap.size := B.size
      clear b zd1 HS
      go_wp2_with fail
      refine (toByteS_zn a0 len0 cap0 f _ (Row.below HR.out B) hn).mono ?_
      rintro o w3 ⟨d3, rfl, zx3, b⟩
      have z3 := z2.below b
      have s3 := b.size
      replace B := B.trans (b.mono B.size)
      clear b z2
      go_wp2_with fail
      refine (HB.out _ d3 zx3.row).mono ?_
      rintro o w4 ⟨x4, c4, rfl, zg4, b⟩
      have z4 := z3.below b
      have zx4 := zx3.below b
      have s4 := b.size
      replace B := B.trans (b.mono B.size)
      clear b z3 zx3
      go_wp2_with fail
      refine (eqByteS_yes x4 x2 L c4 c2 bf bf _ zg4.row z4.row (fun _ _ => rfl) (by omega)).mono ?_
      rintro o w5 ⟨rfl, k⟩
      have z5 := z4.below k.1
      have zx5 := zx4.below k.1
      have zg5 := zg4.below k.1
      have s5 := k.1.size
      replace B := B.trans (k.1.mono B.size)
      clear k z4 zx4 zg4
      go_wp2_with fail
      refine (toByteS_zn a0 len0 cap0 f _ (Row.below HR.out B) hn).mono ?_
      rintro o w6 ⟨d6, rfl, zy6, b⟩
      have z6 := z5.below b
      have zx6 := zx5.below b
      have zg6 := zg5.below b
      have s6 := b.size
      replace B := B.trans (b.mono B.size)
      clear b z5 zx5 zg5
      go_wp2_with fail
      refine (eqByteS_yes d3 d6 len0 len0 len0 f f _ zx6.row zy6.row (fun _ _ => rfl) (by omega)).mono ?_
      rintro o w7 ⟨rfl, k⟩
      have z7 := z6.below k.1
      have zx7 := zx6.below k.1
      have zg7 := zg6.below k.1
      have s7 := k.1.size
      replace B := B.trans (k.1.mono B.size)
      clear k z6 zx6 zg6 zy6
      go_wp2_with fail
      refine (markByteS_zn w2.heap.size w3.heap.size d3 len0 len0 f 1 _ zx7 hn (by omega) (by omega)).mono ?_
      rintro o w8 ⟨rfl, zx8, ch⟩
      have z8 := z7.chg ch (.inl (Nat.le_refl _))
      have zg8 := zg7.chg ch (.inr (Nat.le_refl _))
      have s8 := ch.size
      have lw := B.size
      replace B := B.trans ((ch.below (by omega)).mono hw2)
      clear ch z7 zx7 zg7 zx8
      go_wp2_with fail
      refine (eqByteS_yes x4 x2 L c4 c2 bf bf _ zg8.row z8.row (fun _ _ => rfl) (by omega)).mono ?_
      rintro o w9 ⟨rfl, k⟩
      have z9 := z8.below k.1
      have zg9 := zg8.below k.1
      have s9 := k.1.size
      replace B := B.trans (k.1.mono B.size)
      clear k z8 zg8
      go_wp2_with fail
      refine (markByteS_zn w3.heap.size w4.heap.size x4 L c4 bf 1 _ zg9 (by omega) (by omega) (by omega)).mono ?_
      rintro o w10 ⟨rfl, zg10, ch⟩
      have z10 := z9.chg ch (.inl (by omega))
      have s10 := ch.size
      replace B := B.trans ((ch.below (by omega)).mono (by omega))
      clear ch z9 zg9
      go_wp2_with fail
      refine (heldByteS_any x4 L c4 1 _ zg10.row (by omega) (by omega) (by omega)).mono ?_
      rintro o w11 ⟨rfl, k⟩
      have z11 := z10.below k.1
      have zg11 := zg10.below k.1
      have s11 := k.1.size
      replace B := B.trans (k.1.mono B.size)
      clear k z10 zg10
      go_wp2_with fail
      refine (toByteS_zn a0 len0 cap0 f _ (Row.below HR.out B) hn).mono ?_
      rintro o w12 ⟨d12, rfl, zd12, b⟩
      have z12 := z11.below b
      have zg12 := zg11.below b
      replace B := B.trans (b.mono B.size)
      clear b z11 zg11
      go_wp2_with fail
      refine (HB.out _ d12 zd12.row).mono ?_
      rintro o w13 ⟨x13, c13, rfl, zh, b⟩
      have z13 := z12.below b
      have zg13 := zg12.below b
      replace B := B.trans (b.mono B.size)
      clear b z12 zg12 zd12
      go_wp2_with fail
      refine (eqByteS_yes x13 x2 L c13 c2 bf bf _ zh.row z13.row (fun _ _ => rfl) (by omega)).mono ?_
      rintro o w14 ⟨rfl, k⟩
      have zg14 := zg13.below k.1
      replace B := B.trans (k.1.mono B.size)
      clear k z13 zg13 zh
      go_wp2_with fail
      refine (heldByteS_any x4 L c4 1 _ zg14.row (by omega) (by omega) (by omega)).mono ?_
      rintro o w15 ⟨rfl, k⟩
      replace B := B.trans (k.1.mono B.size)
      clear k zg14
      go_wp2_with fail
      go_ret
      exact ⟨rfl, B⟩

set_option maxRecDepth 100000 in
theorem lifted (os : Os) (started : os.Started) (H : Type) (enc : TypeId × Value → H) :
    ReturnsInHanded {} Try.checked os 4 .any (Rows.fnExactMarkCeSpec.pre6 enc Try.prog Try.f4 Rows.fnExactMarkCeRow.domain false) (Rows.fnExactMarkCeSpec.post enc Try.prog Try.f4 false true false false) := by
  refine returnsInHanded_of_change (C := Try.checked) own started (by kernel_rfl) Try.func4
    (ChangeSpec.witness6 (enc := enc) (C := Try.checked) false ⟨#[], #[.slice none 0 0], []⟩ 8 (by kernel_rfl) (by kernel_rfl) (by kernel_rfl) (by kernel_rfl)) ?_
  intro W base args ds gs before hval0 hW hcnd _
  have hval : ∀ (j : Nat) t v, Try.f4.params[j]? = some t → args[j]? = some v → Value.okWide Try.prog W .any base t v := hval0
  have hW' := hW
  obtain ⟨p, q, hA0, hV, rfl, hfz, hnd⟩ := hW
  have hA : DataW.TrodAll enc Try.prog W 0 (fun _ => true) true Try.f4.params.toList args.toList ds p := hA0
  rw [Try.params4] at hA hval
  obtain ⟨v0, vs0, d0, ds0, p0, q0, hargs, rfl, rfl, h0, r0⟩ := trodAll_cons hA
  obtain ⟨rfl, rfl, rfl⟩ := trodAll_nil r0
  obtain rfl : args = #[v0] := by cases args; simp_all
  obtain ⟨rfl, rfl⟩ := trodVars_none hV
  obtain ⟨a0, len0, cap0, rfl⟩ := okWide_slice Try.underlying22 (hval 0 22 v0 rfl rfl)
  have k0 := h0
  have lt0 : ∀ x ∈ p0, x.block < W.heap.size := by obtain ⟨m, hm⟩ := k0; exact DataW.trod_lt m _ _ _ hm
  obtain ⟨z0, w0⟩ : ∃ zs, IsRow .u8 W a0 len0 cap0 zs := by
    obtain ⟨fuel, hf⟩ := h0
    rcases open_ints Try.underlying22 Try.underlying5 (by kernel_rfl) hf with ⟨hcs, _⟩ | ⟨x, l, c, zs, hcs, _, hl, hm, hz, _, hcell, hwz⟩
    · simp [Value.cells] at hcs
      obtain ⟨rfl, rfl, rfl⟩ := hcs
      exact ⟨[], .inl ⟨rfl, rfl, rfl, rfl⟩⟩
    · simp [Value.cells] at hcs
      obtain ⟨rfl, rfl, rfl⟩ := hcs
      exact ⟨zs, .inr ⟨_, rfl, hl, hm, by simpa using hz, hcell, hwz⟩⟩
  clear hA0 hval0
  refine (walk a0 len0 cap0 z0 W w0).mono fun e W' ⟨he, bel⟩ => ?_
  subst he
  exact ⟨_, rfl, _, _, _, [], _, [], hW', trodAll_mk1 (shut_bool Try.underlying4 _), (trodAll_cons_mk (Below.trod laidOut (by kernel_rfl) (of_decide_eq_true (by kernel_rfl)) k0 bel lt0) trodAll_mk0), rfl, bel.frame _, fun h => by cases h⟩

theorem over : Rows.fnExactMarkCeRow.holds Try.pinned (OpenSpec.ofChange Rows.fnExactMarkCeSpec) :=
  OpenClaim.holds_of_wide 4 Try.f4 rfl rfl rfl rfl rfl rfl rfl ⟨rfl, rfl, rfl, rfl, rfl⟩ rfl rfl rfl rfl rfl (by kernel_rfl) Try.func4 (by kernel_rfl)
    (of_decide_eq_true (by kernel_rfl)) (by unfold Func.isWrapper; first | (rw [if_pos (by decide +kernel)]; kernel_rfl) | (rw [if_neg (by decide +kernel)]; exact ⟨rfl, rfl⟩))
    (fun os started H enc _ => lifted os started H enc)

theorem proved : Rows.FnExactMarkCeSaid := over
end Go.Proofs.Ytboomccnfnaboaj.fnExactMarkCe
namespace Go.Proofs.Ytboomccnfnaboaj
theorem fnExactMarkCe_holds : Rows.FnExactMarkCeSaid := fnExactMarkCe.proved
#print axioms fnExactMarkCe_holds
end Go.Proofs.Ytboomccnfnaboaj
