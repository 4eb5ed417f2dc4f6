/-
  Whatever four numbers the law FnExactShapeNew is given, it returns true and leaves all that lay as it was: the program's ShapeNew answers as the specification's, and its answer owns its memory; no condition.
-/
import Derived.Test.YtmhdjccbkenhmaoRows
import Derived.WalkKit
import Derived.ProofKit
import Derived.OpenShut
import Derived.Test.YtmhdjccbkenhmaoShapeN
import Derived.Deep.Cut
import Derived.Deep.Slices
import Derived.ShutString
import Derived.ChangeOld
import Derived.Below
namespace Go.Proofs.Ytmhdjccbkenhmao.fnExactShapeNew
open Go.ChangeShapes Go.WideShapes Go.ChangeAt Go.RowKit
open Go.ChangeMaps (open_string shut_string)
set_option linter.unusedVariables false

theorem own : ownKnob Try.prog.godebug = none := by kernel_rfl
theorem laidOut : laidOutB Try.prog = true := by kernel_rfl
theorem cellsInt : Try.prog.cellsOf 3 = 1 := by kernel_rfl


set_option maxHeartbeats 4000000 in
theorem walk (z0 : Int) (w0 : (-9223372036854775808 ≤ z0 ∧ z0 ≤ 9223372036854775807)) (z1 : Int) (w1 : (-9223372036854775808 ≤ z1 ∧ z1 ≤ 9223372036854775807)) (z2 : Int) (w2 : (-9223372036854775808 ≤ z2 ∧ z2 ≤ 9223372036854775807)) (z3 : Int) (w3 : (-9223372036854775808 ≤ z3 ∧ z3 ≤ 9223372036854775807)) (w : World)  :
    Calls Try.prog 8 #[.int .i64 z0, .int .i64 z1, .int .i64 z2, .int .i64 z3] w fun e w' => e = .returned (.bool true) ∧ Below w.heap.size w w' := by
  clear w0 w1 w2 w3
  cases hnb : newSB z0 z1 z2 z3
  case false =>
    have HSP : Hid (∀ W, Calls Try.prog 32 #[.int .i64 z0, .int .i64 z1, .int .i64 z2, .int .i64 z3] W fun e w' => e = .returned (.tuple #[shVal ⟨0, 0, 0, 0, 0⟩ none 0 0 none 0 0, .bool false]) ∧ Below W.heap.size W w') := fun W => (sshapeNew_any z0 z1 z2 z3 W).mono (by
      rintro e w' (⟨hf, _⟩ | ⟨_, he, hb⟩)
      · rw [hnb] at hf; cases hf
      · exact ⟨he, hb⟩)
    have HIM : Hid (∀ W, Calls Try.prog 33 #[.int .i64 z0, .int .i64 z1, .int .i64 z2, .int .i64 z3] W fun e w' => e = .returned (.tuple #[shVal ⟨0, 0, 0, 0, 0⟩ none 0 0 none 0 0, .bool false]) ∧ Below W.heap.size W w') := fun W => (ishapeNew_any z0 z1 z2 z3 W).mono (by
      rintro e w' (⟨hf, _⟩ | ⟨_, he, hb⟩)
      · rw [hnb] at hf; cases hf
      · exact ⟨he, hb⟩)
    have HEQ : Hid (∀ W, Calls Try.prog 31 #[shVal ⟨0, 0, 0, 0, 0⟩ none 0 0 none 0 0, shVal ⟨0, 0, 0, 0, 0⟩ none 0 0 none 0 0] W fun e w' => e = .returned (.bool true) ∧ Below W.heap.size W w') := fun W => eqShape_yes ⟨0, 0, 0, 0, 0⟩ none none 0 0 0 none none 0 0 0 (fun _ => default) (fun _ => 0) W (by omega) (fun i hi => absurd hi (Nat.not_lt_zero _)) (by omega) (.inl rfl) (.inl rfl) (.inl rfl) (.inl rfl)
    have HMK : Hid (∀ W, Calls Try.prog 34 #[shVal ⟨0, 0, 0, 0, 0⟩ none 0 0 none 0 0, .int .i64 1] W fun e w' => e = .returned (.int .i64 1) ∧ Below W.heap.size W w') := fun W => markShape_nil ⟨0, 0, 0, 0, 0⟩ none 0 none 0 1 W (by omega) (by omega)
    have HHD : Hid (∀ W, Calls Try.prog 35 #[shVal ⟨0, 0, 0, 0, 0⟩ none 0 0 none 0 0, .int .i64 1] W fun e w' => e = .returned (.int .i64 1) ∧ Below W.heap.size W w') := fun W => (heldShape_any ⟨0, 0, 0, 0, 0⟩ none 0 0 none 0 (fun _ => default) 1 W (.inl rfl) (by omega) (by simp [cntF]) (by omega) (by omega)).mono (by
      rintro e w' ⟨he, hb⟩
      exact ⟨by rw [he]; rfl, hb⟩)
    clear hnb
    go_enter Try.func8, Try.ntmps8
    go_upto_region 2 with (go_at_call 32; refine (HSP.out _).mono ?_; rintro e w1 ⟨rfl, b1⟩; have HB1 : Hid (Below w.heap.size w w1) := b1; clear b1)
    obtain ⟨v1, hv1⟩ : ∃ v, w1.alloc (.cells shZero 54) = v := ⟨_, rfl⟩
    obtain ⟨V1, hV1⟩ : ∃ V, w1.heap.size = V := ⟨_, rfl⟩
    have S1 : Hid (Sits v1 V1 shZero 54) := by show Sits _ _ _ _; rw [← hv1]; exact Sits.new' hV1
    have BV1 : Hid (Below w.heap.size w v1) := by show Below _ _ _; rw [← hv1]; exact (HB1.out).alloc (HB1.out).size _
    rw [hv1, hV1]
    clear hv1 hV1 HB1
    go_upto_region 3 with (go_at_call 33; refine (HIM.out _).mono ?_; rintro e w2 ⟨rfl, b2⟩; have HB2 : Hid (Below v1.heap.size v1 w2) := b2; clear b2)
    obtain ⟨v2, hv2⟩ : ∃ v, w2.alloc (.cells shZero 54) = v := ⟨_, rfl⟩
    obtain ⟨V2, hV2⟩ : ∃ V, w2.heap.size = V := ⟨_, rfl⟩
    have bb : Below v1.heap.size v1 v2 := by rw [← hv2]; exact (HB2.out).alloc (HB2.out).size _
    have S2 : Hid (Sits v2 V2 shZero 54) := by show Sits _ _ _ _; rw [← hv2]; exact Sits.new' hV2
    have T1 : Hid (Sits v2 V1 shZero 54) := Sits.below S1.out bb (Sits.lt S1.out)
    have BV2 : Hid (Below w.heap.size w v2) := (BV1.out).trans (bb.mono (BV1.out).size)
    rw [hv2, hV2]
    clear hv2 hV2 bb HB2 S1 BV1
    have HA : Hid (∀ W, Below v2.heap.size v2 W → (Sits W V1 shZero 54 ∧ Sits W V2 shZero 54) ∧ Below w.heap.size w W) := fun W hW => ⟨⟨Sits.below T1.out hW (Sits.lt T1.out), Sits.below S2.out hW (Sits.lt S2.out)⟩, (BV2.out).trans (hW.mono (BV2.out).size)⟩
    obtain ⟨⟨sa, sb⟩, _⟩ := HA.out v2 (Below.refl _ _)
    have y0 := sa.cell 0
    have y1 := sa.cell 1
    have y2 := sa.cell 2
    have y3 := sa.cell 3
    have y4 := sa.cell 4
    have y5 := sa.cell 5
    have y6 := sa.cell 6
    have z0' := sb.cell 0
    have z1' := sb.cell 1
    have z2' := sb.cell 2
    have z3' := sb.cell 3
    have z4' := sb.cell 4
    have z5' := sb.cell 5
    have z6' := sb.cell 6
    clear sa sb S2 T1 BV2
    go_upto_region 6 with (go_at_call 31; refine (HEQ.out _).mono ?_; rintro e w3 ⟨rfl, b3⟩; have HB3 : Hid (Below v2.heap.size v2 w3) := b3; clear b3)
    clear y0 y1 y2 y3 y4 y5 y6 z0' z1' z2' z3' z4' z5' z6'
    obtain ⟨⟨_, sb⟩, _⟩ := HA.out w3 HB3.out
    have y0 := sb.cell 0
    have y1 := sb.cell 1
    have y2 := sb.cell 2
    have y3 := sb.cell 3
    have y4 := sb.cell 4
    have y5 := sb.cell 5
    have y6 := sb.cell 6
    clear sb
    go_upto_region 8 with (go_at_call 34; refine (HMK.out _).mono ?_; rintro e w4 ⟨rfl, b4⟩; have HB4 : Hid (Below v2.heap.size v2 w4) := (HB3.out).trans (b4.mono (HB3.out).size); clear b4)
    clear y0 y1 y2 y3 y4 y5 y6
    obtain ⟨⟨_, sb⟩, _⟩ := HA.out w4 HB4.out
    have y0 := sb.cell 0
    have y1 := sb.cell 1
    have y2 := sb.cell 2
    have y3 := sb.cell 3
    have y4 := sb.cell 4
    have y5 := sb.cell 5
    have y6 := sb.cell 6
    clear sb
    go_upto_region 13 with (go_at_call 35; refine (HHD.out _).mono ?_; rintro e w5 ⟨rfl, b5⟩; have HB5 : Hid (Below v2.heap.size v2 w5) := (HB4.out).trans (b5.mono (HB4.out).size); clear b5)
    clear y0 y1 y2 y3 y4 y5 y6
    go_upto_region 14 with (go_at_call 33; refine (HIM.out _).mono ?_; rintro e w6 ⟨rfl, b6⟩; have HB6 : Hid (Below v2.heap.size v2 w6) := (HB5.out).trans (b6.mono (HB5.out).size); clear b6)
    obtain ⟨v6, hv6⟩ : ∃ v, w6.alloc (.cells shZero 54) = v := ⟨_, rfl⟩
    obtain ⟨V6, hV6⟩ : ∃ V, w6.heap.size = V := ⟨_, rfl⟩
    have S6 : Sits v6 V6 shZero 54 := by rw [← hv6]; exact Sits.new' hV6
    have HB7 : Hid (Below v2.heap.size v2 v6) := by show Below _ _ _; rw [← hv6]; exact (HB6.out).alloc (HB6.out).size _
    rw [hv6, hV6]
    clear hv6 hV6
    obtain ⟨⟨sa, sb⟩, _⟩ := HA.out v6 HB7.out
    have y0 := sa.cell 0
    have y1 := sa.cell 1
    have y2 := sa.cell 2
    have y3 := sa.cell 3
    have y4 := sa.cell 4
    have y5 := sa.cell 5
    have y6 := sa.cell 6
    have z0' := S6.cell 0
    have z1' := S6.cell 1
    have z2' := S6.cell 2
    have z3' := S6.cell 3
    have z4' := S6.cell 4
    have z5' := S6.cell 5
    have z6' := S6.cell 6
    clear sa sb S6
    go_upto_region 17 with (go_at_call 31; refine (HEQ.out _).mono ?_; rintro e w8 ⟨rfl, b8⟩; have HB8 : Hid (Below v2.heap.size v2 w8) := (HB7.out).trans (b8.mono (HB7.out).size); clear b8)
    clear y0 y1 y2 y3 y4 y5 y6 z0' z1' z2' z3' z4' z5' z6'
    obtain ⟨⟨_, sb⟩, _⟩ := HA.out w8 HB8.out
    have y0 := sb.cell 0
    have y1 := sb.cell 1
    have y2 := sb.cell 2
    have y3 := sb.cell 3
    have y4 := sb.cell 4
    have y5 := sb.cell 5
    have y6 := sb.cell 6
    clear sb
    go_wp2_with (go_at_call 35; refine (HHD.out _).mono ?_; rintro e w9 ⟨rfl, b9⟩; have HB9 : Hid (Below v2.heap.size v2 w9) := (HB8.out).trans (b9.mono (HB8.out).size); clear b9)
    go_ret
    exact ⟨rfl, (HA.out w9 HB9.out).2⟩
  case true =>
    obtain ⟨L, hL⟩ : ∃ L : Nat → Ln, emL = L := ⟨_, rfl⟩
    have HSP : Hid (∀ W, Calls Try.prog 32 #[.int .i64 z0, .int .i64 z1, .int .i64 z2, .int .i64 z3] W fun e w' => ∃ (x : Option Addr) (cap : Nat), e = .returned (.tuple #[shVal ⟨z0, z1, 0, z2, z3⟩ x 4 cap none 0 0, .bool true]) ∧ LR w'.heap.size w' x 4 L ∧ Below W.heap.size W w') := fun W => (sshapeNew_any z0 z1 z2 z3 W).mono (by
      rintro e w' (⟨_, B, he, lo, hb⟩ | ⟨hf, _⟩)
      · exact ⟨some ⟨B, 0, none⟩, 4, he, by rw [← hL]; exact lo.lr, hb⟩
      · rw [hnb] at hf; cases hf)
    have HIM : Hid (∀ W, Calls Try.prog 33 #[.int .i64 z0, .int .i64 z1, .int .i64 z2, .int .i64 z3] W fun e w' => ∃ B : Nat, e = .returned (.tuple #[shVal ⟨z0, z1, 0, z2, z3⟩ (some ⟨B, 0, none⟩) 4 4 none 0 0, .bool true]) ∧ LO W.heap.size w' B 4 (fun _ => none) (fun _ => 0) L ∧ Below W.heap.size W w') := fun W => (ishapeNew_any z0 z1 z2 z3 W).mono (by
      rintro e w' (⟨_, B, he, lo, hb⟩ | ⟨hf, _⟩)
      · exact ⟨B, he, by rw [← hL]; exact lo, hb⟩
      · rw [hnb] at hf; cases hf)
    have HCN : Hid (cntF L 4 ≤ 1048576) := by show _ ≤ _; rw [← hL, cnt_em]; omega
    have HLN : Hid (∀ i, i < 4 → (L i).n ≤ 1048576) := fun i hi => Nat.le_trans (cntF_le L hi) HCN.out
    have HEQ : Hid (∀ W a a' ca ca', LR W.heap.size W a 4 L → LR W.heap.size W a' 4 L → Calls Try.prog 31 #[shVal ⟨z0, z1, 0, z2, z3⟩ a 4 ca none 0 0, shVal ⟨z0, z1, 0, z2, z3⟩ a' 4 ca' none 0 0] W fun e w' => e = .returned (.bool true) ∧ Below W.heap.size W w') := fun W a a' ca ca' h1 h2 => eqShape_yes ⟨z0, z1, 0, z2, z3⟩ a a' 4 ca ca' none none 0 0 0 L (fun _ => 0) W (by omega) HLN.out (by omega) h1 h2 (.inl rfl) (.inl rfl)
    obtain ⟨Q, hQ⟩ : ∃ q, upAt L 1 4 = q := ⟨_, rfl⟩
    have qn : ¬ Q < 0 := by rw [← hQ]; unfold upAt; omega
    have HQ : Hid (upAt L 1 4 = Q) := hQ
    clear hnb hL hQ
    go_enter Try.func8, Try.ntmps8
    go_upto_region 2 with (go_at_call 32; refine (HSP.out _).mono ?_; rintro e w1 ⟨x, cap, rfl, lr1, b1⟩; have HB1 : Hid (Below w.heap.size w w1) := b1; have HLR1 : Hid (LR w1.heap.size w1 x 4 L) := lr1; clear b1 lr1)
    obtain ⟨v1, hv1⟩ : ∃ v, w1.alloc (.cells (shCells ⟨z0, z1, 0, z2, z3⟩ x 4 cap none 0 0) 54) = v := ⟨_, rfl⟩
    obtain ⟨V1, hV1⟩ : ∃ V, w1.heap.size = V := ⟨_, rfl⟩
    have S1 : Hid (Sits v1 V1 (shCells ⟨z0, z1, 0, z2, z3⟩ x 4 cap none 0 0) 54) := by show Sits _ _ _ _; rw [← hv1]; exact Sits.new' hV1
    have BV1 : Hid (Below w.heap.size w v1) := by show Below _ _ _; rw [← hv1]; exact (HB1.out).alloc (HB1.out).size _
    have LR1 : Hid (LR v1.heap.size v1 x 4 L) := by
      have ba : Below w1.heap.size w1 v1 := by rw [← hv1]; exact (Below.refl _ _).alloc (Nat.le_refl _) _
      exact LR.go HLR1.out ba ba.size
    rw [hv1, hV1]
    clear hv1 hV1 HB1 HLR1
    go_upto_region 3 with (go_at_call 33; refine (HIM.out _).mono ?_; rintro e w2 ⟨B, rfl, lo2, b2⟩; have HB2 : Hid (Below v1.heap.size v1 w2) := b2; have HLO2 : Hid (LO v1.heap.size w2 B 4 (fun _ => none) (fun _ => 0) L) := lo2; clear b2 lo2)
    obtain ⟨v2, hv2⟩ : ∃ v, w2.alloc (.cells (shCells ⟨z0, z1, 0, z2, z3⟩ (some ⟨B, 0, none⟩) 4 4 none 0 0) 54) = v := ⟨_, rfl⟩
    obtain ⟨V2, hV2⟩ : ∃ V, w2.heap.size = V := ⟨_, rfl⟩
    have ba : Below w2.heap.size w2 v2 := by rw [← hv2]; exact (Below.refl _ _).alloc (Nat.le_refl _) _
    have bb : Below v1.heap.size v1 v2 := (HB2.out).trans (ba.mono (HB2.out).size)
    have S2 : Hid (Sits v2 V2 (shCells ⟨z0, z1, 0, z2, z3⟩ (some ⟨B, 0, none⟩) 4 4 none 0 0) 54) := by show Sits _ _ _ _; rw [← hv2]; exact Sits.new' hV2
    have LO2 : Hid (LO v1.heap.size v2 B 4 (fun _ => none) (fun _ => 0) L) := LO.below HLO2.out ba
    have UN2 : Hid (Under V2 B 4 (fun _ => none) L) := by show Under _ _ _ _ _; rw [← hV2]; exact LO.under HLO2.out
    have hv12 : v1.heap.size ≤ V2 := by rw [← hV2]; exact (HB2.out).size
    rw [hv2, hV2]
    clear hv2 hV2 ba HB2 HLO2
    have HBB : Hid (Below v1.heap.size v1 v2) := bb
    clear bb
    have HA : Hid (∀ W, Below v1.heap.size v1 W → (Sits W V1 (shCells ⟨z0, z1, 0, z2, z3⟩ x 4 cap none 0 0) 54 ∧ LR W.heap.size W x 4 L) ∧ Below w.heap.size w W) := fun W hW => ⟨⟨Sits.below S1.out hW (Sits.lt S1.out), LR.go LR1.out hW hW.size⟩, (BV1.out).trans (hW.mono (BV1.out).size)⟩
    obtain ⟨⟨sa, _⟩, _⟩ := HA.out v2 HBB.out
    have sb := S2.out
    have ya0' := sa.cell 0
    have ya1' := sa.cell 1
    have ya2' := sa.cell 2
    have ya3' := sa.cell 3
    have ya4' := sa.cell 4
    have ya5' := sa.cell 5
    have ya6' := sa.cell 6
    have yb0' := sb.cell 0
    have yb1' := sb.cell 1
    have yb2' := sb.cell 2
    have yb3' := sb.cell 3
    have yb4' := sb.cell 4
    have yb5' := sb.cell 5
    have yb6' := sb.cell 6
    clear sa sb
    go_upto_region 6 with (go_at_call 31; refine (HEQ.out _ (some ⟨B, 0, none⟩) x 4 cap (LO2.out).lr (HA.out v2 HBB.out).1.2).mono ?_; rintro e w3 ⟨rfl, b3⟩; have HB3 : Hid (Below v2.heap.size v2 w3) := b3; clear b3)
    clear ya0' ya1' ya2' ya3' ya4' ya5' ya6' yb0' yb1' yb2' yb3' yb4' yb5' yb6'
    have sb := Sits.below S2.out HB3.out (Sits.lt S2.out)
    have yb0' := sb.cell 0
    have yb1' := sb.cell 1
    have yb2' := sb.cell 2
    have yb3' := sb.cell 3
    have yb4' := sb.cell 4
    have yb5' := sb.cell 5
    have yb6' := sb.cell 6
    clear sb
    have hl2 : V2 < v2.heap.size := Sits.lt S2.out
    go_upto_region 8 with (go_at_call 34; refine (markShape_lo v1.heap.size V2 ⟨z0, z1, 0, z2, z3⟩ B 4 4 none 0 (fun _ => none) (fun _ => 0) L 1 _ (LO.below LO2.out HB3.out) UN2.out (by have := (HB3.out).size; omega) (by omega) HCN.out (by omega) (by omega)).mono ?_; rintro e w4 ⟨rfl, lo4, c4⟩; rw [HQ.out]; have HLO4 : Hid (LO v1.heap.size w4 B 4 (fun _ => none) (fun _ => 0) (upL L 1)) := lo4; have HC4 : Hid (Chg v1.heap.size V2 w3 w4) := c4; clear lo4 c4)
    clear yb0' yb1' yb2' yb3' yb4' yb5' yb6'
    have B4 : Hid (Below v1.heap.size v1 w4) := ((HBB.out).trans (Below.mono HB3.out (HBB.out).size)).trans (Chg.below HC4.out (Nat.le_trans (HBB.out).size (HB3.out).size))
    have S4 : Hid (Sits w4 V2 (shCells ⟨z0, z1, 0, z2, z3⟩ (some ⟨B, 0, none⟩) 4 4 none 0 0) 54) := Sits.chg (Sits.below S2.out HB3.out (Sits.lt S2.out)) HC4.out (.inr (Nat.le_refl _))
    have sb := S4.out
    have yb0' := sb.cell 0
    have yb1' := sb.cell 1
    have yb2' := sb.cell 2
    have yb3' := sb.cell 3
    have yb4' := sb.cell 4
    have yb5' := sb.cell 5
    have yb6' := sb.cell 6
    clear sb HB3 HC4 S2 LO2 UN2
    go_upto_region 13 with (go_at_call 35; refine (heldShape_any ⟨z0, z1, 0, z2, z3⟩ (some ⟨B, 0, none⟩) 4 4 none 0 L 1 _ (LO.lr HLO4.out) (by omega) HCN.out (by omega) (by omega)).mono ?_; rintro e w5 ⟨rfl, b5⟩; rw [HQ.out]; have HB5 : Hid (Below w4.heap.size w4 w5) := b5; clear b5)
    clear yb0' yb1' yb2' yb3' yb4' yb5' yb6'
    go_upto_region 14 with (go_at_call 33; refine (HIM.out _).mono ?_; rintro e w6 ⟨B6, rfl, lo6, b6⟩; have HB6 : Hid (Below w4.heap.size w4 w6) := (HB5.out).trans (b6.mono (HB5.out).size); have HLO6 : Hid (LO w5.heap.size w6 B6 4 (fun _ => none) (fun _ => 0) L) := lo6; clear b6 lo6)
    obtain ⟨v6, hv6⟩ : ∃ v, w6.alloc (.cells (shCells ⟨z0, z1, 0, z2, z3⟩ (some ⟨B6, 0, none⟩) 4 4 none 0 0) 54) = v := ⟨_, rfl⟩
    obtain ⟨V6, hV6⟩ : ∃ V, w6.heap.size = V := ⟨_, rfl⟩
    have ba : Below w6.heap.size w6 v6 := by rw [← hv6]; exact (Below.refl _ _).alloc (Nat.le_refl _) _
    have S6 : Sits v6 V6 (shCells ⟨z0, z1, 0, z2, z3⟩ (some ⟨B6, 0, none⟩) 4 4 none 0 0) 54 := by rw [← hv6]; exact Sits.new' hV6
    have HB7 : Hid (Below w4.heap.size w4 v6) := (HB6.out).trans (ba.mono (HB6.out).size)
    have LR6 : Hid (LR v6.heap.size v6 (some ⟨B6, 0, none⟩) 4 L) := LR.go (LO.lr HLO6.out) ba ba.size
    have B7 : Hid (Below v1.heap.size v1 v6) := (B4.out).trans (Below.mono HB7.out (B4.out).size)
    rw [hv6, hV6]
    clear hv6 hV6 ba
    obtain ⟨⟨sa, _⟩, _⟩ := HA.out v6 B7.out
    have ya0' := sa.cell 0
    have ya1' := sa.cell 1
    have ya2' := sa.cell 2
    have ya3' := sa.cell 3
    have ya4' := sa.cell 4
    have ya5' := sa.cell 5
    have ya6' := sa.cell 6
    have yh0' := S6.cell 0
    have yh1' := S6.cell 1
    have yh2' := S6.cell 2
    have yh3' := S6.cell 3
    have yh4' := S6.cell 4
    have yh5' := S6.cell 5
    have yh6' := S6.cell 6
    clear sa S6
    go_upto_region 17 with (go_at_call 31; refine (HEQ.out _ (some ⟨B6, 0, none⟩) x 4 cap LR6.out (HA.out v6 B7.out).1.2).mono ?_; rintro e w8 ⟨rfl, b8⟩; have HB8 : Hid (Below w4.heap.size w4 w8) := (HB7.out).trans (b8.mono (HB7.out).size); clear b8)
    clear ya0' ya1' ya2' ya3' ya4' ya5' ya6' yh0' yh1' yh2' yh3' yh4' yh5' yh6'
    have sb := Sits.below S4.out HB8.out (Sits.lt S4.out)
    have yb0' := sb.cell 0
    have yb1' := sb.cell 1
    have yb2' := sb.cell 2
    have yb3' := sb.cell 3
    have yb4' := sb.cell 4
    have yb5' := sb.cell 5
    have yb6' := sb.cell 6
    clear sb
    go_wp2_with (go_at_call 35; refine (heldShape_any ⟨z0, z1, 0, z2, z3⟩ (some ⟨B, 0, none⟩) 4 4 none 0 L 1 _ (LO.lr (LO.below HLO4.out HB8.out)) (by omega) HCN.out (by omega) (by omega)).mono ?_; rintro e w9 ⟨rfl, b9⟩; rw [HQ.out]; have HB9 : Hid (Below w4.heap.size w4 w9) := (HB8.out).trans (b9.mono (HB8.out).size); clear b9)
    go_ret
    exact ⟨rfl, (HA.out w9 ((B4.out).trans (Below.mono HB9.out (B4.out).size))).2⟩

section
variable {H : Type} {enc : TypeId × Value → H} {W : World} {base : Nat} {sp : Nat → Bool} {held : Bool}

theorem openInt {n : Nat} {c : Value} {y : DataW H × List MemPlace} (h : DataW.trod enc Try.prog W base sp held n 3 [c] = some y) : ∃ z : Int, c = .int .i64 z ∧ (-9223372036854775808 ≤ z ∧ z ≤ 9223372036854775807) := by
  obtain ⟨z, h1, _, hw⟩ := DataW.trod_int Try.underlying3 h
  simp only [List.cons.injEq, and_true] at h1
  exact ⟨z, h1, bd hw⟩

end

set_option maxRecDepth 100000 in
theorem lifted (os : Os) (started : os.Started) (H : Type) (enc : TypeId × Value → H) :
    ReturnsInHanded {} Try.checked os 8 .any (Rows.fnExactShapeNewSpec.pre6 enc Try.prog Try.f8 Rows.fnExactShapeNewRow.domain false) (Rows.fnExactShapeNewSpec.post enc Try.prog Try.f8 false true false false) := by
  refine returnsInHanded_of_change (C := Try.checked) own started (by kernel_rfl) Try.func8
    (ChangeSpec.witness6 (enc := enc) (C := Try.checked) false ⟨#[], #[.int .i64 0, .int .i64 0, .int .i64 0, .int .i64 0], []⟩ 8 (by kernel_rfl) (by kernel_rfl) (by kernel_rfl) (by kernel_rfl)) ?_
  intro W base args ds gs before hval0 hW hcnd _
  have hval : ∀ (j : Nat) t v, Try.f8.params[j]? = some t → args[j]? = some v → Value.okWide Try.prog W .any base t v := hval0
  have hW' := hW
  obtain ⟨p, q, hA0, hV, rfl, hfz, hnd⟩ := hW
  have hA : DataW.TrodAll enc Try.prog W 0 (fun _ => true) true Try.f8.params.toList args.toList ds p := hA0
  rw [Try.params8] at hA hval
  obtain ⟨v0, vs0, d0, ds0, p0, q0, hargs, rfl, rfl, h0, tl0⟩ := trodAll_cons hA
  obtain ⟨v1, vs1, d1, ds1, p1, q1, rfl, rfl, rfl, h1, tl1⟩ := trodAll_cons tl0
  obtain ⟨v2, vs2, d2, ds2, p2, q2, rfl, rfl, rfl, h2, tl2⟩ := trodAll_cons tl1
  obtain ⟨v3, vs3, d3, ds3, p3, q3, rfl, rfl, rfl, h3, tl3⟩ := trodAll_cons tl2
  obtain ⟨rfl, rfl, rfl⟩ := trodAll_nil tl3
  obtain rfl : args = #[v0, v1, v2, v3] := by cases args; simp_all
  obtain ⟨rfl, rfl⟩ := trodVars_none hV
  have k0 := h0
  have lt0 : ∀ x ∈ p0, x.block < W.heap.size := by obtain ⟨m, hm⟩ := k0; exact DataW.trod_lt m _ _ _ hm
  have k1 := h1
  have lt1 : ∀ x ∈ p1, x.block < W.heap.size := by obtain ⟨m, hm⟩ := k1; exact DataW.trod_lt m _ _ _ hm
  have k2 := h2
  have lt2 : ∀ x ∈ p2, x.block < W.heap.size := by obtain ⟨m, hm⟩ := k2; exact DataW.trod_lt m _ _ _ hm
  have k3 := h3
  have lt3 : ∀ x ∈ p3, x.block < W.heap.size := by obtain ⟨m, hm⟩ := k3; exact DataW.trod_lt m _ _ _ hm
  obtain ⟨z0, hzv0, _, _, hzw0⟩ := open_int Try.underlying3 (hval 0 3 v0 rfl rfl) h0
  subst hzv0
  obtain ⟨z1, hzv1, _, _, hzw1⟩ := open_int Try.underlying3 (hval 1 3 v1 rfl rfl) h1
  subst hzv1
  obtain ⟨z2, hzv2, _, _, hzw2⟩ := open_int Try.underlying3 (hval 2 3 v2 rfl rfl) h2
  subst hzv2
  obtain ⟨z3, hzv3, _, _, hzw3⟩ := open_int Try.underlying3 (hval 3 3 v3 rfl rfl) h3
  subst hzv3
  clear hA0 hval0
  refine (walk z0 (bd hzw0) z1 (bd hzw1) z2 (bd hzw2) z3 (bd hzw3) W ).mono fun e W' ⟨he, bel⟩ => ?_
  subst he
  exact ⟨_, rfl, _, _, _, [], _, [], hW', trodAll_mk1 (shut_bool Try.underlying4 _), (trodAll_cons_mk (Below.trod laidOut (by kernel_rfl) (of_decide_eq_true (by kernel_rfl)) k0 bel lt0) (trodAll_cons_mk (Below.trod laidOut (by kernel_rfl) (of_decide_eq_true (by kernel_rfl)) k1 bel lt1) (trodAll_cons_mk (Below.trod laidOut (by kernel_rfl) (of_decide_eq_true (by kernel_rfl)) k2 bel lt2) (trodAll_cons_mk (Below.trod laidOut (by kernel_rfl) (of_decide_eq_true (by kernel_rfl)) k3 bel lt3) trodAll_mk0)))), rfl, bel.frame _, fun h => by cases h⟩

theorem over : Rows.fnExactShapeNewRow.holds Try.pinned (OpenSpec.ofChange Rows.fnExactShapeNewSpec) :=
  OpenClaim.holds_of_wide 8 Try.f8 rfl rfl rfl rfl rfl rfl rfl ⟨rfl, rfl, rfl, rfl, rfl⟩ rfl rfl rfl rfl rfl (by kernel_rfl) Try.func8 (by kernel_rfl)
    (of_decide_eq_true (by kernel_rfl)) (by unfold Func.isWrapper; first | (rw [if_pos (by decide +kernel)]; kernel_rfl) | (rw [if_neg (by decide +kernel)]; exact ⟨rfl, rfl⟩))
    (fun os started H enc _ => lifted os started H enc)

theorem proved : Rows.FnExactShapeNewSaid := over
end Go.Proofs.Ytmhdjccbkenhmao.fnExactShapeNew
namespace Go.Proofs.Ytmhdjccbkenhmao
theorem fnExactShapeNew_holds : Rows.FnExactShapeNewSaid := fnExactShapeNew.proved
#print axioms fnExactShapeNew_holds
end Go.Proofs.Ytmhdjccbkenhmao
