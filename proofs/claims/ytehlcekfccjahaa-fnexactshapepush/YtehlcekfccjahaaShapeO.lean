/-
  WHICH SHAPES ARE WELL, AS THE PROGRAM SAYS: ShapeOk.
-/
import Derived.Test.YtehlcekfccjahaaShapeT
namespace Go.Proofs.Ytehlcekfccjahaa
open Go.RowKit
set_option linter.unusedVariables false

def hllP (L : Nat → Ln) (k : Nat) : Prop := ∀ i : Nat, i < k → hlnP (i : Int) (L i)

set_option maxRecDepth 100000 in
set_option maxHeartbeats 8000000 in
theorem ishapeOk_any (s : Sh) (a : Option Addr) (N ca : Nat) (b : Option Addr) (n c : Nat) (L : Nat → Ln) (tn : Nat → Int) (w : World)
    (hN : N ≤ 1048576) (hcn : cntF L N ≤ 1048576) (hnn : n ≤ 1048576) (hP : LR w.heap.size w a N L) (hb : Row .i64 w b n tn) :
    Calls Try.prog 20 #[shVal s a N ca b n c] w fun e w' => e = .returned (.bool (shB s N L ((List.range n).map tn))) ∧ Below w.heap.size w w' := by
  obtain ⟨rt, ov, nx, qt, lim⟩ := s
  have HP : Hid (LR w.heap.size w a N L) := hP
  have HRB : Hid (Row .i64 w b n tn) := hb
  have HN : Hid (N ≤ 1048576) := hN
  have HCN : Hid (cntF L N ≤ 1048576) := hcn
  have HNN : Hid (n ≤ 1048576) := hnn
  have hNi : (N : Int) ≤ 1048576 := by omega
  clear hP hb hN hcn hnn
  obtain ⟨ts, hts⟩ : ∃ l, (List.range n).map tn = l := ⟨_, rfl⟩
  have HTS : Hid ((List.range n).map tn = ts) := hts
  rw [hts]
  clear hts
  obtain ⟨W0, hW0⟩ : ∃ W, w.alloc (.cells (shCells ⟨rt, ov, nx, qt, lim⟩ a N ca b n c) 31) = W := ⟨_, rfl⟩
  have s0 : Sits W0 w.heap.size (shCells ⟨rt, ov, nx, qt, lim⟩ a N ca b n c) 31 := by rw [← hW0]; exact Sits.new _ _ _
  have b0 : Below w.heap.size w W0 := by rw [← hW0]; exact (Below.refl _ w).alloc (Nat.le_refl _) _
  have HW0 : Hid (w.alloc (.cells (shCells ⟨rt, ov, nx, qt, lim⟩ a N ca b n c) 31) = W0) := hW0
  have HB0 : Hid (Below _ _ _) := b0
  have x0 := s0.cell 0
  have x1 := s0.cell 1
  have x2 := s0.cell 2
  have x3 := s0.cell 3
  have x4 := s0.cell 4
  have x5 := s0.cell 5
  have x6 := s0.cell 6
  have l0 := s0.lt
  clear s0 b0 hW0
  have HBB : Hid (∀ w', Below W0.heap.size W0 w' → Below w.heap.size w w') := fun w' hw' => (HB0.out).trans (hw'.mono (HB0.out).size)
  go_enter Try.func20, Try.ntmps20
  go_upto_region 1 with fail
  rw [HW0.out]
  clear HW0
  cases t0 : numB ⟨rt, ov, nx, qt, lim⟩
  case false =>
    have HE : Hid (false = shB ⟨rt, ov, nx, qt, lim⟩ N L ts) := sh_no (fun h => by have h1 := h.1; unfold numB at t0; simp [h1] at t0)
    refine wp_region_quiet (C := fun w' => Below W0.heap.size W0 w') (by kernel_rfl) (by kernel_rfl) ((Below.refl _ _).drew) ?_
    simp only []
    repeat (first
      | go_big_quiet_skip
      | (go_big_quiet_want
         unfold Oper.quiet
         apply Exists.intro
         refine ⟨fun w' hw' => ?_, ?_⟩
         (have z0 := (hw'.cell (p := ⟨w.heap.size, 0, none⟩) (by show w.heap.size < _; omega)).trans x0
          have z1 := (hw'.cell (p := ⟨w.heap.size, 1, none⟩) (by show w.heap.size < _; omega)).trans x1
          have z2 := (hw'.cell (p := ⟨w.heap.size, 2, none⟩) (by show w.heap.size < _; omega)).trans x2
          have z3 := (hw'.cell (p := ⟨w.heap.size, 3, none⟩) (by show w.heap.size < _; omega)).trans x3
          have z4 := (hw'.cell (p := ⟨w.heap.size, 4, none⟩) (by show w.heap.size < _; omega)).trans x4
          have z5 := (hw'.cell (p := ⟨w.heap.size, 5, none⟩) (by show w.heap.size < _; omega)).trans x5
          have z6 := (hw'.cell (p := ⟨w.heap.size, 6, none⟩) (by show w.heap.size < _; omega)).trans x6
          go_simp
          first
            | (go_at_call 40; refine (inumOk_any ⟨rt, ov, nx, qt, lim⟩ a N ca b n c _).mono ?_; rintro e w1 ⟨rfl, hb1⟩; exact ⟨by rw [t0], hw'.trans (hb1.mono hw'.size)⟩)
            | exact rfl)
         simp only [Act.put, List.setIfInBounds_toArray, List.set_cons_zero, List.set_cons_succ]
         go_big_quiet_on))
    refine wpQuiet_nil ?_
    intro w2 hw2
    go_wp2
    go_ret
    exact ⟨ret_bool HE.out, HBB.out _ hw2⟩
  case true =>
  by_cases t1 : N = 4
  case neg =>
    have t1' : ((N : Int) != 4) = true := by simp; omega
    have HE : Hid (false = shB ⟨rt, ov, nx, qt, lim⟩ N L ts) := sh_no (fun h => by exact t1 h.2.1)
    refine wp_region_quiet (C := fun w' => Below W0.heap.size W0 w') (by kernel_rfl) (by kernel_rfl) ((Below.refl _ _).drew) ?_
    simp only []
    repeat (first
      | go_big_quiet_skip
      | (go_big_quiet_want
         unfold Oper.quiet
         apply Exists.intro
         refine ⟨fun w' hw' => ?_, ?_⟩
         (have z0 := (hw'.cell (p := ⟨w.heap.size, 0, none⟩) (by show w.heap.size < _; omega)).trans x0
          have z1 := (hw'.cell (p := ⟨w.heap.size, 1, none⟩) (by show w.heap.size < _; omega)).trans x1
          have z2 := (hw'.cell (p := ⟨w.heap.size, 2, none⟩) (by show w.heap.size < _; omega)).trans x2
          have z3 := (hw'.cell (p := ⟨w.heap.size, 3, none⟩) (by show w.heap.size < _; omega)).trans x3
          have z4 := (hw'.cell (p := ⟨w.heap.size, 4, none⟩) (by show w.heap.size < _; omega)).trans x4
          have z5 := (hw'.cell (p := ⟨w.heap.size, 5, none⟩) (by show w.heap.size < _; omega)).trans x5
          have z6 := (hw'.cell (p := ⟨w.heap.size, 6, none⟩) (by show w.heap.size < _; omega)).trans x6
          go_simp
          first
            | (go_at_call 40; refine (inumOk_any ⟨rt, ov, nx, qt, lim⟩ a N ca b n c _).mono ?_; rintro e w1 ⟨rfl, hb1⟩; exact ⟨by rw [t0], hw'.trans (hb1.mono hw'.size)⟩)
            | exact rfl)
         simp only [Act.put, List.setIfInBounds_toArray, List.set_cons_zero, List.set_cons_succ]
         go_big_quiet_on))
    refine wpQuiet_nil ?_
    intro w2 hw2
    go_wp2
    go_ret
    exact ⟨ret_bool HE.out, HBB.out _ hw2⟩
  case pos =>
  subst t1
  by_cases t2 : lim < (cntF L 4 : Int)
  · have t2' : decide (lim < (cntF L 4 : Int)) = true := by simpa using t2
    have HE : Hid (false = shB ⟨rt, ov, nx, qt, lim⟩ 4 L ts) := sh_no (fun h => by have := h.2.2.1; dsimp only at this; omega)
    refine wp_region_quiet (C := fun w' => Below W0.heap.size W0 w') (by kernel_rfl) (by kernel_rfl) ((Below.refl _ _).drew) ?_
    simp only []
    repeat (first
      | go_big_quiet_skip
      | (go_big_quiet_want
         unfold Oper.quiet
         apply Exists.intro
         refine ⟨fun w' hw' => ?_, ?_⟩
         (have z0 := (hw'.cell (p := ⟨w.heap.size, 0, none⟩) (by show w.heap.size < _; omega)).trans x0
          have z1 := (hw'.cell (p := ⟨w.heap.size, 1, none⟩) (by show w.heap.size < _; omega)).trans x1
          have z2 := (hw'.cell (p := ⟨w.heap.size, 2, none⟩) (by show w.heap.size < _; omega)).trans x2
          have z3 := (hw'.cell (p := ⟨w.heap.size, 3, none⟩) (by show w.heap.size < _; omega)).trans x3
          have z4 := (hw'.cell (p := ⟨w.heap.size, 4, none⟩) (by show w.heap.size < _; omega)).trans x4
          have z5 := (hw'.cell (p := ⟨w.heap.size, 5, none⟩) (by show w.heap.size < _; omega)).trans x5
          have z6 := (hw'.cell (p := ⟨w.heap.size, 6, none⟩) (by show w.heap.size < _; omega)).trans x6
          go_simp
          first
            | (go_at_call 40; refine (inumOk_any ⟨rt, ov, nx, qt, lim⟩ a 4 ca b n c _).mono ?_; rintro e w1 ⟨rfl, hb1⟩; exact ⟨by rw [t0], hw'.trans (hb1.mono hw'.size)⟩)
            | (go_at_call 25; refine (icountOf_any a 4 ca L _ HN.out HCN.out (LR.go HP.out (HBB.out _ hw') (HBB.out _ hw').size)).mono ?_; rintro e w1 ⟨rfl, hb1⟩; exact ⟨rfl, hw'.trans (hb1.mono hw'.size)⟩)
            | exact rfl)
         simp only [Act.put, List.setIfInBounds_toArray, List.set_cons_zero, List.set_cons_succ]
         go_big_quiet_on))
    refine wpQuiet_nil ?_
    intro w2 hw2
    go_wp2
    go_ret
    exact ⟨ret_bool HE.out, HBB.out _ hw2⟩
  have t2' : decide (lim < (cntF L 4 : Int)) = false := by simpa using t2
  cases t3 : turnB L ts
  case false =>
    have HE : Hid (false = shB ⟨rt, ov, nx, qt, lim⟩ 4 L ts) := sh_no (fun h => by have h1 := h.2.2.2.1; unfold turnB at t3; simp [h1] at t3)
    refine wp_region_quiet (C := fun w' => Below W0.heap.size W0 w') (by kernel_rfl) (by kernel_rfl) ((Below.refl _ _).drew) ?_
    simp only []
    repeat (first
      | go_big_quiet_skip
      | (go_big_quiet_want
         unfold Oper.quiet
         apply Exists.intro
         refine ⟨fun w' hw' => ?_, ?_⟩
         (have z0 := (hw'.cell (p := ⟨w.heap.size, 0, none⟩) (by show w.heap.size < _; omega)).trans x0
          have z1 := (hw'.cell (p := ⟨w.heap.size, 1, none⟩) (by show w.heap.size < _; omega)).trans x1
          have z2 := (hw'.cell (p := ⟨w.heap.size, 2, none⟩) (by show w.heap.size < _; omega)).trans x2
          have z3 := (hw'.cell (p := ⟨w.heap.size, 3, none⟩) (by show w.heap.size < _; omega)).trans x3
          have z4 := (hw'.cell (p := ⟨w.heap.size, 4, none⟩) (by show w.heap.size < _; omega)).trans x4
          have z5 := (hw'.cell (p := ⟨w.heap.size, 5, none⟩) (by show w.heap.size < _; omega)).trans x5
          have z6 := (hw'.cell (p := ⟨w.heap.size, 6, none⟩) (by show w.heap.size < _; omega)).trans x6
          go_simp
          first
            | (go_at_call 40; refine (inumOk_any ⟨rt, ov, nx, qt, lim⟩ a 4 ca b n c _).mono ?_; rintro e w1 ⟨rfl, hb1⟩; exact ⟨by rw [t0], hw'.trans (hb1.mono hw'.size)⟩)
            | (go_at_call 25; refine (icountOf_any a 4 ca L _ HN.out HCN.out (LR.go HP.out (HBB.out _ hw') (HBB.out _ hw').size)).mono ?_; rintro e w1 ⟨rfl, hb1⟩; exact ⟨rfl, hw'.trans (hb1.mono hw'.size)⟩)
            | (go_at_call 41; refine (iturnOk_any ⟨rt, ov, nx, qt, lim⟩ a ca b n c L tn _ HCN.out HNN.out (LR.go HP.out (HBB.out _ hw') (HBB.out _ hw').size) (Row.below HRB.out (HBB.out _ hw'))).mono ?_; rintro e w1 ⟨rfl, hb1⟩; exact ⟨by rw [HTS.out, t3], hw'.trans (hb1.mono hw'.size)⟩)
            | exact rfl)
         simp only [Act.put, List.setIfInBounds_toArray, List.set_cons_zero, List.set_cons_succ]
         go_big_quiet_on))
    refine wpQuiet_nil ?_
    intro w2 hw2
    go_wp2
    go_ret
    exact ⟨ret_bool HE.out, HBB.out _ hw2⟩
  case true =>
  refine wp_region_quiet (C := fun w' => Below W0.heap.size W0 w') (by kernel_rfl) (by kernel_rfl) ((Below.refl _ _).drew) ?_
  simp only []
  repeat (first
    | go_big_quiet_skip
    | (go_big_quiet_want
       unfold Oper.quiet
       apply Exists.intro
       refine ⟨fun w' hw' => ?_, ?_⟩
       (have z0 := (hw'.cell (p := ⟨w.heap.size, 0, none⟩) (by show w.heap.size < _; omega)).trans x0
        have z1 := (hw'.cell (p := ⟨w.heap.size, 1, none⟩) (by show w.heap.size < _; omega)).trans x1
        have z2 := (hw'.cell (p := ⟨w.heap.size, 2, none⟩) (by show w.heap.size < _; omega)).trans x2
        have z3 := (hw'.cell (p := ⟨w.heap.size, 3, none⟩) (by show w.heap.size < _; omega)).trans x3
        have z4 := (hw'.cell (p := ⟨w.heap.size, 4, none⟩) (by show w.heap.size < _; omega)).trans x4
        have z5 := (hw'.cell (p := ⟨w.heap.size, 5, none⟩) (by show w.heap.size < _; omega)).trans x5
        have z6 := (hw'.cell (p := ⟨w.heap.size, 6, none⟩) (by show w.heap.size < _; omega)).trans x6
        go_simp
        first
          | (go_at_call 40; refine (inumOk_any ⟨rt, ov, nx, qt, lim⟩ a 4 ca b n c _).mono ?_; rintro e w1 ⟨rfl, hb1⟩; exact ⟨by rw [t0], hw'.trans (hb1.mono hw'.size)⟩)
          | (go_at_call 25; refine (icountOf_any a 4 ca L _ HN.out HCN.out (LR.go HP.out (HBB.out _ hw') (HBB.out _ hw').size)).mono ?_; rintro e w1 ⟨rfl, hb1⟩; exact ⟨rfl, hw'.trans (hb1.mono hw'.size)⟩)
          | (go_at_call 41; refine (iturnOk_any ⟨rt, ov, nx, qt, lim⟩ a ca b n c L tn _ HCN.out HNN.out (LR.go HP.out (HBB.out _ hw') (HBB.out _ hw').size) (Row.below HRB.out (HBB.out _ hw'))).mono ?_; rintro e w1 ⟨rfl, hb1⟩; exact ⟨by rw [HTS.out, t3], hw'.trans (hb1.mono hw'.size)⟩)
          | exact rfl)
       simp only [Act.put, List.setIfInBounds_toArray, List.set_cons_zero, List.set_cons_succ]
       go_big_quiet_on))
  refine wpQuiet_nil ?_
  intro w2 hw2
  have HNUM : Hid (numP ⟨rt, ov, nx, qt, lim⟩) := (show numP ⟨rt, ov, nx, qt, lim⟩ by have h1 := t0; unfold numB at h1; simpa using h1)
  have HTU : Hid (turnP L ts) := (show turnP L ts by have h1 := t3; unfold turnB at h1; simpa using h1)
  have HCL : Hid ((cntF L 4 : Int) ≤ lim) := by show _ ≤ _; omega
  have zz := (hw2.cell (p := ⟨w.heap.size, 5, none⟩) l0).trans x5
  have HW2 : Hid (Below W0.heap.size W0 w2) := hw2
  clear hw2 t0 t2 t2' t3
  go_wp2
  go_loopw [30] (fun i wr => ∃ k : Nat, k ≤ 4 ∧ i = .int .i64 (k : Int) ∧ hllP L k ∧ Below W0.heap.size W0 wr) (fun i _ => 4 - (intOf i).toNat)
  case atStart => exact ⟨0, Nat.zero_le _, rfl, fun i hi => absurd hi (Nat.not_lt_zero _), HW2.out⟩
  case round =>
    obtain ⟨k, hk, rfl, hall, hB⟩ := hrel
    have HA : Hid (hllP L k) := hall
    have HB : Hid (Below W0.heap.size W0 wr) := hB
    clear hall zz HW2
    by_cases hlt : k < 4
    · obtain ⟨b1, off, rfl, hbl, hcs⟩ := LR.at HP.out hlt
      obtain ⟨x, cx, hat, hnc, hpr⟩ := hcs k hlt
      have hBw := HBB.out _ hB
      obtain ⟨c0, c1, c2, c3, c4, c5, c6, c7, c8⟩ := hat.below hBw hbl
      have HPR : Hid (PR w.heap.size w x (L k).n (L k).f) := hpr
      have HNK : Hid ((L k).n ≤ 1048576) := Nat.le_trans (cntF_le L hlt) HCN.out
      have HNC : Hid ((L k).n ≤ cx) := hnc
      have hlti : (k : Int) < 4 := by omega
      clear hcs hat hpr hnc hB hBw
      go_upto_region 6 with fail
      obtain ⟨v, hv⟩ : ∃ v, wr.alloc (.cells (lnCells x cx (L k)) 54) = v := ⟨_, rfl⟩
      have sv : Sits v wr.heap.size (lnCells x cx (L k)) 54 := by rw [← hv]; exact Sits.new _ _ _
      have bv : Below W0.heap.size W0 v := by rw [← hv]; exact (HB.out).alloc (HB.out).size _
      rw [hv]
      obtain ⟨B, hBq⟩ : ∃ B, wr.heap.size = B := ⟨_, rfl⟩
      rw [hBq] at sv ⊢
      have HBV : Hid (Below W0.heap.size W0 v) := bv
      have y0 := sv.cell 0
      have y1 := sv.cell 1
      have y2 := sv.cell 2
      have y3 := sv.cell 3
      have y4 := sv.cell 4
      have y5 := sv.cell 5
      have y6 := sv.cell 6
      have y7 := sv.cell 7
      have y8 := sv.cell 8
      clear hv sv bv hBq HB c0 c1 c2 c3 c4 c5 c6 c7 c8
      cases hf : hlB (k : Int) (L k)
      case false =>
        have HE : Hid (false = shB ⟨rt, ov, nx, qt, lim⟩ 4 L ts) := sh_no (fun h => by have := hl_iff.1 (h.2.2.2.2 k hlt); unfold hlB at hf; simp [this] at hf)
        go_wp2_with (go_at_call 42; refine (ihostLineOk_any x cx (L k) (k : Int) _ HNK.out HNC.out ((PR.below HPR.out (HBB.out _ HBV.out)).mono (HBB.out _ HBV.out).size)).mono ?_; rintro e w3 ⟨rfl, b3⟩; rw [hf]; have HB3 : Hid (Below W0.heap.size W0 w3) := (HBV.out).trans (b3.mono (HBV.out).size); clear b3)
        go_ret
        exact ⟨ret_bool HE.out, HBB.out _ HB3.out⟩
      case true =>
        have HFL : Hid (hlnP (k : Int) (L k)) := (show hlnP (k : Int) (L k) by have hf2 := hf; unfold hlB at hf2; exact hl_iff.2 (by simpa using hf2))
        go_wp2_with (go_at_call 42; refine (ihostLineOk_any x cx (L k) (k : Int) _ HNK.out HNC.out ((PR.below HPR.out (HBB.out _ HBV.out)).mono (HBB.out _ HBV.out).size)).mono ?_; rintro e w3 ⟨rfl, b3⟩; rw [hf]; have HB3 : Hid (Below W0.heap.size W0 w3) := (HBV.out).trans (b3.mono (HBV.out).size); clear b3)
        go_roundw
        case rel => exact ⟨k + 1, by omega, by go_num, fun i hi => by by_cases e : i = k; · rw [e]; exact HFL.out
                                                                      · exact HA.out i (by omega), HB3.out⟩
        case measure => simp [intOf]; omega
    · obtain rfl : k = 4 := by omega
      have HE : Hid (true = shB ⟨rt, ov, nx, qt, lim⟩ 4 L ts) := sh_yes ⟨HNUM.out, rfl, HCL.out, HTU.out, HA.out⟩
      go_wp2
      go_ret
      exact ⟨ret_bool HE.out, HBB.out _ hB⟩

end Go.Proofs.Ytehlcekfccjahaa
