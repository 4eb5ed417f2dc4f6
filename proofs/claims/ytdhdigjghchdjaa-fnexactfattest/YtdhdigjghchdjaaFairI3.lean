/-
  WHICH FAIRS ARE WELL, AS THE PROGRAM SAYS: FairOk.
-/
import Derived.Test.YtdhdigjghchdjaaFairI2
namespace Go.Proofs.Ytdhdigjghchdjaa
open Go.RowKit
set_option linter.unusedVariables false

@[reducible] def boCells (l : List Int) : Array Value := #[.bool (decide ((0 : Int) ∈ l)), .bool (decide ((1 : Int) ∈ l)), .bool (decide ((2 : Int) ∈ l)), .bool (decide ((3 : Int) ∈ l)), .bool (decide ((4 : Int) ∈ l)), .bool (decide ((5 : Int) ∈ l)), .bool (decide ((6 : Int) ∈ l)), .bool (decide ((7 : Int) ∈ l)), .bool (decide ((8 : Int) ∈ l)), .bool (decide ((9 : Int) ∈ l)), .bool (decide ((10 : Int) ∈ l)), .bool (decide ((11 : Int) ∈ l)), .bool (decide ((12 : Int) ∈ l)), .bool (decide ((13 : Int) ∈ l)), .bool (decide ((14 : Int) ∈ l)), .bool (decide ((15 : Int) ∈ l))]
theorem boCells_at (l : List Int) (i : Nat) (hi : i < 16) : (boCells l)[i]? = some (.bool (decide ((i : Int) ∈ l))) := by
  have hi' : i = 0 ∨ i = 1 ∨ i = 2 ∨ i = 3 ∨ i = 4 ∨ i = 5 ∨ i = 6 ∨ i = 7 ∨ i = 8 ∨ i = 9 ∨ i = 10 ∨ i = 11 ∨ i = 12 ∨ i = 13 ∨ i = 14 ∨ i = 15 := by omega
  rcases hi' with rfl | rfl | rfl | rfl | rfl | rfl | rfl | rfl | rfl | rfl | rfl | rfl | rfl | rfl | rfl | rfl <;> rfl

theorem fln_line {i : Nat} {l : Ln} {ls : List Int} : lnP i l ls ↔ flnP (i : Int) l ∧ (l.n = 0 ∨ (i : Int) ∈ ls) := by
  unfold lnP flnP waitB inB
  constructor
  · rintro ⟨h1, h2, h3, h4, h5⟩
    exact ⟨⟨h1, by simp [h2, h3], h5⟩, h4⟩
  · rintro ⟨⟨h1, h2, h5⟩, h4⟩
    simp at h2
    exact ⟨h1, h2.1, h2.2, h4, h5⟩

set_option maxRecDepth 100000 in
set_option maxHeartbeats 8000000 in
theorem ifairOk_any (q lim : Int) (a : Option Addr) (N ca : Nat) (b : Option Addr) (nn cb : Nat) (c : Option Addr) (no cc : Nat) (L : Nat → Ln) (nw od : Nat → Int) (w : World)
    (hN : N ≤ 1048576) (hcn : cntF L N ≤ 1048576) (hnn : nn + no ≤ 1048576) (hP : LR w.heap.size w a N L) (hb : Row .i64 w b nn nw) (hc : Row .i64 w c no od) :
    Calls Try.prog 15 #[faVal q lim a N ca b nn cb c no cc] w fun e w' => e = .returned (.bool (fairB q lim N L (lst nn nw no od))) ∧ Below w.heap.size w w' := by
  have HP : Hid (LR w.heap.size w a N L) := hP
  have HRB : Hid (Row .i64 w b nn nw) := hb
  have HRC : Hid (Row .i64 w c no od) := hc
  have HN : Hid (N ≤ 1048576) := hN
  have HCN : Hid (cntF L N ≤ 1048576) := hcn
  have HNN : Hid (nn + no ≤ 1048576) := hnn
  have hNi : (N : Int) ≤ 1048576 := by omega
  clear hP hb hc hN hcn hnn
  obtain ⟨ls, hls⟩ : ∃ l, lst nn nw no od = l := ⟨_, rfl⟩
  have HLS : Hid (lst nn nw no od = ls) := hls
  rw [hls]
  clear hls
  obtain ⟨W0, hW0⟩ : ∃ W, w.alloc (.cells (faCells q lim a N ca b nn cb c no cc) 30) = W := ⟨_, rfl⟩
  have s0 : Sits W0 w.heap.size (faCells q lim a N ca b nn cb c no cc) 30 := by rw [← hW0]; exact Sits.new _ _ _
  have b0 : Below w.heap.size w W0 := by rw [← hW0]; exact (Below.refl _ w).alloc (Nat.le_refl _) _
  have HW0 : Hid (w.alloc (.cells (faCells q lim a N ca b nn cb c no cc) 30) = W0) := hW0
  have HS0 : Hid (Sits _ _ _ _) := s0
  have HB0 : Hid (Below _ _ _) := b0
  have x0 := s0.cell 0
  have x1 := s0.cell 1
  have x2 := s0.cell 2
  have x3 := s0.cell 3
  have x4 := s0.cell 4
  have l0 := s0.lt
  clear s0 b0 hW0
  have HBB : Hid (∀ w', Below W0.heap.size W0 w' → Below w.heap.size w w') := fun w' hw' => (HB0.out).trans (hw'.mono (HB0.out).size)
  cases t0 : inB q 1 10000
  case false =>
    have HE : Hid (false = fairB q lim N L ls) := fair_no (fun h => by have := h.1; unfold inB at t0; simp at t0; omega)
    go_enter Try.func15, Try.ntmps15
    go_upto_region 1 with fail
    rw [HW0.out]
    go_wp2_with (go_at_call 28; refine (within_any _ _ _ _).mono ?_; rintro e w9 ⟨rfl, hw9⟩; replace hw9 := hw9.symm; subst hw9; rw [t0])
    go_ret
    exact ⟨ret_bool HE.out, HB0.out⟩
  case true =>
  cases t1 : inB lim 1 40
  case false =>
    have HE : Hid (false = fairB q lim N L ls) := fair_no (fun h => by have := h.2.1; unfold inB at t1; simp at t1; omega)
    go_enter Try.func15, Try.ntmps15
    go_upto_region 1 with fail
    rw [HW0.out]
    go_wp2_with (go_at_call 28; refine (within_any _ _ _ _).mono ?_; rintro e w9 ⟨rfl, hw9⟩; replace hw9 := hw9.symm; subst hw9; first | rw [t0] | rw [t1])
    go_ret
    exact ⟨ret_bool HE.out, HB0.out⟩
  case true =>
  by_cases t4 : N = 16
  case neg =>
    have t4' : ((N : Int) != 16) = true := by simp; omega
    have HE : Hid (false = fairB q lim N L ls) := fair_no (fun h => t4 h.2.2.1)
    go_enter Try.func15, Try.ntmps15
    go_upto_region 1 with fail
    rw [HW0.out]
    go_wp2_with (go_at_call 28; refine (within_any _ _ _ _).mono ?_; rintro e w9 ⟨rfl, hw9⟩; replace hw9 := hw9.symm; subst hw9; first | rw [t0] | rw [t1])
    go_ret
    exact ⟨ret_bool HE.out, HB0.out⟩
  case pos =>
  subst t4
  have HQ : Hid ((1 ≤ q ∧ q ≤ 10000) ∧ (1 ≤ lim ∧ lim ≤ 40)) := ⟨by unfold inB at t0; simpa using t0, by unfold inB at t1; simpa using t1⟩
  go_enter Try.func15, Try.ntmps15
  go_upto_region 1 with fail
  rw [HW0.out]
  go_upto_region 3 with (go_at_call 28; refine (within_any _ _ _ _).mono ?_; rintro e w9 ⟨rfl, hw9⟩; replace hw9 := hw9.symm; subst hw9; first | rw [t0] | rw [t1])
  clear t0 t1 HW0
  obtain ⟨ok, hok⟩ : ∃ b, okB ls = b := ⟨_, rfl⟩
  go_upto_region 4 with (go_at_call 29; refine (listedOnce_any q lim a 16 ca b nn cb c no cc nw od _ HNN.out (Row.below HRB.out HB0.out) (Row.below HRC.out HB0.out)).mono ?_; rintro e w1 ⟨⟨l, rfl, hl⟩, hb1⟩; rw [HLS.out] at hl ⊢; rw [hok] at hl ⊢; have HL : Hid (ok = true → l = ls) := hl; have HB1 : Hid (Below W0.heap.size W0 w1) := hb1; clear hl hb1)
  obtain ⟨v1, hv1⟩ : ∃ v, w1.alloc (.cells (boCells l) 64) = v := ⟨_, rfl⟩
  obtain ⟨S, hS⟩ : ∃ S, w1.heap.size = S := ⟨_, rfl⟩
  have tb : Tbl v1 S 64 l := by rw [← hv1]; exact ⟨boCells l, Sits.new' hS, rfl, boCells_at l⟩
  have bv : Below W0.heap.size W0 v1 := by rw [← hv1]; exact (HB1.out).alloc (HB1.out).size _
  rw [hv1, hS]
  have z1 := (bv.cell (p := ⟨w.heap.size, 1, none⟩) l0).trans x1
  have z2 := (bv.cell (p := ⟨w.heap.size, 2, none⟩) l0).trans x2
  have l1 : w.heap.size < v1.heap.size := Nat.lt_of_lt_of_le l0 bv.size
  have HTB : Hid (Tbl v1 S 64 l) := tb
  have HBV : Hid (Below W0.heap.size W0 v1) := bv
  have HBB1 : Hid (∀ w', Below v1.heap.size v1 w' → Below w.heap.size w w') := fun w' hw' => HBB.out _ (bv.trans (hw'.mono bv.size))
  have lS := tb.lt
  clear hv1 hS tb bv HB1 x0 x1 x2 x3 x4 l0
  cases ok
  case false =>
    have HE : Hid (false = fairB q lim 16 L ls) := fair_no (fun h => by have := h.2.2.2.1; unfold okB at hok; simp [this] at hok)
    clear hok
    refine wp_region_quiet (C := fun w' => Below v1.heap.size v1 w') (by kernel_rfl) (by kernel_rfl) ((Below.refl _ _).drew) ?_
    simp only []
    repeat (first
      | go_big_quiet_skip
      | (go_big_quiet_want
         unfold Oper.quiet
         apply Exists.intro
         refine ⟨fun w' hw' => ?_, ?_⟩
         (have z1 := (hw'.cell (p := ⟨w.heap.size, 1, none⟩) (by show w.heap.size < _; omega)).trans z1
          have z2 := (hw'.cell (p := ⟨w.heap.size, 2, none⟩) (by show w.heap.size < _; omega)).trans z2
          go_simp
          first
            | exact rfl)
         simp only [Act.put, List.setIfInBounds_toArray, List.set_cons_zero, List.set_cons_succ]
         go_big_quiet_on))
    refine wpQuiet_nil ?_
    intro w2 hw2
    go_wp2
    go_ret
    exact ⟨ret_bool HE.out, HBB1.out _ hw2⟩
  case true =>
  obtain rfl : l = ls := HL.out rfl
  have HOK : Hid (okL l) := by show okL l; unfold okB at hok; simpa using hok
  clear hok HL
  by_cases t6 : lim < (cntF L 16 : Int)
  · have t6' : decide (lim < (cntF L 16 : Int)) = true := by simpa using t6
    have HE : Hid (false = fairB q lim 16 L l) := fair_no (fun h => by have := h.2.2.2.2.1; omega)
    refine wp_region_quiet (C := fun w' => Below v1.heap.size v1 w') (by kernel_rfl) (by kernel_rfl) ((Below.refl _ _).drew) ?_
    simp only []
    repeat (first
      | go_big_quiet_skip
      | (go_big_quiet_want
         unfold Oper.quiet
         apply Exists.intro
         refine ⟨fun w' hw' => ?_, ?_⟩
         (have z1 := (hw'.cell (p := ⟨w.heap.size, 1, none⟩) (by show w.heap.size < _; omega)).trans z1
          have z2 := (hw'.cell (p := ⟨w.heap.size, 2, none⟩) (by show w.heap.size < _; omega)).trans z2
          go_simp
          first
            | (go_at_call 30; refine (icountOf_any a 16 ca L _ HN.out HCN.out (LR.go HP.out (HBB1.out _ hw') (HBB1.out _ hw').size)).mono ?_; rintro e w8 ⟨rfl, hb8⟩; exact ⟨rfl, hw'.trans (hb8.mono hw'.size)⟩)
            | exact rfl)
         simp only [Act.put, List.setIfInBounds_toArray, List.set_cons_zero, List.set_cons_succ]
         go_big_quiet_on))
    refine wpQuiet_nil ?_
    intro w2 hw2
    go_wp2
    go_ret
    exact ⟨ret_bool HE.out, HBB1.out _ hw2⟩
  have t6' : decide (lim < (cntF L 16 : Int)) = false := by simpa using t6
  refine wp_region_quiet (C := fun w' => Below v1.heap.size v1 w') (by kernel_rfl) (by kernel_rfl) ((Below.refl _ _).drew) ?_
  simp only []
  repeat (first
    | go_big_quiet_skip
    | (go_big_quiet_want
       unfold Oper.quiet
       apply Exists.intro
       refine ⟨fun w' hw' => ?_, ?_⟩
       (have z1 := (hw'.cell (p := ⟨w.heap.size, 1, none⟩) (by show w.heap.size < _; omega)).trans z1
        have z2 := (hw'.cell (p := ⟨w.heap.size, 2, none⟩) (by show w.heap.size < _; omega)).trans z2
        go_simp
        first
          | (go_at_call 30; refine (icountOf_any a 16 ca L _ HN.out HCN.out (LR.go HP.out (HBB1.out _ hw') (HBB1.out _ hw').size)).mono ?_; rintro e w8 ⟨rfl, hb8⟩; exact ⟨rfl, hw'.trans (hb8.mono hw'.size)⟩)
          | exact rfl)
       simp only [Act.put, List.setIfInBounds_toArray, List.set_cons_zero, List.set_cons_succ]
       go_big_quiet_on))
  refine wpQuiet_nil ?_
  intro w2 hw2
  have zz2 := (hw2.cell (p := ⟨w.heap.size, 2, none⟩) l1).trans z2
  have HW2 : Hid (Below v1.heap.size v1 w2) := hw2
  have HT6 : Hid ((cntF L 16 : Int) ≤ lim) := by show _ ≤ _; omega
  clear hw2 t6 t6'
  go_wp2
  go_loopw [41] (fun i wr => ∃ k : Nat, k ≤ 16 ∧ i = .int .i64 k ∧ lnsP L l k ∧ Below v1.heap.size v1 wr) (fun i _ => 16 - (intOf i).toNat)
  case atStart => exact ⟨0, Nat.zero_le _, rfl, fun i hi => absurd hi (Nat.not_lt_zero _), HW2.out⟩
  case round =>
    obtain ⟨k, hk, rfl, hall, hB⟩ := hrel
    have HA : Hid (lnsP L l k) := hall
    have HB : Hid (Below v1.heap.size v1 wr) := hB
    clear hall zz2 HW2
    by_cases hlt : k < 16
    · obtain ⟨b1, off, rfl, hbl, hcs⟩ := LR.at HP.out hlt
      obtain ⟨x, cx, hat, hnc, hpr⟩ := hcs k hlt
      have hBw := HBB1.out _ hB
      obtain ⟨c0, c1, c2, c3, c4, c5, c6, c7, c8⟩ := hat.below hBw hbl
      have HPR : Hid (PR w.heap.size w x (L k).n (L k).f) := hpr
      have HNK : Hid ((L k).n ≤ 1048576) := Nat.le_trans (cntF_le L hlt) HCN.out
      have HNC : Hid ((L k).n ≤ cx) := hnc
      have hlti : (k : Int) < 16 := by omega
      clear hcs hat hpr hnc hB hBw
      go_upto_region 9 with fail
      obtain ⟨v, hv⟩ : ∃ v, wr.alloc (.cells (lnCells x cx (L k)) 53) = v := ⟨_, rfl⟩
      have sv : Sits v wr.heap.size (lnCells x cx (L k)) 53 := by rw [← hv]; exact Sits.new _ _ _
      have bv : Below v1.heap.size v1 v := by rw [← hv]; exact (HB.out).alloc (HB.out).size _
      rw [hv]
      obtain ⟨B, hBq⟩ : ∃ B, wr.heap.size = B := ⟨_, rfl⟩
      rw [hBq] at sv ⊢
      have HSV : Hid (Sits v B (lnCells x cx (L k)) 53) := sv
      have HBV' : Hid (Below v1.heap.size v1 v) := bv
      have y0 := sv.cell 0
      have y1 := sv.cell 1
      have y2 := sv.cell 2
      have y3 := sv.cell 3
      have y4 := sv.cell 4
      have y5 := sv.cell 5
      have y6 := sv.cell 6
      have y7 := sv.cell 7
      have y8 := sv.cell 8
      clear hv sv bv hBq HB c0 c1 c2 c3 c4 c5 c6 c7 c8
      cases hf : flnB (k : Int) (L k)
      case false =>
        have HE : Hid (false = fairB q lim 16 L l) := fair_no (fun h => by have := (fln_line.1 (h.2.2.2.2.2 k hlt)).1; unfold flnB at hf; simp [this] at hf)
        go_wp2_with (go_at_call 31; refine (ifairLineOk_any x cx (L k) (k : Int) _ HNK.out HNC.out ((PR.below HPR.out (HBB1.out _ HBV'.out)).mono (HBB1.out _ HBV'.out).size)).mono ?_; rintro e w3 ⟨rfl, b3⟩; rw [hf]; have HB3 : Hid (Below v1.heap.size v1 w3) := (HBV'.out).trans (b3.mono (HBV'.out).size); have s3 := Sits.below HSV.out b3 (Sits.lt HSV.out); have r0 := s3.cell 0; clear s3 b3)
        go_ret
        exact ⟨ret_bool HE.out, HBB1.out _ HB3.out⟩
      case true =>
      have HFL : Hid (flnP (k : Int) (L k)) := (show flnP (k : Int) (L k) by have hf2 := hf; unfold flnB at hf2; simpa using hf2)
      have HTC : Hid (∀ w', Below v1.heap.size v1 w' → w'.cell? ⟨S, k, none⟩ = some (.bool (decide ((k : Int) ∈ l)))) := fun w' hw' => Tbl.cell (Tbl.below HTB.out hw' lS) k hlt
      by_cases hz : (L k).n = 0
      · have hz' : decide ((0 : Int) < ((L k).n : Int)) = false := by simp; omega
        have HZ : Hid ((L k).n = 0) := hz
        clear hz
        go_wp2_with (go_at_call 31; refine (ifairLineOk_any x cx (L k) (k : Int) _ HNK.out HNC.out ((PR.below HPR.out (HBB1.out _ HBV'.out)).mono (HBB1.out _ HBV'.out).size)).mono ?_; rintro e w3 ⟨rfl, b3⟩; rw [hf]; have HB3 : Hid (Below v1.heap.size v1 w3) := (HBV'.out).trans (b3.mono (HBV'.out).size); have s3 := Sits.below HSV.out b3 (Sits.lt HSV.out); have r0 := s3.cell 0; clear s3 b3; have tc := HTC.out _ HB3.out)
        all_goals first
          | (exfalso; have := HZ.out; omega)
          | (go_roundw
             case rel => exact ⟨k + 1, by omega, by go_num, fun i hi => by by_cases e : i = k; · rw [e]; exact fln_line.2 ⟨HFL.out, .inl HZ.out⟩
                                                                           · exact HA.out i (by omega), HB3.out⟩
             case measure => simp [intOf]; omega)
      · have hz' : decide ((0 : Int) < ((L k).n : Int)) = true := by simp; omega
        have HZ : Hid (¬ (L k).n = 0) := hz
        clear hz
        by_cases hin : (k : Int) ∈ l
        · have hd : decide ((k : Int) ∈ l) = true := by simpa using hin
          rw [hd] at HTC
          have HIN : Hid ((k : Int) ∈ l) := hin
          clear hin hd
          go_wp2_with (go_at_call 31; refine (ifairLineOk_any x cx (L k) (k : Int) _ HNK.out HNC.out ((PR.below HPR.out (HBB1.out _ HBV'.out)).mono (HBB1.out _ HBV'.out).size)).mono ?_; rintro e w3 ⟨rfl, b3⟩; rw [hf]; have HB3 : Hid (Below v1.heap.size v1 w3) := (HBV'.out).trans (b3.mono (HBV'.out).size); have s3 := Sits.below HSV.out b3 (Sits.lt HSV.out); have r0 := s3.cell 0; clear s3 b3; have tc := HTC.out _ HB3.out)
          all_goals
            go_roundw
            case rel => exact ⟨k + 1, by omega, by go_num, fun i hi => by by_cases e : i = k; · rw [e]; exact fln_line.2 ⟨HFL.out, .inr HIN.out⟩
                                                                          · exact HA.out i (by omega), HB3.out⟩
            case measure => simp [intOf]; omega
        · have hd : decide ((k : Int) ∈ l) = false := by simpa using hin
          rw [hd] at HTC
          have HE : Hid (false = fairB q lim 16 L l) := fair_no (fun h => by rcases (fln_line.1 (h.2.2.2.2.2 k hlt)).2 with e | e; exact HZ.out e; exact hin e)
          clear hin hd
          go_wp2_with (go_at_call 31; refine (ifairLineOk_any x cx (L k) (k : Int) _ HNK.out HNC.out ((PR.below HPR.out (HBB1.out _ HBV'.out)).mono (HBB1.out _ HBV'.out).size)).mono ?_; rintro e w3 ⟨rfl, b3⟩; rw [hf]; have HB3 : Hid (Below v1.heap.size v1 w3) := (HBV'.out).trans (b3.mono (HBV'.out).size); have s3 := Sits.below HSV.out b3 (Sits.lt HSV.out); have r0 := s3.cell 0; clear s3 b3; have tc := HTC.out _ HB3.out)
          all_goals first
            | (exfalso; have := HZ.out; omega)
            | (go_ret
               exact ⟨ret_bool HE.out, HBB1.out _ HB3.out⟩)
    · obtain rfl : k = 16 := by omega
      have HE : Hid (true = fairB q lim 16 L l) := fair_yes ⟨(HQ.out).1, (HQ.out).2, rfl, HOK.out, HT6.out, HA.out⟩
      go_wp2
      go_ret
      exact ⟨ret_bool HE.out, HBB1.out _ hB⟩

end Go.Proofs.Ytdhdigjghchdjaa
