/-
  RecvSeg OF THE SPECIFICATION.
-/
import Derived.Test.YtcmjnanejeekiaaDoorSegU
namespace Go.Proofs.YtcmjnanejeekiaaDoor
open Go.RowKit
set_option linter.unusedVariables false

theorem SR.congr {n₀ : Nat} {w : World} {a : Option Addr} {n : Nat} {f g : Nat → Sp} (h : SR n₀ w a n f) (e : ∀ i, i < n → f i = g i) : SR n₀ w a n g := by
  rcases h with h | ⟨b, off, ha, hlt, hc⟩
  · exact .inl h
  · exact .inr ⟨b, off, ha, hlt, fun i hi => by rw [← e i hi]; exact hc i hi⟩
theorem recvB_eq {nx : Int} {f : Nat → Sp} {n : Nat} : recvB nx f n = true ↔ recvP nx f n := decide_eq_true_iff

set_option maxRecDepth 100000 in
set_option maxHeartbeats 8000000 in
theorem srecvSeg_any (nx : Int) (a : Option Addr) (n c : Nat) (f : Nat → Sp) (fr to : Int) (w : World) (hP : SR w.heap.size w a n f) (hn : n ≤ 1048576) :
    Calls Tryd.prog 6 #[rcVal nx a n c, .int .i64 fr, .int .i64 to] w fun e w' => ∃ (x : Option Addr) (cap : Nat), e = .returned (.tuple #[rcVal (outN nx f n fr to) x (outL nx f n fr to).length cap, .int .i64 (outM nx f n fr to), .bool (segK nx f n fr to)]) ∧ OS w.heap.size w' x cap (outL nx f n fr to) ∧ Below w.heap.size w w' := by
  have HP : Hid (∀ V, Below w.heap.size w V → SR V.heap.size V a n f) := fun V h => SR.mono (SR.below hP h) h.size
  clear hP
  obtain ⟨W0, hW0⟩ : ∃ W, (w.alloc (.cells (rcCells nx a n c) 28)).alloc (.cells #[.int .i64 0, .slice none 0 0] 28) = W := ⟨_, rfl⟩
  have b0 : Below w.heap.size w W0 := by rw [← hW0]; exact ((Below.refl _ w).alloc (Nat.le_refl _) _).alloc (by simp) _
  have HS0 : Hid (Sits W0 w.heap.size (rcCells nx a n c) 28) := by rw [← hW0]; exact (Sits.new _ _ _).alloc _
  have HZ0 : Hid (Sits W0 (w.heap.size + 1) (rcCells 0 none 0 0) 28) := by rw [← hW0]; exact Sits.new' (by simp)
  obtain ⟨q0, q1⟩ := rc_cells HS0.out
  obtain ⟨p0, p1⟩ := rc_cells HZ0.out
  have fz := Sits.frozen HZ0.out
  by_cases hv : segP nx f n fr to
  case neg =>
    have e1 : outN nx f n fr to = 0 := if_neg hv
    have e2 : outL nx f n fr to = [] := if_neg hv
    have e4 : segK nx f n fr to = false := by unfold segK; rw [decide_eq_false hv]; rfl
    have e3 : outM nx f n fr to = 0 := by unfold outM; rw [e4]; rfl
    rw [e1, e2, e3, e4]
    clear e1 e2 e3 e4
    cases hb : recvB nx f n
    case false =>
      have HBB : Hid (recvB nx f n = false) := hb
      clear hb hv
      go_enter Tryd.func6, Tryd.ntmps6
      go_upto_region 1 with fail
      (try rw [hW0])
      clear hW0
      go_wp2_with (go_at_call 22; refine (srecvOk_any nx a n c f _ (HP.out _ b0) hn).mono ?_; rintro e w1 ⟨rfl, b1⟩; rw [HBB.out]; have B1 := b0.trans (b1.mono b0.size); have s1 := Sits.below HS0.out b1 (Sits.lt HS0.out); have z1 := Sits.below HZ0.out b1 (Sits.lt HZ0.out); clear q0 q1 p0 p1 fz; obtain ⟨q0, q1⟩ := rc_cells s1; obtain ⟨p0, p1⟩ := rc_cells z1; have fz := Sits.frozen z1; have lz := Sits.lt z1; have HS1 : Hid (Sits w1 w.heap.size (rcCells nx a n c) 28) := s1; have HZ1 : Hid (Sits w1 (w.heap.size + 1) (rcCells 0 none 0 0) 28) := z1; clear s1 z1)
      refine bodyPost_ret (ret_rc3 (nx := 0) (x := none) (n := 0) (c := 0) (m := 0) (b := false) (t := 28) (B := w.heap.size + 1) Tryd.results6 rfl rfl rfl (Sits.set (Sits.set HZ1.out 0 (.int .i64 0)) 1 (.slice none 0 0))) rfl ⟨none, 0, rfl, World.ownsRow_nil _ _ _ _, ?_⟩
      exact (B1.setCell (by show w.heap.size ≤ w.heap.size + 1; omega) _).setCell (by show w.heap.size ≤ w.heap.size + 1; omega) _
    case true =>
      have HBB : Hid (recvB nx f n = true) := hb
      have hrp := recvB_eq.1 hb
      by_cases k0 : fr < 0
      · clear hb hv hrp
        go_enter Tryd.func6, Tryd.ntmps6
        go_upto_region 1 with fail
        (try rw [hW0])
        clear hW0
        go_wp2_with (go_at_call 22; refine (srecvOk_any nx a n c f _ (HP.out _ b0) hn).mono ?_; rintro e w1 ⟨rfl, b1⟩; rw [HBB.out]; have B1 := b0.trans (b1.mono b0.size); have s1 := Sits.below HS0.out b1 (Sits.lt HS0.out); have z1 := Sits.below HZ0.out b1 (Sits.lt HZ0.out); clear q0 q1 p0 p1 fz; obtain ⟨q0, q1⟩ := rc_cells s1; obtain ⟨p0, p1⟩ := rc_cells z1; have fz := Sits.frozen z1; have lz := Sits.lt z1; have HS1 : Hid (Sits w1 w.heap.size (rcCells nx a n c) 28) := s1; have HZ1 : Hid (Sits w1 (w.heap.size + 1) (rcCells 0 none 0 0) 28) := z1; clear s1 z1)
        refine bodyPost_ret (ret_rc3 (nx := 0) (x := none) (n := 0) (c := 0) (m := 0) (b := false) (t := 28) (B := w.heap.size + 1) Tryd.results6 rfl rfl rfl (Sits.set (Sits.set HZ1.out 0 (.int .i64 0)) 1 (.slice none 0 0))) rfl ⟨none, 0, rfl, World.ownsRow_nil _ _ _ _, ?_⟩
        exact (B1.setCell (by show w.heap.size ≤ w.heap.size + 1; omega) _).setCell (by show w.heap.size ≤ w.heap.size + 1; omega) _
      have d0 : decide (fr < 0) = false := by simp; omega
      by_cases k1 : to ≤ fr
      · clear hb hv hrp
        go_enter Tryd.func6, Tryd.ntmps6
        go_upto_region 1 with fail
        (try rw [hW0])
        clear hW0
        go_wp2_with (go_at_call 22; refine (srecvOk_any nx a n c f _ (HP.out _ b0) hn).mono ?_; rintro e w1 ⟨rfl, b1⟩; rw [HBB.out]; have B1 := b0.trans (b1.mono b0.size); have s1 := Sits.below HS0.out b1 (Sits.lt HS0.out); have z1 := Sits.below HZ0.out b1 (Sits.lt HZ0.out); clear q0 q1 p0 p1 fz; obtain ⟨q0, q1⟩ := rc_cells s1; obtain ⟨p0, p1⟩ := rc_cells z1; have fz := Sits.frozen z1; have lz := Sits.lt z1; have HS1 : Hid (Sits w1 w.heap.size (rcCells nx a n c) 28) := s1; have HZ1 : Hid (Sits w1 (w.heap.size + 1) (rcCells 0 none 0 0) 28) := z1; clear s1 z1)
        refine bodyPost_ret (ret_rc3 (nx := 0) (x := none) (n := 0) (c := 0) (m := 0) (b := false) (t := 28) (B := w.heap.size + 1) Tryd.results6 rfl rfl rfl (Sits.set (Sits.set HZ1.out 0 (.int .i64 0)) 1 (.slice none 0 0))) rfl ⟨none, 0, rfl, World.ownsRow_nil _ _ _ _, ?_⟩
        exact (B1.setCell (by show w.heap.size ≤ w.heap.size + 1; omega) _).setCell (by show w.heap.size ≤ w.heap.size + 1; omega) _
      have d1 : decide (to ≤ fr) = false := by simp; omega
      have k2 : 1000000000000 < to := by
        by_cases k2 : 1000000000000 < to
        · exact k2
        · exact absurd ⟨hrp, by omega, by omega, by omega⟩ hv
      clear hb hv hrp
      go_enter Tryd.func6, Tryd.ntmps6
      go_upto_region 1 with fail
      (try rw [hW0])
      clear hW0
      go_wp2_with (go_at_call 22; refine (srecvOk_any nx a n c f _ (HP.out _ b0) hn).mono ?_; rintro e w1 ⟨rfl, b1⟩; rw [HBB.out]; have B1 := b0.trans (b1.mono b0.size); have s1 := Sits.below HS0.out b1 (Sits.lt HS0.out); have z1 := Sits.below HZ0.out b1 (Sits.lt HZ0.out); clear q0 q1 p0 p1 fz; obtain ⟨q0, q1⟩ := rc_cells s1; obtain ⟨p0, p1⟩ := rc_cells z1; have fz := Sits.frozen z1; have lz := Sits.lt z1; have HS1 : Hid (Sits w1 w.heap.size (rcCells nx a n c) 28) := s1; have HZ1 : Hid (Sits w1 (w.heap.size + 1) (rcCells 0 none 0 0) 28) := z1; clear s1 z1)
      refine bodyPost_ret (ret_rc3 (nx := 0) (x := none) (n := 0) (c := 0) (m := 0) (b := false) (t := 28) (B := w.heap.size + 1) Tryd.results6 rfl rfl rfl (Sits.set (Sits.set HZ1.out 0 (.int .i64 0)) 1 (.slice none 0 0))) rfl ⟨none, 0, rfl, World.ownsRow_nil _ _ _ _, ?_⟩
      exact (B1.setCell (by show w.heap.size ≤ w.heap.size + 1; omega) _).setCell (by show w.heap.size ≤ w.heap.size + 1; omega) _
  case pos =>
    have hb : recvB nx f n = true := recvB_eq.2 hv.1
    have HBB : Hid (recvB nx f n = true) := hb
    have d0 : decide (fr < 0) = false := by have := hv.2.1; simp; omega
    have d1 : decide (to ≤ fr) = false := by have := hv.2.2.1; simp; omega
    have d2 : decide (1000000000000 < to) = false := by have := hv.2.2.2; simp; omega
    have HRP : Hid (recvP nx f n) := hv.1
    have hn8 : n ≤ 8 := hv.1.2.2.1
    have x0 : 0 ≤ nx := hv.1.1
    have x1 : nx ≤ 1000000000000 := hv.1.2.1
    have hways := seg_ways hv
    have HVV : Hid (segP nx f n fr to) := hv
    have HW : Hid _ := hways
    clear hb hv hways
    go_enter Tryd.func6, Tryd.ntmps6
    go_upto_region 1 with fail
    (try rw [hW0])
    clear hW0
    go_upto_region 3 with (go_at_call 22; refine (srecvOk_any nx a n c f _ (HP.out _ b0) hn).mono ?_; rintro e w1 ⟨rfl, b1⟩; rw [HBB.out]; have B1 := b0.trans (b1.mono b0.size); have s1 := Sits.below HS0.out b1 (Sits.lt HS0.out); have z1 := Sits.below HZ0.out b1 (Sits.lt HZ0.out); clear q0 q1 p0 p1 fz; obtain ⟨q0, q1⟩ := rc_cells s1; obtain ⟨p0, p1⟩ := rc_cells z1; have fz := Sits.frozen z1; have lz := Sits.lt z1; have HS1 : Hid (Sits w1 w.heap.size (rcCells nx a n c) 28) := s1; have HZ1 : Hid (Sits w1 (w.heap.size + 1) (rcCells 0 none 0 0) 28) := z1; clear s1 z1)
    go_upto_region 4 with (go_at_call 23; refine (l11own_any nx a n c f _ (HP.out _ B1) (by omega)).mono ?_; rintro e w2 ⟨x, cap, rfl, ho, b2⟩)
    obtain ⟨V, hV⟩ : ∃ V, w2.heap.size = V := ⟨_, rfl⟩
    obtain ⟨W3, hW3⟩ : ∃ W, w2.alloc (.cells (rcCells nx x n cap) 28) = W := ⟨_, rfl⟩
    have hb2 := b2.size
    have B3 : Below w.heap.size w W3 := by rw [← hW3]; exact (B1.trans (b2.mono B1.size)).alloc (by have := B1.size; omega) _
    have SV : Sits W3 V (rcCells nx x n cap) 28 := by rw [← hW3]; exact Sits.new' hV
    have HZ3 : Hid (Sits W3 (w.heap.size + 1) (rcCells 0 none 0 0) 28) := by rw [← hW3]; exact (Sits.below HZ1.out b2 (Sits.lt HZ1.out)).alloc _
    have HS3 : Hid (Sits W3 w.heap.size (rcCells nx a n c) 28) := by rw [← hW3]; exact (Sits.below HS1.out b2 (Sits.lt HS1.out)).alloc _
    have ho3 : OS w1.heap.size W3 x cap (spL f n) := by rw [← hW3]; exact OS.below ho ((Below.refl _ _).alloc (Nat.le_refl _) _)
    have hzV : W3.heap.size = V + 1 := by rw [← hW3]; simp [hV]
    have lV : w1.heap.size ≤ V := by omega
    have HSV : Hid (Sits W3 V (rcCells nx x n cap) 28) := SV
    have HO3 : Hid (OS w1.heap.size W3 x cap (spL f n)) := ho3
    have HSR : Hid (SR W3.heap.size W3 x n f) := by
      have := ho3.zs.sr
      rw [spL_len] at this
      exact SR.congr this (fun i hi => by simp [spL, hi])
    have lw1 : w.heap.size + 1 < w1.heap.size := lz
    rw [hW3, hV]
    clear hW3 hV b2 ho ho3 SV HS1 HZ1 q0 q1 p0 p1 fz
    rcases HW.out with ⟨hlow, hA⟩ | ⟨hhigh, q, r, N, L, hq, hA, hNL, hN0, hN1⟩
    · have ht : (segA nx f n fr to).tail = spL f n := by rw [hA]; rfl
      have hk8 : (segA nx f n fr to).tail.length ≤ 8 := by rw [ht, spL_len]; exact hn8
      have HN : Hid (outN nx f n fr to = nx) := by show _ = _; unfold outN; rw [if_pos HVV.out, if_pos hk8, hA]; rfl
      have HL : Hid (outL nx f n fr to = spL f n) := by show _ = _; unfold outL; rw [if_pos HVV.out, if_pos hk8, ht]
      have HK : Hid (segK nx f n fr to = true) := by show _ = _; unfold segK; rw [decide_eq_true HVV.out, decide_eq_true hk8]; rfl
      have HM : Hid (outM nx f n fr to = 0) := by show _ = _; unfold outM; rw [HK.out, if_pos rfl, hA]; show nx - nx = 0; omega
      clear ht hk8 hA HW
      go_wp2_with (go_at_call 24; refine (l11seg_low V nx fr to x n cap _ HSV.out hlow).mono ?_; rintro e w9 ⟨rfl, hw9⟩; replace hw9 := hw9.symm; subst hw9; obtain ⟨v0, v1⟩ := rc_cells HSV.out; obtain ⟨p0, p1⟩ := rc_cells HZ3.out; have fz := Sits.frozen HZ3.out)
      refine bodyPost_ret (ret_rc3 (nx := nx) (x := x) (n := n) (c := cap) (m := 0) (b := true) (t := 28) (B := w.heap.size + 1) Tryd.results6 rfl rfl rfl (Sits.set (Sits.set HZ3.out 0 (.int .i64 nx)) 1 (.slice x n cap))) rfl ⟨x, cap, by rw [HN.out, HL.out, HM.out, HK.out, spL_len], ?_, ?_⟩
      · rw [HL.out]; exact OS.mono (OS.far (OS.far HO3.out (by omega) _ _) (by omega) _ _) (by omega)
      · exact (B3.setCell (by show w.heap.size ≤ w.heap.size + 1; omega) _).setCell (by show w.heap.size ≤ w.heap.size + 1; omega) _
    · have ht : (segA nx f n fr to).tail = L := by rw [hA]; rfl
      have hSEG := l11seg_high V nx fr to x n cap f W3 HSV.out HSR.out hn8 hhigh q r hq N L hNL x0 x1 hN0 hN1
      by_cases hk8 : L.length ≤ 8
      · have hk8' : (segA nx f n fr to).tail.length ≤ 8 := by rw [ht]; exact hk8
        have HN : Hid (outN nx f n fr to = N) := by show _ = _; unfold outN; rw [if_pos HVV.out, if_pos hk8', hA]; rfl
        have HL : Hid (outL nx f n fr to = L) := by show _ = _; unfold outL; rw [if_pos HVV.out, if_pos hk8', ht]
        have HK : Hid (segK nx f n fr to = true) := by show _ = _; unfold segK; rw [decide_eq_true HVV.out, decide_eq_true hk8']; rfl
        have HM : Hid (outM nx f n fr to = N - nx) := by show _ = _; unfold outM; rw [HK.out, if_pos rfl, hA]; rfl
        have hS2 := hSEG.mono (fun e w4 h => And.intro h.1 ((h.2.resolve_left (fun hb => absurd hb.1 (by omega))).2))
        have HSEG : Hid (Calls Tryd.prog 24 #[.pointer (some ⟨V, 0, none⟩), .int .i64 fr, .int .i64 to] W3 fun e w4 => Only V W3 w4 ∧ e = .returned (.tuple #[.int .i64 (N - nx), .bool true]) ∧ ∃ (x : Option Addr) (cap : Nat), Sits w4 V (rcCells N x L.length cap) 28 ∧ OS W3.heap.size w4 x cap L) := hS2
        clear ht hk8 hk8' hA HW hq hNL hSEG hS2
        go_wp2_with (go_at_call 24; refine (HSEG.out).mono ?_; rintro e w4 ⟨o4, rfl, x', cap', s4, ho4⟩; have z4 := Sits.only HZ3.out o4 (by omega); obtain ⟨v0, v1⟩ := rc_cells s4; obtain ⟨p0, p1⟩ := rc_cells z4; have fz := Sits.frozen z4; have HZ4 : Hid (Sits w4 (w.heap.size + 1) (rcCells 0 none 0 0) 28) := z4; have b4 : Below w.heap.size w w4 := B3.trans ((o4.below (C := w.heap.size) (by omega) B3.size)); have HO4 : Hid (OS W3.heap.size w4 x' cap' L) := ho4; clear s4 z4 o4 ho4)
        refine bodyPost_ret (ret_rc3 (nx := N) (x := x') (n := L.length) (c := cap') (m := N - nx) (b := true) (t := 28) (B := w.heap.size + 1) Tryd.results6 rfl rfl rfl (Sits.set (Sits.set HZ4.out 0 (.int .i64 N)) 1 (.slice x' L.length cap'))) rfl ⟨x', cap', by rw [HN.out, HL.out, HM.out, HK.out], ?_, ?_⟩
        · rw [HL.out]; exact OS.mono (OS.far (OS.far HO4.out (by omega) _ _) (by omega) _ _) (by omega)
        · exact (b4.setCell (by show w.heap.size ≤ w.heap.size + 1; omega) _).setCell (by show w.heap.size ≤ w.heap.size + 1; omega) _
      · have hk8' : ¬ (segA nx f n fr to).tail.length ≤ 8 := by rw [ht]; exact hk8
        have HN : Hid (outN nx f n fr to = nx) := by show _ = _; unfold outN; rw [if_pos HVV.out, if_neg hk8']
        have HL : Hid (outL nx f n fr to = spL f n) := by show _ = _; unfold outL; rw [if_pos HVV.out, if_neg hk8']
        have HK : Hid (segK nx f n fr to = false) := by show _ = _; unfold segK; rw [decide_eq_false hk8']; simp
        have HM : Hid (outM nx f n fr to = 0) := by show _ = _; unfold outM; rw [HK.out]; rfl
        have hS2 := hSEG.mono (fun e w4 h => And.intro h.1 ((h.2.resolve_right (fun hb => absurd hb.1 hk8)).2))
        have HSEG : Hid (Calls Tryd.prog 24 #[.pointer (some ⟨V, 0, none⟩), .int .i64 fr, .int .i64 to] W3 fun e w4 => Only V W3 w4 ∧ e = .returned (.tuple #[.int .i64 0, .bool false])) := hS2
        clear ht hk8 hk8' hA HW hq hNL hSEG hS2
        go_wp2_with (first | (go_at_call 24; refine (HSEG.out).mono ?_; rintro e w4 ⟨o4, rfl⟩; have z4 := Sits.only HZ3.out o4 (by omega); have r4 := Sits.only HS3.out o4 (by omega); obtain ⟨v0, v1⟩ := rc_cells r4; have HZ4 : Hid (Sits w4 (w.heap.size + 1) (rcCells 0 none 0 0) 28) := z4; have b4 : Below w.heap.size w w4 := B3.trans ((o4.below (C := w.heap.size) (by omega) B3.size)); clear z4 r4 o4) | (go_at_call 23; refine (l11own_any nx a n c f _ (HP.out _ b4) (by omega)).mono ?_; rintro e w5 ⟨x5, cap5, rfl, ho5, b5⟩; have z5 := Sits.below HZ4.out b5 (Sits.lt HZ4.out); obtain ⟨p0, p1⟩ := rc_cells z5; have fz := Sits.frozen z5; have HZ5 : Hid (Sits w5 (w.heap.size + 1) (rcCells 0 none 0 0) 28) := z5; have l4 := Sits.lt HZ4.out; have HO5 : Hid (OS w4.heap.size w5 x5 cap5 (spL f n)) := ho5; have B5 := b4.trans (b5.mono b4.size); clear z5 ho5 b5))
        refine bodyPost_ret (ret_rc3 (nx := nx) (x := x5) (n := n) (c := cap5) (m := 0) (b := false) (t := 28) (B := w.heap.size + 1) Tryd.results6 rfl rfl rfl (Sits.set (Sits.set HZ5.out 0 (.int .i64 nx)) 1 (.slice x5 n cap5))) rfl ⟨x5, cap5, by rw [HN.out, HL.out, HM.out, HK.out, spL_len], ?_, ?_⟩
        · rw [HL.out]; exact OS.mono (OS.far (OS.far HO5.out (by omega) _ _) (by omega) _ _) (by omega)
        · exact (B5.setCell (by show w.heap.size ≤ w.heap.size + 1; omega) _).setCell (by show w.heap.size ≤ w.heap.size + 1; omega) _

end Go.Proofs.YtcmjnanejeekiaaDoor
