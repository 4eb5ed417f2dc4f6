/-
  CubicGrow AND CubicLoss OF THE PROGRAM.
-/
import Derived.Test.YtfflheebjbdnoafDoorCubicH
import Derived.Test.YtfflheebjbdnoafDoorIsErr
import Derived.Test.YtfflheebjbdnoafDoorQTail
namespace Go.Proofs.YtfflheebjbdnoafDoor
open Go.RowKit
set_option linter.unusedVariables false

set_option maxRecDepth 100000 in
set_option maxHeartbeats 4000000 in
theorem icubicGrow_any (r : Cb) (now : Int) (i0 : -9223372036854775808 ≤ now) (i1 : now ≤ 9223372036854775807) (w : World) (hE : Errs w) :
    Calls Tryd.prog 5 #[r.val, .int .i64 now] w fun e w' => e = .returned (.tuple #[(r.grF now).val, .bool (r.grB now)]) ∧ Below w.heap.size w w' := by
  obtain ⟨a, b, hE⟩ := hE
  have HE : Hid (ErrAt a b w) := hE
  clear hE
  obtain ⟨s0, z0, c0⟩ := cboxes w r
  obtain ⟨W, hW⟩ : ∃ W, (w.alloc (.cells (cbCells r) 24)).alloc (.cells #[.int .i64 0, .int .i64 0, .int .i64 0, .int .i64 0, .int .i64 0, .bool false] 24) = W := ⟨_, rfl⟩
  rw [hW] at s0 z0 c0
  have lz := z0.lt
  have S0 : Hid (Sits W w.heap.size (cbCells r) 24) := s0
  have Z0 : Hid (Sits W (w.heap.size + 1) (cbCells Cb.zero) 24) := z0
  clear s0 z0
  cases hl : r.loB now
  case false =>
    have h1 : r.grB now = false := by unfold Cb.grB; simp [hl]
    have h2 : r.grF now = Cb.zero := by unfold Cb.grF; simp [h1]
    rw [h1, h2]
    clear h1 h2
    have HL : Hid (r.loB now = false) := hl
    clear hl
    go_enter Tryd.func5, Tryd.ntmps5
    go_upto_region 1 with fail
    try rw [hW]
    clear hW
    obtain ⟨q0, q1, q2, q3, q4, q5⟩ := cb_cells S0.out
    have fs := Sits.frozen S0.out
    obtain ⟨p0, p1, p2, p3, p4, p5⟩ := cb_cells Z0.out
    have fz := Sits.frozen Z0.out
    dsimp only [Cb.zero] at p0 p1 p2 p3 p4 p5
    (try dsimp only at q0 q1 q2 q3 q4 q5)
    go_wp2_with (first | (go_at_call 13; refine (hindrance_bad a b r now HL.out _ (ErrAt.below HE.out c0 (Nat.le_refl _))).mono ?_; rintro e w1 ⟨rfl, b1⟩; have s1 := Sits.below (S0.out) b1 (Sits.lt (S0.out)); have z1 := Sits.below (Z0.out) b1 (Sits.lt (Z0.out)); clear q0 q1 q2 q3 q4 q5 p0 p1 p2 p3 p4 p5 fs fz; obtain ⟨q0, q1, q2, q3, q4, q5⟩ := cb_cells s1; have fs := s1.frozen; obtain ⟨p0, p1, p2, p3, p4, p5⟩ := cb_cells z1; have fz := z1.frozen; dsimp only [Cb.zero] at p0 p1 p2 p3 p4 p5; (try dsimp only at q0 q1 q2 q3 q4 q5); have lz1 := z1.lt; have S1 : Hid (Sits w1 w.heap.size (cbCells r) 24) := s1; have Z1 : Hid (Sits w1 (w.heap.size + 1) (cbCells Cb.zero) 24) := z1; have c1 := Below.trans (c0) (b1.mono (Below.size (c0))); obtain ⟨e0, e1, hne, hba, hbb⟩ := ErrAt.below HE.out c1 (Nat.le_refl _); clear s1 z1 b1))
    refine bodyPost_ret (ret_cbb (q := Cb.zero) (b := false) (t := 24) (B := w.heap.size + 1) Tryd.results5 rfl rfl ?_) rfl ⟨rfl, ?_⟩
    · exact putCb_sits (Z1.out) Cb.zero
    · exact putCb_below (c1) (by omega) Cb.zero
  case true =>
  have HL : Hid (r.loB now = true) := hl
  have hlb : r.good = true ∧ r.timeB now = true := by unfold Cb.loB at hl; simpa using hl
  obtain ⟨g1, g2, g3, g4, g5, g6, g7, g8, g9, g10⟩ := r.good_iff.1 hlb.1
  by_cases hw : r.wn = 1048576
  · have h1 : r.grB now = false := by unfold Cb.grB; simp; omega
    have h2 : r.grF now = Cb.zero := by unfold Cb.grF; simp [h1]
    rw [h1, h2]
    clear h1 h2 hl hlb
    have HW : Hid (r.wn = 1048576) := hw
    clear hw
    go_enter Tryd.func5, Tryd.ntmps5
    go_upto_region 1 with fail
    try rw [hW]
    clear hW
    obtain ⟨q0, q1, q2, q3, q4, q5⟩ := cb_cells S0.out
    have fs := Sits.frozen S0.out
    obtain ⟨p0, p1, p2, p3, p4, p5⟩ := cb_cells Z0.out
    have fz := Sits.frozen Z0.out
    dsimp only [Cb.zero] at p0 p1 p2 p3 p4 p5
    (try dsimp only at q0 q1 q2 q3 q4 q5)
    go_wp2_with (first | (go_at_call 13; refine (hindrance_full a b r now HL.out HW.out _ (ErrAt.below HE.out c0 (Nat.le_refl _))).mono ?_; rintro e w1 ⟨rfl, b1⟩; have s1 := Sits.below (S0.out) b1 (Sits.lt (S0.out)); have z1 := Sits.below (Z0.out) b1 (Sits.lt (Z0.out)); clear q0 q1 q2 q3 q4 q5 p0 p1 p2 p3 p4 p5 fs fz; obtain ⟨q0, q1, q2, q3, q4, q5⟩ := cb_cells s1; have fs := s1.frozen; obtain ⟨p0, p1, p2, p3, p4, p5⟩ := cb_cells z1; have fz := z1.frozen; dsimp only [Cb.zero] at p0 p1 p2 p3 p4 p5; (try dsimp only at q0 q1 q2 q3 q4 q5); have lz1 := z1.lt; have S1 : Hid (Sits w1 w.heap.size (cbCells r) 24) := s1; have Z1 : Hid (Sits w1 (w.heap.size + 1) (cbCells Cb.zero) 24) := z1; have c1 := Below.trans (c0) (b1.mono (Below.size (c0))); obtain ⟨e0, e1, hne, hba, hbb⟩ := ErrAt.below HE.out c1 (Nat.le_refl _); clear s1 z1 b1))
    refine bodyPost_ret (ret_cbb (q := Cb.zero) (b := false) (t := 24) (B := w.heap.size + 1) Tryd.results5 rfl rfl ?_) rfl ⟨rfl, ?_⟩
    · exact putCb_sits (Z1.out) Cb.zero
    · exact putCb_below (c1) (by omega) Cb.zero
  have h1 : r.grB now = true := by unfold Cb.grB; rw [hl]; simp; omega
  have h2 : r.grF now = r.grw now := by unfold Cb.grF; simp [h1]
  rw [h1, h2]
  clear h1 h2
  have HW : Hid (r.wn < 1048576) := by show r.wn < 1048576; omega
  have HWN : Hid (r.wn ≤ 1048576) := g2
  clear hw hl
  by_cases k : r.wn < r.th
  · have hv : r.grw now = (Cb.mk (r.wn + 1) r.mx r.kk r.st r.th r.bg) := by unfold Cb.grw; rw [if_pos k]
    rw [hv]
    clear hv hlb
    go_enter Tryd.func5, Tryd.ntmps5
    go_upto_region 1 with fail
    try rw [hW]
    clear hW
    obtain ⟨q0, q1, q2, q3, q4, q5⟩ := cb_cells S0.out
    have fs := Sits.frozen S0.out
    obtain ⟨p0, p1, p2, p3, p4, p5⟩ := cb_cells Z0.out
    have fz := Sits.frozen Z0.out
    dsimp only [Cb.zero] at p0 p1 p2 p3 p4 p5
    (try dsimp only at q0 q1 q2 q3 q4 q5)
    go_wp2_with (first | (go_at_call 13; refine (hindrance_nil a b r now HL.out HW.out _ (ErrAt.below HE.out c0 (Nat.le_refl _))).mono ?_; rintro e w1 ⟨rfl, b1⟩; have s1 := Sits.below (S0.out) b1 (Sits.lt (S0.out)); have z1 := Sits.below (Z0.out) b1 (Sits.lt (Z0.out)); clear q0 q1 q2 q3 q4 q5 p0 p1 p2 p3 p4 p5 fs fz; obtain ⟨q0, q1, q2, q3, q4, q5⟩ := cb_cells s1; have fs := s1.frozen; obtain ⟨p0, p1, p2, p3, p4, p5⟩ := cb_cells z1; have fz := z1.frozen; dsimp only [Cb.zero] at p0 p1 p2 p3 p4 p5; (try dsimp only at q0 q1 q2 q3 q4 q5); have lz1 := z1.lt; have S1 : Hid (Sits w1 w.heap.size (cbCells r) 24) := s1; have Z1 : Hid (Sits w1 (w.heap.size + 1) (cbCells Cb.zero) 24) := z1; have c1 := Below.trans (c0) (b1.mono (Below.size (c0))); obtain ⟨e0, e1, hne, hba, hbb⟩ := ErrAt.below HE.out c1 (Nat.le_refl _); clear s1 z1 b1))
    refine bodyPost_ret (ret_cbb (q := (Cb.mk (r.wn + 1) r.mx r.kk r.st r.th r.bg)) (b := true) (t := 24) (B := w.heap.size + 1) Tryd.results5 rfl rfl ?_) rfl ⟨rfl, ?_⟩
    · exact putCb_sits (Sits.other (Z1.out) (by omega) _) (Cb.mk (r.wn + 1) r.mx r.kk r.st r.th r.bg)
    · exact putCb_below (Below.setCell (c1) (Nat.le_refl _) _) (by omega) (Cb.mk (r.wn + 1) r.mx r.kk r.st r.th r.bg)
  obtain ⟨t0, t1, t2⟩ := (r.timeB_iff now).1 hlb.2
  cases hb : r.bg
  case true =>
    obtain ⟨t2, t3⟩ := t2 hb
    obtain ⟨x, hx⟩ : ∃ x, wF r.mx r.kk (now - r.st) = x := ⟨_, rfl⟩
    obtain ⟨X, hX⟩ : ∃ X, towF r.wn x = X := ⟨_, rfl⟩
    have hv : r.grw now = (Cb.mk X r.mx r.kk r.st r.th r.bg) := by unfold Cb.grw; rw [if_neg k]; unfold Cb.opn; rw [if_pos hb, hx, hX]
    rw [hv]
    clear hv hlb
    have HB : Hid (r.bg = true) := hb
    clear hb
    go_enter Tryd.func5, Tryd.ntmps5
    go_upto_region 1 with fail
    try rw [hW]
    clear hW
    obtain ⟨q0, q1, q2, q3, q4, q5⟩ := cb_cells S0.out
    have fs := Sits.frozen S0.out
    obtain ⟨p0, p1, p2, p3, p4, p5⟩ := cb_cells Z0.out
    have fz := Sits.frozen Z0.out
    dsimp only [Cb.zero] at p0 p1 p2 p3 p4 p5
    (try dsimp only at q0 q1 q2 q3 q4 q5)
    go_upto_region 9 with (first | (go_at_call 13; refine (hindrance_nil a b r now HL.out HW.out _ (ErrAt.below HE.out c0 (Nat.le_refl _))).mono ?_; rintro e w1 ⟨rfl, b1⟩; have s1 := Sits.below (S0.out) b1 (Sits.lt (S0.out)); have z1 := Sits.below (Z0.out) b1 (Sits.lt (Z0.out)); clear q0 q1 q2 q3 q4 q5 p0 p1 p2 p3 p4 p5 fs fz; obtain ⟨q0, q1, q2, q3, q4, q5⟩ := cb_cells s1; have fs := s1.frozen; obtain ⟨p0, p1, p2, p3, p4, p5⟩ := cb_cells z1; have fz := z1.frozen; dsimp only [Cb.zero] at p0 p1 p2 p3 p4 p5; (try dsimp only at q0 q1 q2 q3 q4 q5); have lz1 := z1.lt; have S1 : Hid (Sits w1 w.heap.size (cbCells r) 24) := s1; have Z1 : Hid (Sits w1 (w.heap.size + 1) (cbCells Cb.zero) 24) := z1; have c1 := Below.trans (c0) (b1.mono (Below.size (c0))); obtain ⟨e0, e1, hne, hba, hbb⟩ := ErrAt.below HE.out c1 (Nat.le_refl _); rw [HB.out] at q5; clear s1 z1 b1))
    have e9 : IntKind.i64.wrap (now - r.st) = now - r.st := wrapc (by omega) (by omega)
    clear q0 q1 q2 q3 q4 q5 p0 p1 p2 p3 p4 p5 fs fz
    refine wp_region_qtail 13 (C := fun w' => Below w1.heap.size w1 w') (by kernel_rfl) (by kernel_rfl) ((Below.refl _ _).drew) ?_
    simp only [List.take_succ_cons, List.take_zero, List.drop_succ_cons, List.drop_zero]
    repeat (first
      | go_big_quiet_skip
      | (go_big_quiet_want
         unfold Oper.quiet
         apply Exists.intro
         refine ⟨fun w' hw' => ?_, ?_⟩
         (obtain ⟨q0, q1, q2, q3, q4, q5⟩ := cb_cells (Sits.below S1.out hw' (Sits.lt S1.out))
          (try dsimp only at q0 q1 q2 q3 q4 q5)
          go_simp
          first
            | (go_at_call 16; refine (icubicW_any _ _ _ _).mono ?_; rintro e w8 ⟨rfl, rfl⟩; rw [hx]; exact ⟨rfl, hw'⟩)
            | (go_at_call 15; refine (towards_any _ _ g1 HWN.out _).mono ?_; rintro e w8 ⟨rfl, rfl⟩; rw [hX]; exact ⟨rfl, hw'⟩)
            | exact rfl)
         simp only [Act.put, List.setIfInBounds_toArray, List.set_cons_zero, List.set_cons_succ]
         go_big_quiet_on))
    refine wpQuiet_nil ?_
    intro w7 hw7
    have s7 := Sits.below S1.out hw7 (Sits.lt S1.out)
    have z7 := Sits.below Z1.out hw7 (Sits.lt Z1.out)
    have c7 := Below.trans c1 (hw7.mono (Below.size c1))
    obtain ⟨q0, q1, q2, q3, q4, q5⟩ := cb_cells s7
    have fs := s7.frozen
    obtain ⟨p0, p1, p2, p3, p4, p5⟩ := cb_cells z7
    have fz := z7.frozen
    dsimp only [Cb.zero] at p0 p1 p2 p3 p4 p5
    (try dsimp only at q0 q1 q2 q3 q4 q5)
    have lz7 := z7.lt
    have Z7 : Hid (Sits w7 (w.heap.size + 1) (cbCells Cb.zero) 24) := z7
    have S7 : Hid (Sits w7 w.heap.size (cbCells r) 24) := s7
    clear s7 z7 hw7
    go_wp2
    refine bodyPost_ret (ret_cbb (q := (Cb.mk X r.mx r.kk r.st r.th r.bg)) (b := true) (t := 24) (B := w.heap.size + 1) Tryd.results5 rfl rfl ?_) rfl ⟨rfl, ?_⟩
    · exact putCb_sits (Sits.other (Z7.out) (by omega) _) (Cb.mk X r.mx r.kk r.st r.th r.bg)
    · exact putCb_below (Below.setCell (c7) (Nat.le_refl _) _) (by omega) (Cb.mk X r.mx r.kk r.st r.th r.bg)
  case false =>
    clear t2
    obtain ⟨m, hm⟩ : ∃ m, cmax r.mx r.wn = m := ⟨_, rfl⟩
    have hm2 : (if r.mx < r.wn then r.wn else r.mx) = m := hm
    obtain ⟨K, hK⟩ : ∃ K, kF m r.wn = K := ⟨_, rfl⟩
    obtain ⟨x, hx⟩ : ∃ x, wF m K 0 = x := ⟨_, rfl⟩
    obtain ⟨X, hX⟩ : ∃ X, towF r.wn x = X := ⟨_, rfl⟩
    have hv : r.grw now = (Cb.mk X m K now r.th true) := by unfold Cb.grw; rw [if_neg k]; unfold Cb.opn; rw [if_neg (by rw [hb]; decide)]; unfold Cb.beg; dsimp only; rw [hm, hK, show now - now = (0 : Int) by omega, hx, hX]
    rw [hv]
    clear hv hlb
    have HB : Hid (r.bg = false) := hb
    have hbeg : Cb.beg (Cb.mk r.wn m r.kk r.st r.th false) now = (Cb.mk r.wn m K now r.th true) := by unfold Cb.beg; dsimp only; rw [hK]
    have HBG : Hid (Cb.beg (Cb.mk r.wn m r.kk r.st r.th false) now = (Cb.mk r.wn m K now r.th true)) := hbeg
    clear hb hbeg hm
    go_enter Tryd.func5, Tryd.ntmps5
    go_upto_region 1 with fail
    try rw [hW]
    clear hW
    obtain ⟨q0, q1, q2, q3, q4, q5⟩ := cb_cells S0.out
    have fs := Sits.frozen S0.out
    obtain ⟨p0, p1, p2, p3, p4, p5⟩ := cb_cells Z0.out
    have fz := Sits.frozen Z0.out
    dsimp only [Cb.zero] at p0 p1 p2 p3 p4 p5
    (try dsimp only at q0 q1 q2 q3 q4 q5)
    go_upto_region 8 with (first | (go_at_call 13; refine (hindrance_nil a b r now HL.out HW.out _ (ErrAt.below HE.out c0 (Nat.le_refl _))).mono ?_; rintro e w1 ⟨rfl, b1⟩; have s1 := Sits.below (S0.out) b1 (Sits.lt (S0.out)); have z1 := Sits.below (Z0.out) b1 (Sits.lt (Z0.out)); clear q0 q1 q2 q3 q4 q5 p0 p1 p2 p3 p4 p5 fs fz; obtain ⟨q0, q1, q2, q3, q4, q5⟩ := cb_cells s1; have fs := s1.frozen; obtain ⟨p0, p1, p2, p3, p4, p5⟩ := cb_cells z1; have fz := z1.frozen; dsimp only [Cb.zero] at p0 p1 p2 p3 p4 p5; (try dsimp only at q0 q1 q2 q3 q4 q5); have lz1 := z1.lt; have S1 : Hid (Sits w1 w.heap.size (cbCells r) 24) := s1; have Z1 : Hid (Sits w1 (w.heap.size + 1) (cbCells Cb.zero) 24) := z1; have c1 := Below.trans (c0) (b1.mono (Below.size (c0))); obtain ⟨e0, e1, hne, hba, hbb⟩ := ErrAt.below HE.out c1 (Nat.le_refl _); rw [HB.out] at q5; clear s1 z1 b1))
    obtain ⟨W2, hW2⟩ : ∃ x, w1.setCell ⟨w.heap.size, 1, none⟩ (.int .i64 m) = x := ⟨_, rfl⟩
    have s1 : Sits W2 w.heap.size (cbCells (Cb.mk r.wn m r.kk r.st r.th r.bg)) 24 := by rw [← hW2]; exact (cb_s1 S1.out m)
    have z1 : Sits W2 (w.heap.size + 1) (cbCells Cb.zero) 24 := by rw [← hW2]; exact Sits.other (Z1.out) (by omega) _
    have c2 : Below w.heap.size w W2 := by rw [← hW2]; exact Below.setCell (c1) (Nat.le_refl _) _
    rw [hW2]
    clear hW2 q0 q1 q2 q3 q4 q5 p0 p1 p2 p3 p4 p5 fs fz
    obtain ⟨q0, q1, q2, q3, q4, q5⟩ := cb_cells s1
    have fs := s1.frozen
    obtain ⟨p0, p1, p2, p3, p4, p5⟩ := cb_cells z1
    have fz := z1.frozen
    dsimp only [Cb.zero] at p0 p1 p2 p3 p4 p5
    (try dsimp only at q0 q1 q2 q3 q4 q5)
    have lz2 := z1.lt
    have S2 : Hid (Sits W2 w.heap.size (cbCells (Cb.mk r.wn m r.kk r.st r.th r.bg)) 24) := s1
    have Z2 : Hid (Sits W2 (w.heap.size + 1) (cbCells Cb.zero) 24) := z1
    clear s1 z1
    rw [HB.out] at q5
    go_upto_region 9 with (first | (go_at_call 14; refine (curveBegun_any (Cb.mk r.wn m r.kk r.st r.th false) now _).mono ?_; rintro e w3 ⟨rfl, b3⟩; rw [HBG.out]; have s1 := Sits.below (S2.out) b3 (Sits.lt (S2.out)); have z1 := Sits.below (Z2.out) b3 (Sits.lt (Z2.out)); clear q0 q1 q2 q3 q4 q5 p0 p1 p2 p3 p4 p5 fs fz; obtain ⟨q0, q1, q2, q3, q4, q5⟩ := cb_cells s1; have fs := s1.frozen; obtain ⟨p0, p1, p2, p3, p4, p5⟩ := cb_cells z1; have fz := z1.frozen; dsimp only [Cb.zero] at p0 p1 p2 p3 p4 p5; (try dsimp only at q0 q1 q2 q3 q4 q5); have lz3 := z1.lt; have S3 : Hid (Sits w3 w.heap.size (cbCells (Cb.mk r.wn m r.kk r.st r.th r.bg)) 24) := s1; have Z3 : Hid (Sits w3 (w.heap.size + 1) (cbCells Cb.zero) 24) := z1; have c3 := Below.trans (c2) (b3.mono (Below.size (c2))); clear s1 z1 b3))
    obtain ⟨W4, hW4⟩ : ∃ x, ((((((w3.setCell ⟨w.heap.size, 0, none⟩ (.int .i64 r.wn)).setCell ⟨w.heap.size, 1, none⟩ (.int .i64 m)).setCell ⟨w.heap.size, 2, none⟩ (.int .i64 K)).setCell ⟨w.heap.size, 3, none⟩ (.int .i64 now)).setCell ⟨w.heap.size, 4, none⟩ (.int .i64 r.th)).setCell ⟨w.heap.size, 5, none⟩ (.bool true)) = x := ⟨_, rfl⟩
    have s1 : Sits W4 w.heap.size (cbCells (Cb.mk r.wn m K now r.th true)) 24 := by rw [← hW4]; exact putCb_sits S3.out (Cb.mk r.wn m K now r.th true)
    have z1 : Sits W4 (w.heap.size + 1) (cbCells Cb.zero) 24 := by rw [← hW4]; exact putCb_other Z3.out (by omega) (Cb.mk r.wn m K now r.th true)
    have c4 : Below w.heap.size w W4 := by rw [← hW4]; exact putCb_below c3 (Nat.le_refl _) (Cb.mk r.wn m K now r.th true)
    rw [hW4]
    clear hW4 q0 q1 q2 q3 q4 q5 p0 p1 p2 p3 p4 p5 fs fz
    obtain ⟨q0, q1, q2, q3, q4, q5⟩ := cb_cells s1
    have fs := s1.frozen
    obtain ⟨p0, p1, p2, p3, p4, p5⟩ := cb_cells z1
    have fz := z1.frozen
    dsimp only [Cb.zero] at p0 p1 p2 p3 p4 p5
    (try dsimp only at q0 q1 q2 q3 q4 q5)
    have lz4 := z1.lt
    have S4 : Hid (Sits W4 w.heap.size (cbCells (Cb.mk r.wn m K now r.th true)) 24) := s1
    have Z4 : Hid (Sits W4 (w.heap.size + 1) (cbCells Cb.zero) 24) := z1
    clear s1 z1
    have e9 : IntKind.i64.wrap 0 = 0 := by decide
    clear q0 q1 q2 q3 q4 q5 p0 p1 p2 p3 p4 p5 fs fz
    refine wp_region_qtail 13 (C := fun w' => Below W4.heap.size W4 w') (by kernel_rfl) (by kernel_rfl) ((Below.refl _ _).drew) ?_
    simp only [List.take_succ_cons, List.take_zero, List.drop_succ_cons, List.drop_zero]
    repeat (first
      | go_big_quiet_skip
      | (go_big_quiet_want
         unfold Oper.quiet
         apply Exists.intro
         refine ⟨fun w' hw' => ?_, ?_⟩
         (obtain ⟨q0, q1, q2, q3, q4, q5⟩ := cb_cells (Sits.below S4.out hw' (Sits.lt S4.out))
          (try dsimp only at q0 q1 q2 q3 q4 q5)
          go_simp
          first
            | (go_at_call 16; refine (icubicW_any _ _ _ _).mono ?_; rintro e w8 ⟨rfl, rfl⟩; rw [hx]; exact ⟨rfl, hw'⟩)
            | (go_at_call 15; refine (towards_any _ _ g1 HWN.out _).mono ?_; rintro e w8 ⟨rfl, rfl⟩; rw [hX]; exact ⟨rfl, hw'⟩)
            | exact rfl)
         simp only [Act.put, List.setIfInBounds_toArray, List.set_cons_zero, List.set_cons_succ]
         go_big_quiet_on))
    refine wpQuiet_nil ?_
    intro w7 hw7
    have s7 := Sits.below S4.out hw7 (Sits.lt S4.out)
    have z7 := Sits.below Z4.out hw7 (Sits.lt Z4.out)
    have c7 := Below.trans c4 (hw7.mono (Below.size c4))
    obtain ⟨q0, q1, q2, q3, q4, q5⟩ := cb_cells s7
    have fs := s7.frozen
    obtain ⟨p0, p1, p2, p3, p4, p5⟩ := cb_cells z7
    have fz := z7.frozen
    dsimp only [Cb.zero] at p0 p1 p2 p3 p4 p5
    (try dsimp only at q0 q1 q2 q3 q4 q5)
    have lz7 := z7.lt
    have Z7 : Hid (Sits w7 (w.heap.size + 1) (cbCells Cb.zero) 24) := z7
    have S7 : Hid (Sits w7 w.heap.size (cbCells (Cb.mk r.wn m K now r.th true)) 24) := s7
    clear s7 z7 hw7
    go_wp2
    refine bodyPost_ret (ret_cbb (q := (Cb.mk X m K now r.th true)) (b := true) (t := 24) (B := w.heap.size + 1) Tryd.results5 rfl rfl ?_) rfl ⟨rfl, ?_⟩
    · exact putCb_sits (Sits.other (Z7.out) (by omega) _) (Cb.mk X m K now r.th true)
    · exact putCb_below (Below.setCell (c7) (Nat.le_refl _) _) (by omega) (Cb.mk X m K now r.th true)

set_option maxRecDepth 100000 in
set_option maxHeartbeats 4000000 in
theorem icubicLoss_any (r : Cb) (now : Int) (i0 : -9223372036854775808 ≤ now) (i1 : now ≤ 9223372036854775807) (w : World) (hE : Errs w) :
    Calls Tryd.prog 6 #[r.val, .int .i64 now] w fun e w' => e = .returned (.tuple #[(r.loF now).val, .bool (r.loB now)]) ∧ Below w.heap.size w w' := by
  obtain ⟨a, b, hE⟩ := hE
  have HE : Hid (ErrAt a b w) := hE
  clear hE
  obtain ⟨s0, z0, c0⟩ := cboxes w r
  obtain ⟨W, hW⟩ : ∃ W, (w.alloc (.cells (cbCells r) 24)).alloc (.cells #[.int .i64 0, .int .i64 0, .int .i64 0, .int .i64 0, .int .i64 0, .bool false] 24) = W := ⟨_, rfl⟩
  rw [hW] at s0 z0 c0
  have lz := z0.lt
  have S0 : Hid (Sits W w.heap.size (cbCells r) 24) := s0
  have Z0 : Hid (Sits W (w.heap.size + 1) (cbCells Cb.zero) 24) := z0
  clear s0 z0
  cases hl : r.loB now
  case false =>
    have h2 : r.loF now = Cb.zero := by unfold Cb.loF; simp [hl]
    rw [h2]
    clear h2
    have HL : Hid (r.loB now = false) := hl
    clear hl
    go_enter Tryd.func6, Tryd.ntmps6
    go_upto_region 1 with fail
    try rw [hW]
    clear hW
    obtain ⟨q0, q1, q2, q3, q4, q5⟩ := cb_cells S0.out
    have fs := Sits.frozen S0.out
    obtain ⟨p0, p1, p2, p3, p4, p5⟩ := cb_cells Z0.out
    have fz := Sits.frozen Z0.out
    dsimp only [Cb.zero] at p0 p1 p2 p3 p4 p5
    (try dsimp only at q0 q1 q2 q3 q4 q5)
    go_wp2_with (first | (go_at_call 13; refine (hindrance_bad a b r now HL.out _ (ErrAt.below HE.out c0 (Nat.le_refl _))).mono ?_; rintro e w1 ⟨rfl, b1⟩; have s1 := Sits.below (S0.out) b1 (Sits.lt (S0.out)); have z1 := Sits.below (Z0.out) b1 (Sits.lt (Z0.out)); clear q0 q1 q2 q3 q4 q5 p0 p1 p2 p3 p4 p5 fs fz; obtain ⟨q0, q1, q2, q3, q4, q5⟩ := cb_cells s1; have fs := s1.frozen; obtain ⟨p0, p1, p2, p3, p4, p5⟩ := cb_cells z1; have fz := z1.frozen; dsimp only [Cb.zero] at p0 p1 p2 p3 p4 p5; (try dsimp only at q0 q1 q2 q3 q4 q5); have lz1 := z1.lt; have S1 : Hid (Sits w1 w.heap.size (cbCells r) 24) := s1; have Z1 : Hid (Sits w1 (w.heap.size + 1) (cbCells Cb.zero) 24) := z1; have c1 := Below.trans (c0) (b1.mono (Below.size (c0))); obtain ⟨e0, e1, hne, hba, hbb⟩ := ErrAt.below HE.out c1 (Nat.le_refl _); clear s1 z1 b1) | (go_at_call 17; obtain ⟨ca, ta, hba⟩ := hba; obtain ⟨cb, tb, hbb⟩ := hbb; refine (is_other b a cb ca tb ta _ ?_ ?_ ?_).mono ?_; exact hne.symm; exact hbb; exact hba; rintro e w9 ⟨rfl, hw9⟩; replace hw9 := hw9.symm; subst hw9))
    refine bodyPost_ret (ret_cbb (q := Cb.zero) (b := false) (t := 24) (B := w.heap.size + 1) Tryd.results6 rfl rfl ?_) rfl ⟨rfl, ?_⟩
    · exact putCb_sits (Z1.out) Cb.zero
    · exact putCb_below (c1) (by omega) Cb.zero
  case true =>
  have HL : Hid (r.loB now = true) := hl
  have hlb : r.good = true ∧ r.timeB now = true := by unfold Cb.loB at hl; simpa using hl
  have HG : Hid (r.good = true) := hlb.1
  obtain ⟨g1, g2, g3, g4, g5, g6, g7, g8, g9, g10⟩ := r.good_iff.1 hlb.1
  have h2 : r.loF now = r.los now := by unfold Cb.loF; simp [hl]
  rw [h2]
  clear h2 hl hlb
  obtain ⟨m, hm⟩ : ∃ m, heiF r.wn r.mx = m := ⟨_, rfl⟩
  obtain ⟨v, hv⟩ : ∃ v, cmax (r.wn * 7 / 10) 1 = v := ⟨_, rfl⟩
  obtain ⟨t, ht⟩ : ∃ t, cmax v 2 = t := ⟨_, rfl⟩
  obtain ⟨K, hK⟩ : ∃ K, kF m v = K := ⟨_, rfl⟩
  have hlos : r.los now = (Cb.mk v m K now t true) := by unfold Cb.los Cb.beg; dsimp only; rw [hm, hv, ht, hK]
  rw [hlos]
  have hbeg : Cb.beg (Cb.mk v m r.kk r.st t r.bg) now = (Cb.mk v m K now t true) := by unfold Cb.beg; dsimp only; rw [hK]
  have HBG : Hid (Cb.beg (Cb.mk v m r.kk r.st t r.bg) now = (Cb.mk v m K now t true)) := hbeg
  have hv2 : (if r.wn * 7 / 10 < 1 then 1 else r.wn * 7 / 10) = v := hv
  have ht2 : (if v < 2 then 2 else v) = t := ht
  have e7 : IntKind.i64.wrap ((r.wn * 7).tdiv 10) = r.wn * 7 / 10 := by rw [Int.tdiv_eq_ediv_of_nonneg (by omega)]; exact wrapc (by omega) (by omega)
  clear hlos hbeg hv ht
  by_cases hw : r.wn = 1048576
  · have HW : Hid (r.wn = 1048576) := hw
    clear hw
    go_enter Tryd.func6, Tryd.ntmps6
    go_upto_region 1 with fail
    try rw [hW]
    clear hW
    obtain ⟨q0, q1, q2, q3, q4, q5⟩ := cb_cells S0.out
    have fs := Sits.frozen S0.out
    obtain ⟨p0, p1, p2, p3, p4, p5⟩ := cb_cells Z0.out
    have fz := Sits.frozen Z0.out
    dsimp only [Cb.zero] at p0 p1 p2 p3 p4 p5
    (try dsimp only at q0 q1 q2 q3 q4 q5)
    go_upto_region 4 with (first | (go_at_call 13; refine (hindrance_full a b r now HL.out HW.out _ (ErrAt.below HE.out c0 (Nat.le_refl _))).mono ?_; rintro e w1 ⟨rfl, b1⟩; have s1 := Sits.below (S0.out) b1 (Sits.lt (S0.out)); have z1 := Sits.below (Z0.out) b1 (Sits.lt (Z0.out)); clear q0 q1 q2 q3 q4 q5 p0 p1 p2 p3 p4 p5 fs fz; obtain ⟨q0, q1, q2, q3, q4, q5⟩ := cb_cells s1; have fs := s1.frozen; obtain ⟨p0, p1, p2, p3, p4, p5⟩ := cb_cells z1; have fz := z1.frozen; dsimp only [Cb.zero] at p0 p1 p2 p3 p4 p5; (try dsimp only at q0 q1 q2 q3 q4 q5); have lz1 := z1.lt; have S1 : Hid (Sits w1 w.heap.size (cbCells r) 24) := s1; have Z1 : Hid (Sits w1 (w.heap.size + 1) (cbCells Cb.zero) 24) := z1; have c1 := Below.trans (c0) (b1.mono (Below.size (c0))); obtain ⟨e0, e1, hne, hba, hbb⟩ := ErrAt.below HE.out c1 (Nat.le_refl _); clear s1 z1 b1) | (go_at_call 17; refine (is_same a _).mono ?_; rintro e w9 ⟨rfl, hw9⟩; replace hw9 := hw9.symm; subst hw9))
    go_upto_region 5 with (first | (go_at_call 18; refine (heightAtLoss_any r HG.out _).mono ?_; rintro e w2 ⟨rfl, b2⟩; rw [hm]; have s1 := Sits.below (S1.out) b2 (Sits.lt (S1.out)); have z1 := Sits.below (Z1.out) b2 (Sits.lt (Z1.out)); clear q0 q1 q2 q3 q4 q5 p0 p1 p2 p3 p4 p5 fs fz; obtain ⟨q0, q1, q2, q3, q4, q5⟩ := cb_cells s1; have fs := s1.frozen; obtain ⟨p0, p1, p2, p3, p4, p5⟩ := cb_cells z1; have fz := z1.frozen; dsimp only [Cb.zero] at p0 p1 p2 p3 p4 p5; (try dsimp only at q0 q1 q2 q3 q4 q5); have lz2 := z1.lt; have S2 : Hid (Sits w2 w.heap.size (cbCells r) 24) := s1; have Z2 : Hid (Sits w2 (w.heap.size + 1) (cbCells Cb.zero) 24) := z1; have c2 := Below.trans (c1) (b2.mono (Below.size (c1))); clear s1 z1 b2))
    obtain ⟨W3, hW3⟩ : ∃ x, w2.setCell ⟨w.heap.size, 1, none⟩ (.int .i64 m) = x := ⟨_, rfl⟩
    have s1 : Sits W3 w.heap.size (cbCells (Cb.mk r.wn m r.kk r.st r.th r.bg)) 24 := by rw [← hW3]; exact (cb_s1 S2.out m)
    have z1 : Sits W3 (w.heap.size + 1) (cbCells Cb.zero) 24 := by rw [← hW3]; exact Sits.other (Z2.out) (by omega) _
    have c3 : Below w.heap.size w W3 := by rw [← hW3]; exact Below.setCell (c2) (Nat.le_refl _) _
    rw [hW3]
    clear hW3 q0 q1 q2 q3 q4 q5 p0 p1 p2 p3 p4 p5 fs fz
    obtain ⟨q0, q1, q2, q3, q4, q5⟩ := cb_cells s1
    have fs := s1.frozen
    obtain ⟨p0, p1, p2, p3, p4, p5⟩ := cb_cells z1
    have fz := z1.frozen
    dsimp only [Cb.zero] at p0 p1 p2 p3 p4 p5
    (try dsimp only at q0 q1 q2 q3 q4 q5)
    have lz3 := z1.lt
    have S3 : Hid (Sits W3 w.heap.size (cbCells (Cb.mk r.wn m r.kk r.st r.th r.bg)) 24) := s1
    have Z3 : Hid (Sits W3 (w.heap.size + 1) (cbCells Cb.zero) 24) := z1
    clear s1 z1
    go_upto_region 6 with fail
    obtain ⟨W4, hW4⟩ : ∃ x, W3.setCell ⟨w.heap.size, 0, none⟩ (.int .i64 v) = x := ⟨_, rfl⟩
    have s1 : Sits W4 w.heap.size (cbCells (Cb.mk v m r.kk r.st r.th r.bg)) 24 := by rw [← hW4]; exact (cb_s0 S3.out v)
    have z1 : Sits W4 (w.heap.size + 1) (cbCells Cb.zero) 24 := by rw [← hW4]; exact Sits.other (Z3.out) (by omega) _
    have c4 : Below w.heap.size w W4 := by rw [← hW4]; exact Below.setCell (c3) (Nat.le_refl _) _
    rw [hW4]
    clear hW4 q0 q1 q2 q3 q4 q5 p0 p1 p2 p3 p4 p5 fs fz
    obtain ⟨q0, q1, q2, q3, q4, q5⟩ := cb_cells s1
    have fs := s1.frozen
    obtain ⟨p0, p1, p2, p3, p4, p5⟩ := cb_cells z1
    have fz := z1.frozen
    dsimp only [Cb.zero] at p0 p1 p2 p3 p4 p5
    (try dsimp only at q0 q1 q2 q3 q4 q5)
    have lz4 := z1.lt
    have S4 : Hid (Sits W4 w.heap.size (cbCells (Cb.mk v m r.kk r.st r.th r.bg)) 24) := s1
    have Z4 : Hid (Sits W4 (w.heap.size + 1) (cbCells Cb.zero) 24) := z1
    clear s1 z1
    go_upto_region 7 with fail
    obtain ⟨W5, hW5⟩ : ∃ x, W4.setCell ⟨w.heap.size, 4, none⟩ (.int .i64 t) = x := ⟨_, rfl⟩
    have s1 : Sits W5 w.heap.size (cbCells (Cb.mk v m r.kk r.st t r.bg)) 24 := by rw [← hW5]; exact (cb_s4 S4.out t)
    have z1 : Sits W5 (w.heap.size + 1) (cbCells Cb.zero) 24 := by rw [← hW5]; exact Sits.other (Z4.out) (by omega) _
    have c5 : Below w.heap.size w W5 := by rw [← hW5]; exact Below.setCell (c4) (Nat.le_refl _) _
    rw [hW5]
    clear hW5 q0 q1 q2 q3 q4 q5 p0 p1 p2 p3 p4 p5 fs fz
    obtain ⟨q0, q1, q2, q3, q4, q5⟩ := cb_cells s1
    have fs := s1.frozen
    obtain ⟨p0, p1, p2, p3, p4, p5⟩ := cb_cells z1
    have fz := z1.frozen
    dsimp only [Cb.zero] at p0 p1 p2 p3 p4 p5
    (try dsimp only at q0 q1 q2 q3 q4 q5)
    have lz5 := z1.lt
    have S5 : Hid (Sits W5 w.heap.size (cbCells (Cb.mk v m r.kk r.st t r.bg)) 24) := s1
    have Z5 : Hid (Sits W5 (w.heap.size + 1) (cbCells Cb.zero) 24) := z1
    clear s1 z1
    go_wp2_with (first | (go_at_call 14; refine (curveBegun_any (Cb.mk v m r.kk r.st t r.bg) now _).mono ?_; rintro e w6 ⟨rfl, b6⟩; rw [HBG.out]; have s1 := Sits.below (S5.out) b6 (Sits.lt (S5.out)); have z1 := Sits.below (Z5.out) b6 (Sits.lt (Z5.out)); clear q0 q1 q2 q3 q4 q5 p0 p1 p2 p3 p4 p5 fs fz; obtain ⟨q0, q1, q2, q3, q4, q5⟩ := cb_cells s1; have fs := s1.frozen; obtain ⟨p0, p1, p2, p3, p4, p5⟩ := cb_cells z1; have fz := z1.frozen; dsimp only [Cb.zero] at p0 p1 p2 p3 p4 p5; (try dsimp only at q0 q1 q2 q3 q4 q5); have lz6 := z1.lt; have S6 : Hid (Sits w6 w.heap.size (cbCells (Cb.mk v m r.kk r.st t r.bg)) 24) := s1; have Z6 : Hid (Sits w6 (w.heap.size + 1) (cbCells Cb.zero) 24) := z1; have c6 := Below.trans (c5) (b6.mono (Below.size (c5))); clear s1 z1 b6))
    refine bodyPost_ret (ret_cbb (q := (Cb.mk v m K now t true)) (b := true) (t := 24) (B := w.heap.size + 1) Tryd.results6 rfl rfl ?_) rfl ⟨rfl, ?_⟩
    · exact putCb_sits (Z6.out) (Cb.mk v m K now t true)
    · exact putCb_below (c6) (by omega) (Cb.mk v m K now t true)
  · have HW : Hid (r.wn < 1048576) := by show r.wn < 1048576; omega
    clear hw
    go_enter Tryd.func6, Tryd.ntmps6
    go_upto_region 1 with fail
    try rw [hW]
    clear hW
    obtain ⟨q0, q1, q2, q3, q4, q5⟩ := cb_cells S0.out
    have fs := Sits.frozen S0.out
    obtain ⟨p0, p1, p2, p3, p4, p5⟩ := cb_cells Z0.out
    have fz := Sits.frozen Z0.out
    dsimp only [Cb.zero] at p0 p1 p2 p3 p4 p5
    (try dsimp only at q0 q1 q2 q3 q4 q5)
    go_upto_region 4 with (first | (go_at_call 13; refine (hindrance_nil a b r now HL.out HW.out _ (ErrAt.below HE.out c0 (Nat.le_refl _))).mono ?_; rintro e w1 ⟨rfl, b1⟩; have s1 := Sits.below (S0.out) b1 (Sits.lt (S0.out)); have z1 := Sits.below (Z0.out) b1 (Sits.lt (Z0.out)); clear q0 q1 q2 q3 q4 q5 p0 p1 p2 p3 p4 p5 fs fz; obtain ⟨q0, q1, q2, q3, q4, q5⟩ := cb_cells s1; have fs := s1.frozen; obtain ⟨p0, p1, p2, p3, p4, p5⟩ := cb_cells z1; have fz := z1.frozen; dsimp only [Cb.zero] at p0 p1 p2 p3 p4 p5; (try dsimp only at q0 q1 q2 q3 q4 q5); have lz1 := z1.lt; have S1 : Hid (Sits w1 w.heap.size (cbCells r) 24) := s1; have Z1 : Hid (Sits w1 (w.heap.size + 1) (cbCells Cb.zero) 24) := z1; have c1 := Below.trans (c0) (b1.mono (Below.size (c0))); obtain ⟨e0, e1, hne, hba, hbb⟩ := ErrAt.below HE.out c1 (Nat.le_refl _); clear s1 z1 b1))
    go_upto_region 5 with (first | (go_at_call 18; refine (heightAtLoss_any r HG.out _).mono ?_; rintro e w2 ⟨rfl, b2⟩; rw [hm]; have s1 := Sits.below (S1.out) b2 (Sits.lt (S1.out)); have z1 := Sits.below (Z1.out) b2 (Sits.lt (Z1.out)); clear q0 q1 q2 q3 q4 q5 p0 p1 p2 p3 p4 p5 fs fz; obtain ⟨q0, q1, q2, q3, q4, q5⟩ := cb_cells s1; have fs := s1.frozen; obtain ⟨p0, p1, p2, p3, p4, p5⟩ := cb_cells z1; have fz := z1.frozen; dsimp only [Cb.zero] at p0 p1 p2 p3 p4 p5; (try dsimp only at q0 q1 q2 q3 q4 q5); have lz2 := z1.lt; have S2 : Hid (Sits w2 w.heap.size (cbCells r) 24) := s1; have Z2 : Hid (Sits w2 (w.heap.size + 1) (cbCells Cb.zero) 24) := z1; have c2 := Below.trans (c1) (b2.mono (Below.size (c1))); clear s1 z1 b2))
    obtain ⟨W3, hW3⟩ : ∃ x, w2.setCell ⟨w.heap.size, 1, none⟩ (.int .i64 m) = x := ⟨_, rfl⟩
    have s1 : Sits W3 w.heap.size (cbCells (Cb.mk r.wn m r.kk r.st r.th r.bg)) 24 := by rw [← hW3]; exact (cb_s1 S2.out m)
    have z1 : Sits W3 (w.heap.size + 1) (cbCells Cb.zero) 24 := by rw [← hW3]; exact Sits.other (Z2.out) (by omega) _
    have c3 : Below w.heap.size w W3 := by rw [← hW3]; exact Below.setCell (c2) (Nat.le_refl _) _
    rw [hW3]
    clear hW3 q0 q1 q2 q3 q4 q5 p0 p1 p2 p3 p4 p5 fs fz
    obtain ⟨q0, q1, q2, q3, q4, q5⟩ := cb_cells s1
    have fs := s1.frozen
    obtain ⟨p0, p1, p2, p3, p4, p5⟩ := cb_cells z1
    have fz := z1.frozen
    dsimp only [Cb.zero] at p0 p1 p2 p3 p4 p5
    (try dsimp only at q0 q1 q2 q3 q4 q5)
    have lz3 := z1.lt
    have S3 : Hid (Sits W3 w.heap.size (cbCells (Cb.mk r.wn m r.kk r.st r.th r.bg)) 24) := s1
    have Z3 : Hid (Sits W3 (w.heap.size + 1) (cbCells Cb.zero) 24) := z1
    clear s1 z1
    go_upto_region 6 with fail
    obtain ⟨W4, hW4⟩ : ∃ x, W3.setCell ⟨w.heap.size, 0, none⟩ (.int .i64 v) = x := ⟨_, rfl⟩
    have s1 : Sits W4 w.heap.size (cbCells (Cb.mk v m r.kk r.st r.th r.bg)) 24 := by rw [← hW4]; exact (cb_s0 S3.out v)
    have z1 : Sits W4 (w.heap.size + 1) (cbCells Cb.zero) 24 := by rw [← hW4]; exact Sits.other (Z3.out) (by omega) _
    have c4 : Below w.heap.size w W4 := by rw [← hW4]; exact Below.setCell (c3) (Nat.le_refl _) _
    rw [hW4]
    clear hW4 q0 q1 q2 q3 q4 q5 p0 p1 p2 p3 p4 p5 fs fz
    obtain ⟨q0, q1, q2, q3, q4, q5⟩ := cb_cells s1
    have fs := s1.frozen
    obtain ⟨p0, p1, p2, p3, p4, p5⟩ := cb_cells z1
    have fz := z1.frozen
    dsimp only [Cb.zero] at p0 p1 p2 p3 p4 p5
    (try dsimp only at q0 q1 q2 q3 q4 q5)
    have lz4 := z1.lt
    have S4 : Hid (Sits W4 w.heap.size (cbCells (Cb.mk v m r.kk r.st r.th r.bg)) 24) := s1
    have Z4 : Hid (Sits W4 (w.heap.size + 1) (cbCells Cb.zero) 24) := z1
    clear s1 z1
    go_upto_region 7 with fail
    obtain ⟨W5, hW5⟩ : ∃ x, W4.setCell ⟨w.heap.size, 4, none⟩ (.int .i64 t) = x := ⟨_, rfl⟩
    have s1 : Sits W5 w.heap.size (cbCells (Cb.mk v m r.kk r.st t r.bg)) 24 := by rw [← hW5]; exact (cb_s4 S4.out t)
    have z1 : Sits W5 (w.heap.size + 1) (cbCells Cb.zero) 24 := by rw [← hW5]; exact Sits.other (Z4.out) (by omega) _
    have c5 : Below w.heap.size w W5 := by rw [← hW5]; exact Below.setCell (c4) (Nat.le_refl _) _
    rw [hW5]
    clear hW5 q0 q1 q2 q3 q4 q5 p0 p1 p2 p3 p4 p5 fs fz
    obtain ⟨q0, q1, q2, q3, q4, q5⟩ := cb_cells s1
    have fs := s1.frozen
    obtain ⟨p0, p1, p2, p3, p4, p5⟩ := cb_cells z1
    have fz := z1.frozen
    dsimp only [Cb.zero] at p0 p1 p2 p3 p4 p5
    (try dsimp only at q0 q1 q2 q3 q4 q5)
    have lz5 := z1.lt
    have S5 : Hid (Sits W5 w.heap.size (cbCells (Cb.mk v m r.kk r.st t r.bg)) 24) := s1
    have Z5 : Hid (Sits W5 (w.heap.size + 1) (cbCells Cb.zero) 24) := z1
    clear s1 z1
    go_wp2_with (first | (go_at_call 14; refine (curveBegun_any (Cb.mk v m r.kk r.st t r.bg) now _).mono ?_; rintro e w6 ⟨rfl, b6⟩; rw [HBG.out]; have s1 := Sits.below (S5.out) b6 (Sits.lt (S5.out)); have z1 := Sits.below (Z5.out) b6 (Sits.lt (Z5.out)); clear q0 q1 q2 q3 q4 q5 p0 p1 p2 p3 p4 p5 fs fz; obtain ⟨q0, q1, q2, q3, q4, q5⟩ := cb_cells s1; have fs := s1.frozen; obtain ⟨p0, p1, p2, p3, p4, p5⟩ := cb_cells z1; have fz := z1.frozen; dsimp only [Cb.zero] at p0 p1 p2 p3 p4 p5; (try dsimp only at q0 q1 q2 q3 q4 q5); have lz6 := z1.lt; have S6 : Hid (Sits w6 w.heap.size (cbCells (Cb.mk v m r.kk r.st t r.bg)) 24) := s1; have Z6 : Hid (Sits w6 (w.heap.size + 1) (cbCells Cb.zero) 24) := z1; have c6 := Below.trans (c5) (b6.mono (Below.size (c5))); clear s1 z1 b6))
    refine bodyPost_ret (ret_cbb (q := (Cb.mk v m K now t true)) (b := true) (t := 24) (B := w.heap.size + 1) Tryd.results6 rfl rfl ?_) rfl ⟨rfl, ?_⟩
    · exact putCb_sits (Z6.out) (Cb.mk v m K now t true)
    · exact putCb_below (c6) (by omega) (Cb.mk v m K now t true)

end Go.Proofs.YtfflheebjbdnoafDoor
