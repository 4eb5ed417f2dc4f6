/-
  THE PROGRAM's cubicTimeOk, heightAtLoss, towards, curveBegun.
-/
import Derived.Test.YtfflheebjbdnoafDoorCubicD
import Derived.Test.YtfflheebjbdnoafDoorDrawR0
import Derived.Deep.RegionWith
import Derived.Deep.Cut
namespace Go.Proofs.YtfflheebjbdnoafDoor
open Go.RowKit
set_option linter.unusedVariables false

theorem run_cmin3 (P : Program) (w : World) (ts : Array TypeId) (t : TypeId) (x y z : Int) : (Builtin.min_ ts t #[.int .i64 x, .int .i64 y, .int .i64 z]).run P w = .ok (.int .i64 (cmin (cmin x y) z)) w := by
  unfold cmin
  simp [Builtin.min_, Builtin.min2]
attribute [local go_sem] run_cmin3
theorem wrapc {x : Int} (h0 : -9223372036854775808 ≤ x) (h1 : x ≤ 9223372036854775807) : IntKind.i64.wrap x = x := by rw [IntKind.wrap_i64]; omega

theorem cboxes (w : World) (r : Cb) : Sits ((w.alloc (.cells (cbCells r) 24)).alloc (.cells #[.int .i64 0, .int .i64 0, .int .i64 0, .int .i64 0, .int .i64 0, .bool false] 24)) w.heap.size (cbCells r) 24 ∧ Sits ((w.alloc (.cells (cbCells r) 24)).alloc (.cells #[.int .i64 0, .int .i64 0, .int .i64 0, .int .i64 0, .int .i64 0, .bool false] 24)) (w.heap.size + 1) (cbCells Cb.zero) 24 ∧ Below w.heap.size w ((w.alloc (.cells (cbCells r) 24)).alloc (.cells #[.int .i64 0, .int .i64 0, .int .i64 0, .int .i64 0, .int .i64 0, .bool false] 24)) :=
  ⟨Sits.alloc (Sits.new _ _ _) _, Sits.new' (W := w.alloc (.cells (cbCells r) 24)) (by simp), ((Below.refl _ _).alloc (Nat.le_refl _) _).alloc (by simp) _⟩

set_option maxRecDepth 20000 in
set_option maxHeartbeats 1000000 in
theorem cubicTimeOk_any (r : Cb) (now : Int) (hg : r.good = true) (w : World) :
    Calls Tryd.prog 23 #[r.val, .int .i64 now] w fun e w' => e = .returned (.bool (r.timeB now)) ∧ Below w.heap.size w w' := by
  obtain ⟨g1, g2, g3, g4, g5, g6, g7, g8, g9, g10⟩ := r.good_iff.1 hg
  have hv : r.timeB now = (inB now 0 1048576000 && (!r.bg || inB now r.st (r.st + 1048576))) := by
    rw [Bool.eq_iff_iff, Cb.timeB_iff]
    cases h : r.bg <;> simp [inB] <;> omega
  rw [hv]
  clear hv hg
  obtain ⟨wn, mx, kk, st, th, bg⟩ := r
  dsimp only at *
  cases b1 : inB now 0 1048576000 <;> cases bg
  all_goals
    go_enter Tryd.func23, Tryd.ntmps23
    go_wp2_with (go_at_call 19; refine (within_any _ _ _ _).mono ?_; rintro e w' ⟨rfl, rfl⟩)
    go_ret
    exact ⟨ret_bool (by simp), by go_grown⟩

set_option maxRecDepth 20000 in
set_option maxHeartbeats 1000000 in
theorem heightAtLoss_any (r : Cb) (hg : r.good = true) (w : World) :
    Calls Tryd.prog 18 #[r.val] w fun e w' => e = .returned (.int .i64 (heiF r.wn r.mx)) ∧ Below w.heap.size w w' := by
  obtain ⟨g1, g2, g3, g4, g5, g6, g7, g8, g9, g10⟩ := r.good_iff.1 hg
  clear hg
  obtain ⟨wn, mx, kk, st, th, bg⟩ := r
  dsimp only at *
  have e1 : IntKind.i64.wrap ((wn * 17).tdiv 20) = wn * 17 / 20 := by rw [Int.tdiv_eq_ediv_of_nonneg (by omega)]; exact wrapc (by omega) (by omega)
  by_cases k : wn < mx
  · have hv : heiF wn mx = wn * 17 / 20 := if_pos k
    rw [hv]
    clear hv
    go_enter Tryd.func18, Tryd.ntmps18
    go_wp2
    go_ret
    exact ⟨ret_int (by first | rfl | omega), by go_grown⟩
  · have hv : heiF wn mx = wn := if_neg k
    rw [hv]
    clear hv
    go_enter Tryd.func18, Tryd.ntmps18
    go_wp2
    go_ret
    exact ⟨ret_int rfl, by go_grown⟩

set_option maxRecDepth 20000 in
set_option maxHeartbeats 1000000 in
theorem towards_any (v c : Int) (h0 : 1 ≤ v) (h1 : v ≤ 1048576) (w : World) :
    Calls Tryd.prog 15 #[.int .i64 v, .int .i64 c] w fun e w' => e = .returned (.int .i64 (towF v c)) ∧ w' = w := by
  have e1 : IntKind.i64.wrap ((v + 1).tdiv 2) = (v + 1) / 2 := by rw [Int.tdiv_eq_ediv_of_nonneg (by omega)]; exact wrapc (by omega) (by omega)
  have e2 : IntKind.i64.wrap (v + (v + 1) / 2) = v + (v + 1) / 2 := wrapc (by omega) (by omega)
  have hm := run_cmin3 Tryd.prog
  have HV : Hid (towF v c = cmin (cmin (if c < v then v else c) (v + (v + 1) / 2)) 1048576) := rfl
  obtain ⟨X, hX⟩ : ∃ X, towF v c = X := ⟨_, rfl⟩
  rw [hX] at HV ⊢
  clear hX
  go_enter Tryd.func15, Tryd.ntmps15
  go_wp2
  all_goals
    go_ret
    refine ⟨ret_int ?_, rfl⟩
    rw [HV.out]
    split <;> first | rfl | omega

set_option maxRecDepth 20000 in
set_option maxHeartbeats 2000000 in
theorem curveBegun_any (r : Cb) (now : Int) (w : World) :
    Calls Tryd.prog 14 #[r.val, .int .i64 now] w fun e w' => e = .returned (r.beg now).val ∧ Below w.heap.size w w' := by
  obtain ⟨K, hK⟩ : ∃ K, kF r.mx r.wn = K := ⟨_, rfl⟩
  have hv : r.beg now = (Cb.mk r.wn r.mx K now r.th true) := by unfold Cb.beg; rw [hK]
  rw [hv]
  clear hv
  obtain ⟨s0, z0, c0⟩ := cboxes w r
  obtain ⟨W, hW⟩ : ∃ W, (w.alloc (.cells (cbCells r) 24)).alloc (.cells #[.int .i64 0, .int .i64 0, .int .i64 0, .int .i64 0, .int .i64 0, .bool false] 24) = W := ⟨_, rfl⟩
  rw [hW] at s0 z0 c0
  have lz := z0.lt
  have S0 : Hid (Sits W w.heap.size (cbCells r) 24) := s0
  have Z0 : Hid (Sits W (w.heap.size + 1) (cbCells Cb.zero) 24) := z0
  clear s0 z0
  go_enter Tryd.func14, Tryd.ntmps14
  go_upto_region 1 with fail
  try rw [hW]
  clear hW
  obtain ⟨q0, q1, q2, q3, q4, q5⟩ := cb_cells S0.out
  have fs := Sits.frozen S0.out
  obtain ⟨p0, p1, p2, p3, p4, p5⟩ := cb_cells Z0.out
  have fz := Sits.frozen Z0.out
  dsimp only [Cb.zero] at p0 p1 p2 p3 p4 p5
  (try dsimp only at q0 q1 q2 q3 q4 q5)
  go_upto_region 3 with fail
  obtain ⟨W1, hW1⟩ : ∃ x, (W.setCell ⟨w.heap.size, 5, none⟩ (.bool true)).setCell ⟨w.heap.size, 3, none⟩ (.int .i64 now) = x := ⟨_, rfl⟩
  have s1 : Sits W1 w.heap.size (cbCells (Cb.mk r.wn r.mx r.kk now r.th true)) 24 := by rw [← hW1]; exact cb_s3 (cb_s5 S0.out _) _
  have z1 : Sits W1 (w.heap.size + 1) (cbCells Cb.zero) 24 := by rw [← hW1]; exact Sits.other (Sits.other (Z0.out) (by omega) _) (by omega) _
  have c1 : Below w.heap.size w W1 := by rw [← hW1]; exact Below.setCell (Below.setCell (c0) (Nat.le_refl _) _) (Nat.le_refl _) _
  rw [hW1]
  clear hW1 q0 q1 q2 q3 q4 q5 p0 p1 p2 p3 p4 p5 fs fz
  obtain ⟨q0, q1, q2, q3, q4, q5⟩ := cb_cells s1
  have fs := s1.frozen
  obtain ⟨p0, p1, p2, p3, p4, p5⟩ := cb_cells z1
  have fz := z1.frozen
  dsimp only [Cb.zero] at p0 p1 p2 p3 p4 p5
  (try dsimp only at q0 q1 q2 q3 q4 q5)
  have lz1 := z1.lt
  have S1 : Hid (Sits W1 w.heap.size (cbCells (Cb.mk r.wn r.mx r.kk now r.th true)) 24) := s1
  have Z1 : Hid (Sits W1 (w.heap.size + 1) (cbCells Cb.zero) 24) := z1
  clear s1 z1
  go_wp2_with (go_at_call 24; refine (icubicK_any r.mx r.wn _).mono ?_; rintro e w2 ⟨rfl, b2⟩; rw [hK]; replace b2 := b2.1; have s1 := Sits.below (S1.out) b2 (Sits.lt (S1.out)); have z1 := Sits.below (Z1.out) b2 (Sits.lt (Z1.out)); clear q0 q1 q2 q3 q4 q5 p0 p1 p2 p3 p4 p5 fs fz; obtain ⟨q0, q1, q2, q3, q4, q5⟩ := cb_cells s1; have fs := s1.frozen; obtain ⟨p0, p1, p2, p3, p4, p5⟩ := cb_cells z1; have fz := z1.frozen; dsimp only [Cb.zero] at p0 p1 p2 p3 p4 p5; (try dsimp only at q0 q1 q2 q3 q4 q5); have lz2 := z1.lt; have S2 : Hid (Sits w2 w.heap.size (cbCells (Cb.mk r.wn r.mx r.kk now r.th true)) 24) := s1; have Z2 : Hid (Sits w2 (w.heap.size + 1) (cbCells Cb.zero) 24) := z1; have c2 := Below.trans (c1) (b2.mono (Below.size (c1))); clear s1 z1 b2)
  refine bodyPost_ret (ret_cbv (q := (Cb.mk r.wn r.mx K now r.th true)) (t := 24) (B := w.heap.size + 1) Tryd.results14 rfl ?_) rfl ⟨rfl, ?_⟩
  · exact putCb_sits (Sits.other (Z2.out) (by omega) _) (Cb.mk r.wn r.mx K now r.th true)
  · exact putCb_below (Below.setCell (c2) (Nat.le_refl _) _) (by omega) (Cb.mk r.wn r.mx K now r.th true)

end Go.Proofs.YtfflheebjbdnoafDoor
