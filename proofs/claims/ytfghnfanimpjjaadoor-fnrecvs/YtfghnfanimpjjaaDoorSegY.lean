/-
  RecvSeg OF THE PROGRAM.
-/
import Derived.Test.YtfghnfanimpjjaaDoorSegX
import Derived.Test.YtfghnfanimpjjaaDoorSegV
namespace Go.Proofs.YtfghnfanimpjjaaDoor
open Go.RowKit
set_option linter.unusedVariables false
attribute [local go_sem ↓] field_list

theorem segA_head {nx fr to : Int} {f : Nat → Sp} {n : Nat} (h : segP nx f n fr to) : 0 ≤ ((segA nx f n fr to).headD default).to ∧ ((segA nx f n fr to).headD default).to ≤ 1000000000000 := by
  rcases seg_ways h with ⟨_, e⟩ | ⟨_, q, r, N, L, _, e, _, h0, h1⟩
  · rw [e]; exact ⟨h.1.1, h.1.2.1⟩
  · rw [e]; exact ⟨h0, h1⟩

set_option maxRecDepth 100000 in
set_option maxHeartbeats 8000000 in
theorem irecvSeg_any (nx : Int) (a : Option Addr) (n c : Nat) (f : Nat → Sp) (fr to : Int) (er : Addr) (w : World) (hP : SR w.heap.size w a n f) (hn : n ≤ 1048576) (he : ErrSp er w) :
    Calls Tryd.prog 5 #[rcVal nx a n c, .int .i64 fr, .int .i64 to] w fun e w' => ∃ (x : Option Addr) (cap : Nat), e = .returned (.tuple #[rcVal (outN nx f n fr to) x (outL nx f n fr to).length cap, .int .i64 (outM nx f n fr to), .bool (segK nx f n fr to)]) ∧ OS w.heap.size w' x cap (outL nx f n fr to) ∧ Below w.heap.size w w' := by
  have HP : Hid (∀ V, Below w.heap.size w V → SR V.heap.size V a n f) := fun V h => SR.mono (SR.below hP h) h.size
  have HE : Hid (∀ V, Below w.heap.size w V → ErrSp er V) := fun V h => ErrSp.below he h he.lt
  clear hP he
  obtain ⟨W0, hW0⟩ : ∃ W, (w.alloc (.cells (rcCells nx a n c) 25)).alloc (.cells #[.int .i64 0, .slice none 0 0] 25) = W := ⟨_, rfl⟩
  have b0 : Below w.heap.size w W0 := by rw [← hW0]; exact ((Below.refl _ w).alloc (Nat.le_refl _) _).alloc (by simp) _
  have HS0 : Hid (Sits W0 w.heap.size (rcCells nx a n c) 25) := by rw [← hW0]; exact (Sits.new _ _ _).alloc _
  have HZ0 : Hid (Sits W0 (w.heap.size + 1) (rcCells 0 none 0 0) 25) := by rw [← hW0]; exact Sits.new' (by simp)
  obtain ⟨q0, q1⟩ := rc_cells HS0.out
  obtain ⟨p0, p1⟩ := rc_cells HZ0.out
  have fz := Sits.frozen HZ0.out
  by_cases hv : segP nx f n fr to
  case neg =>
    have e1 : outN nx f n fr to = 0 := if_neg hv
    have e2 : outL nx f n fr to = [] := if_neg hv
    have e4 : segK nx f n fr to = false := by unfold segK; rw [decide_eq_false hv]; rfl
    have e3 : outM nx f n fr to = 0 := by unfold outM; rw [e4]; rfl
    rw [e1, e2, e3, e4]
    clear e1 e2 e3 e4
    cases hb : recvB nx f n
    case false =>
      have HBB : Hid (recvB nx f n = false) := hb
      clear hb hv
      go_enter Tryd.func5, Tryd.ntmps5
      go_upto_region 1 with fail
      (try rw [hW0])
      clear hW0
      go_wp2_with (go_at_call 7; refine (irecvOk_any nx a n c f er _ (by omega) (HP.out _ b0) (HE.out _ b0)).mono ?_; rintro e w1 ⟨rfl, b1⟩; rw [HBB.out]; have B1 := b0.trans (b1.mono b0.size); have s1 := Sits.below HS0.out b1 (Sits.lt HS0.out); have z1 := Sits.below HZ0.out b1 (Sits.lt HZ0.out); clear q0 q1 p0 p1 fz; obtain ⟨q0, q1⟩ := rc_cells s1; obtain ⟨p0, p1⟩ := rc_cells z1; have fz := Sits.frozen z1; have lz := Sits.lt z1; have HS1 : Hid (Sits w1 w.heap.size (rcCells nx a n c) 25) := s1; have HZ1 : Hid (Sits w1 (w.heap.size + 1) (rcCells 0 none 0 0) 25) := z1; clear s1 z1)
      refine bodyPost_ret (ret_rc3 (nx := 0) (x := none) (n := 0) (c := 0) (m := 0) (b := false) (t := 25) (B := w.heap.size + 1) Tryd.results5 rfl rfl rfl (Sits.set (Sits.set HZ1.out 0 (.int .i64 0)) 1 (.slice none 0 0))) rfl ⟨none, 0, rfl, World.ownsRow_nil _ _ _ _, ?_⟩
      exact (B1.setCell (by show w.heap.size ≤ w.heap.size + 1; omega) _).setCell (by show w.heap.size ≤ w.heap.size + 1; omega) _
    case true =>
      have HBB : Hid (recvB nx f n = true) := hb
      have hrp := recvB_eq.1 hb
      by_cases k0 : fr < 0
      · clear hb hv hrp
        go_enter Tryd.func5, Tryd.ntmps5
        go_upto_region 1 with fail
        (try rw [hW0])
        clear hW0
        go_wp2_with (go_at_call 7; refine (irecvOk_any nx a n c f er _ (by omega) (HP.out _ b0) (HE.out _ b0)).mono ?_; rintro e w1 ⟨rfl, b1⟩; rw [HBB.out]; have B1 := b0.trans (b1.mono b0.size); have s1 := Sits.below HS0.out b1 (Sits.lt HS0.out); have z1 := Sits.below HZ0.out b1 (Sits.lt HZ0.out); clear q0 q1 p0 p1 fz; obtain ⟨q0, q1⟩ := rc_cells s1; obtain ⟨p0, p1⟩ := rc_cells z1; have fz := Sits.frozen z1; have lz := Sits.lt z1; have HS1 : Hid (Sits w1 w.heap.size (rcCells nx a n c) 25) := s1; have HZ1 : Hid (Sits w1 (w.heap.size + 1) (rcCells 0 none 0 0) 25) := z1; clear s1 z1)
        refine bodyPost_ret (ret_rc3 (nx := 0) (x := none) (n := 0) (c := 0) (m := 0) (b := false) (t := 25) (B := w.heap.size + 1) Tryd.results5 rfl rfl rfl (Sits.set (Sits.set HZ1.out 0 (.int .i64 0)) 1 (.slice none 0 0))) rfl ⟨none, 0, rfl, World.ownsRow_nil _ _ _ _, ?_⟩
        exact (B1.setCell (by show w.heap.size ≤ w.heap.size + 1; omega) _).setCell (by show w.heap.size ≤ w.heap.size + 1; omega) _
      have d0 : decide (fr < 0) = false := by simp; omega
      by_cases k1 : to ≤ fr
      · clear hb hv hrp
        go_enter Tryd.func5, Tryd.ntmps5
        go_upto_region 1 with fail
        (try rw [hW0])
        clear hW0
        go_wp2_with (go_at_call 7; refine (irecvOk_any nx a n c f er _ (by omega) (HP.out _ b0) (HE.out _ b0)).mono ?_; rintro e w1 ⟨rfl, b1⟩; rw [HBB.out]; have B1 := b0.trans (b1.mono b0.size); have s1 := Sits.below HS0.out b1 (Sits.lt HS0.out); have z1 := Sits.below HZ0.out b1 (Sits.lt HZ0.out); clear q0 q1 p0 p1 fz; obtain ⟨q0, q1⟩ := rc_cells s1; obtain ⟨p0, p1⟩ := rc_cells z1; have fz := Sits.frozen z1; have lz := Sits.lt z1; have HS1 : Hid (Sits w1 w.heap.size (rcCells nx a n c) 25) := s1; have HZ1 : Hid (Sits w1 (w.heap.size + 1) (rcCells 0 none 0 0) 25) := z1; clear s1 z1)
        refine bodyPost_ret (ret_rc3 (nx := 0) (x := none) (n := 0) (c := 0) (m := 0) (b := false) (t := 25) (B := w.heap.size + 1) Tryd.results5 rfl rfl rfl (Sits.set (Sits.set HZ1.out 0 (.int .i64 0)) 1 (.slice none 0 0))) rfl ⟨none, 0, rfl, World.ownsRow_nil _ _ _ _, ?_⟩
        exact (B1.setCell (by show w.heap.size ≤ w.heap.size + 1; omega) _).setCell (by show w.heap.size ≤ w.heap.size + 1; omega) _
      have d1 : decide (to ≤ fr) = false := by simp; omega
      have k2 : 1000000000000 < to := by
        by_cases k2 : 1000000000000 < to
        · exact k2
        · exact absurd ⟨hrp, by omega, by omega, by omega⟩ hv
      clear hb hv hrp
      go_enter Tryd.func5, Tryd.ntmps5
      go_upto_region 1 with fail
      (try rw [hW0])
      clear hW0
      go_wp2_with (go_at_call 7; refine (irecvOk_any nx a n c f er _ (by omega) (HP.out _ b0) (HE.out _ b0)).mono ?_; rintro e w1 ⟨rfl, b1⟩; rw [HBB.out]; have B1 := b0.trans (b1.mono b0.size); have s1 := Sits.below HS0.out b1 (Sits.lt HS0.out); have z1 := Sits.below HZ0.out b1 (Sits.lt HZ0.out); clear q0 q1 p0 p1 fz; obtain ⟨q0, q1⟩ := rc_cells s1; obtain ⟨p0, p1⟩ := rc_cells z1; have fz := Sits.frozen z1; have lz := Sits.lt z1; have HS1 : Hid (Sits w1 w.heap.size (rcCells nx a n c) 25) := s1; have HZ1 : Hid (Sits w1 (w.heap.size + 1) (rcCells 0 none 0 0) 25) := z1; clear s1 z1)
      refine bodyPost_ret (ret_rc3 (nx := 0) (x := none) (n := 0) (c := 0) (m := 0) (b := false) (t := 25) (B := w.heap.size + 1) Tryd.results5 rfl rfl rfl (Sits.set (Sits.set HZ1.out 0 (.int .i64 0)) 1 (.slice none 0 0))) rfl ⟨none, 0, rfl, World.ownsRow_nil _ _ _ _, ?_⟩
      exact (B1.setCell (by show w.heap.size ≤ w.heap.size + 1; omega) _).setCell (by show w.heap.size ≤ w.heap.size + 1; omega) _
  case pos =>
    have hb : recvB nx f n = true := recvB_eq.2 hv.1
    have HBB : Hid (recvB nx f n = true) := hb
    have d0 : decide (fr < 0) = false := by have := hv.2.1; simp; omega
    have d1 : decide (to ≤ fr) = false := by have := hv.2.2.1; simp; omega
    have d2 : decide (1000000000000 < to) = false := by have := hv.2.2.2; simp; omega
    have x0 : 0 ≤ nx := hv.1.1
    have x1 : nx ≤ 1000000000000 := hv.1.2.1
    obtain ⟨N, hN⟩ : ∃ N, ((segA nx f n fr to).headD default).to = N := ⟨_, rfl⟩
    obtain ⟨L, hL⟩ : ∃ L, (segA nx f n fr to).tail = L := ⟨_, rfl⟩
    obtain ⟨hN0, hN1⟩ := segA_head hv
    rw [hN] at hN0 hN1
    have HVV : Hid (segP nx f n fr to) := hv
    have HNN : Hid (((segA nx f n fr to).headD default).to = N) := hN
    have HLL : Hid ((segA nx f n fr to).tail = L) := hL
    have HPUT : Hid (∀ V, Below w.heap.size w V → Calls Tryd.prog 14 #[rcVal nx a n c, (⟨fr, to⟩ : Sp).val] V fun e w' => ∃ (x : Option Addr) (cap : Nat), e = .returned (rcVal N x L.length cap) ∧ OS V.heap.size w' x cap L ∧ Below V.heap.size V w') := fun V hV => by
      have := iput_any nx a n c f fr to V (HP.out V hV) HVV.out
      rw [HNN.out, HLL.out] at this
      exact this
    clear hb hv hN hL
    go_enter Tryd.func5, Tryd.ntmps5
    go_upto_region 1 with fail
    (try rw [hW0])
    clear hW0
    go_upto_region 3 with (go_at_call 7; refine (irecvOk_any nx a n c f er _ (by omega) (HP.out _ b0) (HE.out _ b0)).mono ?_; rintro e w1 ⟨rfl, b1⟩; rw [HBB.out]; have B1 := b0.trans (b1.mono b0.size); have s1 := Sits.below HS0.out b1 (Sits.lt HS0.out); have z1 := Sits.below HZ0.out b1 (Sits.lt HZ0.out); clear q0 q1 p0 p1 fz; obtain ⟨q0, q1⟩ := rc_cells s1; obtain ⟨p0, p1⟩ := rc_cells z1; have fz := Sits.frozen z1; have lz := Sits.lt z1; have HS1 : Hid (Sits w1 w.heap.size (rcCells nx a n c) 25) := s1; have HZ1 : Hid (Sits w1 (w.heap.size + 1) (rcCells 0 none 0 0) 25) := z1; clear s1 z1)
    go_upto_region 4 with (go_at_call 14; refine ((HPUT.out) _ B1).mono ?_; rintro e w2 ⟨x, cap, rfl, ho, b2⟩)
    obtain ⟨V, hV⟩ : ∃ V, w2.heap.size = V := ⟨_, rfl⟩
    obtain ⟨W3, hW3⟩ : ∃ W, w2.alloc (.cells (rcCells N x L.length cap) 25) = W := ⟨_, rfl⟩
    have hb2 := b2.size
    have hBs := B1.size
    have B3 : Below w.heap.size w W3 := by rw [← hW3]; exact (B1.trans (b2.mono B1.size)).alloc (by omega) _
    have SV : Sits W3 V (rcCells N x L.length cap) 25 := by rw [← hW3]; exact Sits.new' hV
    have Z3 : Sits W3 (w.heap.size + 1) (rcCells 0 none 0 0) 25 := by rw [← hW3]; exact (Sits.below HZ1.out b2 (Sits.lt HZ1.out)).alloc _
    have S3 : Sits W3 w.heap.size (rcCells nx a n c) 25 := by rw [← hW3]; exact (Sits.below HS1.out b2 (Sits.lt HS1.out)).alloc _
    have ho3 : OS w1.heap.size W3 x cap L := by rw [← hW3]; exact OS.below ho ((Below.refl _ _).alloc (Nat.le_refl _) _)
    have lV : w1.heap.size ≤ V := by omega
    have lw1 : w.heap.size + 1 < w1.heap.size := lz
    have HSV : Hid (Sits W3 V (rcCells N x L.length cap) 25) := SV
    have HZ3 : Hid (Sits W3 (w.heap.size + 1) (rcCells 0 none 0 0) 25) := Z3
    have HS3 : Hid (Sits W3 w.heap.size (rcCells nx a n c) 25) := S3
    have HO3 : Hid (OS w1.heap.size W3 x cap L) := ho3
    rw [hW3, hV]
    clear hW3 hV b2 ho ho3 HS1 HZ1 q0 q1 p0 p1 fz lz hb2
    obtain ⟨q0, q1⟩ := rc_cells S3
    obtain ⟨p0, p1⟩ := rc_cells Z3
    obtain ⟨v0, v1⟩ := rc_cells SV
    have fz := Sits.frozen Z3
    clear S3 Z3 SV
    by_cases hk8 : L.length ≤ 8
    · have hk8' : (segA nx f n fr to).tail.length ≤ 8 := by rw [HLL.out]; exact hk8
      have HN : Hid (outN nx f n fr to = N) := by show _ = _; unfold outN; rw [if_pos HVV.out, if_pos hk8', HNN.out]
      have HL : Hid (outL nx f n fr to = L) := by show _ = _; unfold outL; rw [if_pos HVV.out, if_pos hk8', HLL.out]
      have HK : Hid (segK nx f n fr to = true) := by show _ = _; unfold segK; rw [decide_eq_true HVV.out, decide_eq_true hk8']; rfl
      have HM : Hid (outM nx f n fr to = N - nx) := by show _ = _; unfold outM; rw [HK.out, if_pos rfl, HNN.out]
      have hd : ¬ (8 : Int) < (L.length : Int) := by omega
      have hwr : IntKind.i64.wrap (N - nx) = N - nx := by rw [IntKind.wrap_i64]; omega
      have nv1 : ¬ V = w.heap.size + 1 := by omega
      have nv2 : ¬ w.heap.size + 1 = V := by omega
      clear hk8'
      go_upto_region 6 with fail
      go_region_held3 (fun w' => w'.cell? ⟨V, 0, none⟩ = some (.int .i64 N) ∧ w'.cell? ⟨V, 1, none⟩ = some (.slice x L.length cap) ∧ w'.cell? ⟨w.heap.size, 0, none⟩ = some (.int .i64 nx)) (first | exact ⟨v0, v1, q0⟩ | exact ⟨((Sits.other (Sits.other HSV.out nv1 _) nv1 _).cell 0), ((Sits.other (Sits.other HSV.out nv1 _) nv1 _).cell 1), ((Sits.other (Sits.other HS3.out (by omega) _) (by omega) _).cell 0)⟩ | go_keep) (fail)
      go_wp2
      refine bodyPost_ret (ret_rc3 (nx := N) (x := x) (n := L.length) (c := cap) (m := N - nx) (b := true) (t := 25) (B := w.heap.size + 1) Tryd.results5 rfl rfl rfl (Sits.set (Sits.set (Sits.drew HZ3.out) 0 (.int .i64 N)) 1 (.slice x L.length cap))) rfl ⟨x, cap, by rw [HN.out, HL.out, HM.out, HK.out], ?_, ?_⟩
      · rw [HL.out]; exact OS.mono (OS.far (OS.far (w := W3.drew) HO3.out (by omega) _ _) (by omega) _ _) (by omega)
      · exact (B3.drew.setCell (by show w.heap.size ≤ w.heap.size + 1; omega) _).setCell (by show w.heap.size ≤ w.heap.size + 1; omega) _
    · have hk8' : ¬ (segA nx f n fr to).tail.length ≤ 8 := by rw [HLL.out]; exact hk8
      have HN : Hid (outN nx f n fr to = nx) := by show _ = _; unfold outN; rw [if_pos HVV.out, if_neg hk8']
      have HL : Hid (outL nx f n fr to = spL f n) := by show _ = _; unfold outL; rw [if_pos HVV.out, if_neg hk8']
      have HK : Hid (segK nx f n fr to = false) := by show _ = _; unfold segK; rw [decide_eq_false hk8']; simp
      have HM : Hid (outM nx f n fr to = 0) := by show _ = _; unfold outM; rw [HK.out]; rfl
      have hd : (8 : Int) < (L.length : Int) := by omega
      have hl3 : w.heap.size + 1 < W3.heap.size := Sits.lt HZ3.out
      clear hk8'
      go_upto_region 5 with fail
      go_region_held3 (fun w' => w'.cell? ⟨w.heap.size, 0, none⟩ = some (.int .i64 nx) ∧ w'.cell? ⟨w.heap.size, 1, none⟩ = some (.slice a n c)) (first | go_keep | exact ⟨q0, q1⟩ | exact ⟨(b3.cell (p := ⟨w.heap.size, 0, none⟩) (by show w.heap.size < W3.heap.size; omega)).trans q0, (b3.cell (p := ⟨w.heap.size, 1, none⟩) (by show w.heap.size < W3.heap.size; omega)).trans q1⟩ | (exact ⟨(World.cell?_of_block (a := ⟨w.heap.size, 0, none⟩) ((heap_set_ne (p := ⟨w.heap.size + 1, 1, none⟩) (by show w.heap.size ≠ w.heap.size + 1; omega) _).trans (heap_set_ne (p := ⟨w.heap.size + 1, 0, none⟩) (by show w.heap.size ≠ w.heap.size + 1; omega) _))).trans ((b3.cell (p := ⟨w.heap.size, 0, none⟩) (by show w.heap.size < W3.heap.size; omega)).trans q0), (World.cell?_of_block (a := ⟨w.heap.size, 1, none⟩) ((heap_set_ne (p := ⟨w.heap.size + 1, 1, none⟩) (by show w.heap.size ≠ w.heap.size + 1; omega) _).trans (heap_set_ne (p := ⟨w.heap.size + 1, 0, none⟩) (by show w.heap.size ≠ w.heap.size + 1; omega) _))).trans ((b3.cell (p := ⟨w.heap.size, 1, none⟩) (by show w.heap.size < W3.heap.size; omega)).trans q1)⟩))
        (first | (go_at_call 15; refine (listOfS_any a n c f _ (HP.out _ (Below.drew B3)) (by omega)).mono ?_; rintro e w5 ⟨x5, cap5, rfl, ho5, b3⟩; have z5 := Sits.below (Sits.drew HZ3.out) b3 (Sits.lt HZ3.out); clear p0 p1 fz; obtain ⟨p0, p1⟩ := rc_cells z5; have fz := Sits.frozen z5))
      go_wp2
      refine bodyPost_ret (ret_rc3 (nx := nx) (x := x5) (n := n) (c := cap5) (m := 0) (b := false) (t := 25) (B := w.heap.size + 1) Tryd.results5 rfl rfl rfl (Sits.set (Sits.set z5 0 (.int .i64 nx)) 1 (.slice x5 n cap5))) rfl ⟨x5, cap5, by rw [HN.out, HL.out, HM.out, HK.out, spL_len], ?_, ?_⟩
      · rw [HL.out]; exact OS.mono (OS.far (OS.far ho5 (by show w.heap.size + 1 < W3.heap.size; omega) _ _) (by show w.heap.size + 1 < W3.heap.size; omega) _ _) (by show w.heap.size ≤ W3.heap.size; omega)
      · exact (((Below.drew B3).trans (b3.mono (by show w.heap.size ≤ W3.heap.size; omega))).setCell (by show w.heap.size ≤ w.heap.size + 1; omega) _).setCell (by show w.heap.size ≤ w.heap.size + 1; omega) _

end Go.Proofs.YtfghnfanimpjjaaDoor
