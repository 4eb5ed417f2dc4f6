/-
  RecvHas OF BOTH SIDES.
-/
import Derived.Test.YtfghnfanimpjjaaDoorRecvH
namespace Go.Proofs.YtfghnfanimpjjaaDoor
open Go.RowKit Go.Shelf
set_option linter.unusedVariables false
attribute [local go_sem] Oper.semAt_some

set_option maxRecDepth 100000 in
set_option maxHeartbeats 4000000 in
theorem irecvHas_any (nx : Int) (a : Option Addr) (n c : Nat) (f : Nat → Sp) (t : Int) (er : Addr) (w : World) (hn : n ≤ 1048576) (hP : SR w.heap.size w a n f) (he : ErrSp er w) :
    Calls Tryd.prog 8 #[rcVal nx a n c, .int .i64 t] w fun e w' => e = .returned (.bool (hasB nx f n t)) ∧ Below w.heap.size w w' := by
  have HP : Hid (∀ V, Below w.heap.size w V → SR V.heap.size V a n f) := fun V h => SR.mono (SR.below hP h) h.size
  have HP2 : Hid (∀ V, Below w.heap.size w V → SR w.heap.size V a n f) := fun V h => SR.below hP h
  have HE : Hid (∀ V, Below w.heap.size w V → ErrSp er V) := fun V h => ErrSp.below he h he.lt
  clear hP he
  obtain ⟨W0, hW0⟩ : ∃ W, ((w.alloc (.cells (rcCells nx a n c) 25)).alloc (.cells #[.int .i64 t] 3)).alloc (.cells #[.bool false] 4) = W := ⟨_, rfl⟩
  have hz0 : W0.heap.size = w.heap.size + 1 + 1 + 1 := by rw [← hW0]; simp
  have b0 : Below w.heap.size w W0 := by rw [← hW0]; exact (((Below.refl _ w).alloc (Nat.le_refl _) _).alloc (by simp) _).alloc (by simp; omega) _
  have s0 : Sits W0 w.heap.size (rcCells nx a n c) 25 := by rw [← hW0]; exact ((Sits.new _ _ _).alloc _).alloc _
  have st : Sits W0 (w.heap.size + 1) #[.int .i64 t] 3 := by rw [← hW0]; exact (Sits.new' (by simp)).alloc _
  have sr : Sits W0 (w.heap.size + 1 + 1) #[.bool false] 4 := by rw [← hW0]; exact Sits.new' (by simp)
  have HS0 : Hid (Sits W0 w.heap.size (rcCells nx a n c) 25) := s0
  have HST : Hid (Sits W0 (w.heap.size + 1) #[.int .i64 t] 3) := st
  have HSR : Hid (Sits W0 (w.heap.size + 1 + 1) #[.bool false] 4) := sr
  have HW0 : Hid (((w.alloc (.cells (rcCells nx a n c) 25)).alloc (.cells #[.int .i64 t] 3)).alloc (.cells #[.bool false] 4) = W0) := hW0
  obtain ⟨q0, q1⟩ := rc_cells s0
  clear s0 st sr hW0
  refine (callsIn_wide (n := 6)).1 ?_
  have hro : Fence.wide.round = none := rfl
  refine callsIn_of_wp_marks Tryd.func8 rfl trivial ?_ hro
  simp only [Tryd.ntmps8, List.size_toArray, List.length_cons, List.length_nil, Nat.reduceAdd, Nat.reduceSub, Array.replicate_succ, Array.replicate_zero, List.push_toArray, List.append_toArray, List.nil_append, List.cons_append]
  cases hb : recvB nx f n
  case false =>
    have hv : hasB nx f n t = false := by unfold hasB; rw [hb]; rfl
    rw [hv]
    have HBB : Hid (recvB nx f n = false) := hb
    clear hv hb
    gi_wp2_with (refine ⟨trivial, ?_⟩; gi_at_call 7; refine (callsIn_wide.2 (irecvOk_any nx a n c f er _ (by omega) (HP.out _ (by rw [HW0.out]; exact b0)) (HE.out _ (by rw [HW0.out]; exact b0)))).mono ?_; rintro e w1 ⟨rfl, b1⟩; rw [HBB.out]; rw [HW0.out] at b1; have r1 := Sits.below HSR.out b1 (Sits.lt HSR.out); have r10 : w1.cell? ⟨w.heap.size + 1 + 1, 0, none⟩ = some (.bool false) := r1.cell 0; have fr := r1.frozen)
    have B1 := b0.trans (b1.mono b0.size)
    have r2 := Sits.set r1 0 (.bool false)
    have c2 := r2.cell 0
    refine ⟨.bool false, by simp [results, Tryd.results8, go_sem, c2], rfl, ?_⟩
    exact B1.setCell (by show w.heap.size ≤ w.heap.size + 1 + 1; omega) _
  case true =>
    have hrp : recvP nx f n := of_decide_eq_true hb
    have hv : hasB nx f n t = decide (hasP nx f n t) := by unfold hasB; rw [hb]; rfl
    rw [hv]
    have HBB : Hid (recvB nx f n = true) := hb
    have HRP : Hid (recvP nx f n) := hrp
    clear hv hb hrp
    gi_wp2_with (refine ⟨trivial, ?_⟩; first | (gi_at_call 7; refine (callsIn_wide.2 (irecvOk_any nx a n c f er _ (by omega) (HP.out _ (by rw [HW0.out]; exact b0)) (HE.out _ (by rw [HW0.out]; exact b0)))).mono ?_; rintro e w1 ⟨rfl, b1⟩; rw [HBB.out]; rw [HW0.out] at b1; clear q0 q1; obtain ⟨q0, q1⟩ := rc_cells (Sits.below HS0.out b1 (Sits.lt HS0.out))) | (gi_at_call 18; refine (pieces_in 5 _ _ _ _ _).mono ?_; rintro e w' ⟨rfl, rfl⟩))
    have B1 : Below w.heap.size w w1 := b0.trans (b1.mono b0.size)
    have hs1 := b1.size
    obtain ⟨V0, hV0⟩ : ∃ V, w1.alloc (.cells (rcCells nx a n c) 25) = V := ⟨_, rfl⟩
    have hzV : V0.heap.size = w1.heap.size + 1 := by rw [← hV0]; simp
    have bV : Below w.heap.size w V0 := by rw [← hV0]; exact B1.alloc B1.size _
    have sB : Sits V0 w1.heap.size (rcCells nx a n c) 25 := by rw [← hV0]; exact Sits.new _ _ _
    have vt : Sits V0 (w.heap.size + 1) #[.int .i64 t] 3 := by rw [← hV0]; exact (Sits.below HST.out b1 (Sits.lt HST.out)).alloc _
    have vr : Sits V0 (w.heap.size + 1 + 1) #[.bool false] 4 := by rw [← hV0]; exact (Sits.below HSR.out b1 (Sits.lt HSR.out)).alloc _
    change Code.wpIn _ _ _ _ _ _ (w1.alloc (.cells (rcCells nx a n c) 25))
    rw [hV0]
    clear hV0 q0 q1
    refine wpIn_rangeFunc_ownH hro (by omega) (gf := 23) (lb := #[.pointer (some ⟨w1.heap.size, 0, none⟩)]) rfl trivial (enters_of Tryd.func23 (by kernel_rfl) rfl)
      (pieces_stops 5 (by omega) w1.heap.size V0.heap.size n c a f nx (HRP.out).2.2.1 V0 sB (by omega) (Nat.le_refl _) (HP.out _ bV) (HRP.out).2.2.2) kpF_t (kpF_b (Nat.le_refl _)) (Below.refl _ _) (fun _ => rfl)
      (fun pre W => (∀ y ∈ pre, ¬ inPc nx f t y.1) ∧ Below V0.heap.size V0 W)
      (fun ex pre W => ((ex = .ret ∧ ∃ y ∈ pre, inPc nx f t y.1) ∧ Sits W (w.heap.size + 1 + 1) #[.bool true] 4) ∧ Below w.heap.size w W)
      (OwnFrom.and (ownFrom_pure _ _) (ownFrom_below (Nat.le_refl _) (Nat.le_refl _)))
      (fun c => OwnFrom.and (OwnFrom.and (ownFrom_pure _ _) (Go.Own.from (sits_own _ _ _) _)) (ownFrom_below (Nat.le_refl _) (by omega)))
      ⟨by simp, Below.refl _ _⟩
      (fun y a' W => ∃ Bx, V0.heap.size ≤ Bx ∧ Sits W Bx (spCells (pieceF nx f y.1)) 34 ∧ a' = { tmps := #[rcVal nx a n c, .int .i64 t, .pointer (some ⟨w.heap.size, 0, none⟩), .pointer (some ⟨w.heap.size + 1, 0, none⟩), .pointer (some ⟨w.heap.size + 1 + 1, 0, none⟩), undef, .pointer (some ⟨Bx, 0, none⟩), .agg #[.int .i64 nx, .slice a n c], .bool true, .bool false, .agg #[.int .i64 nx, .slice a n c], .func (.func 23) #[] #[.pointer (some ⟨w1.heap.size, 0, none⟩)], .int .i64 (aheadF nx f y.1), (pieceF nx f y.1).val, undef, undef, undef, undef, undef, undef, undef], defers := [] })
      (fun x a' _ X Y row hs hg hr => by obtain ⟨Bx, e1, e2, e3⟩ := hs; exact ⟨Bx, e1, sits_own Bx _ _ () X Y row e2 hg (fun r e => (hr r e).2), e3⟩)
      ?assign ?body ?done ?stop
    case assign =>
      rintro lp pre y W K ⟨hp, hBW⟩ hK
      have hsW := hBW.size
      gi_wp2
      exact hK _ _ ((KeepsOthers.alloc _ _).from _) (KpF.below ((Below.refl _ W).alloc (Nat.le_refl _) _) hsW) ⟨hp, hBW.alloc hsW _⟩ ⟨W.heap.size, hsW, Sits.new W _ _, rfl⟩
    case body =>
      rintro lp pre y a' W hl ⟨r, hr⟩ ⟨hp, hBW⟩ ⟨Bx, hBx, bX, rfl⟩ hlt2
      have vt1 := vt.below hBW vt.lt
      have vr1 := vr.below hBW vr.lt
      have cT : W.cell? ⟨w.heap.size + 1, 0, none⟩ = some (.int .i64 t) := vt1.cell 0
      have cR : W.cell? ⟨w.heap.size + 1 + 1, 0, none⟩ = some (.bool false) := vr1.cell 0
      have fR := vr1.frozen
      have q0 : W.cell? ⟨Bx, 0, none⟩ = some (.int .i64 (pieceF nx f y.1).fr) := bX.cell 0
      have q1 : W.cell? ⟨Bx, 1, none⟩ = some (.int .i64 (pieceF nx f y.1).to) := bX.cell 1
      obtain ⟨p0, p1⟩ := piece_bd HRP.out y.2
      have hq : inB t (pieceF nx f y.1).fr ((pieceF nx f y.1).to - 1) = decide (inPc nx f t y.1) := by
        unfold inPc
        by_cases h : (pieceF nx f y.1).fr ≤ t ∧ t < (pieceF nx f y.1).to
        · rw [decide_eq_true h]; simp [inB]; omega
        · rw [decide_eq_false h]; simp [inB]; omega
      by_cases hin : inPc nx f t y.1
      · rw [decide_eq_true hin] at hq
        gi_wp2_with (refine ⟨trivial, ?_⟩; gi_at_call 16; refine (CallsIn.inRound lp (callsIn_wide.2 (within_any _ _ _ _))).mono ?_; rintro e w9 ⟨rfl, hw9⟩; replace hw9 := hw9.symm; subst hw9; rw [hq])
        exact ⟨(KeepsOthers.setCell _ _ _).from _, ⟨⟨rfl, y, List.mem_append.2 (.inr (by simp)), hin⟩, Sits.set vr1 0 (.bool true)⟩, (bV.trans (hBW.mono bV.size)).setCell (by show w.heap.size ≤ w.heap.size + 1 + 1; omega) _⟩
      · rw [decide_eq_false hin] at hq
        gi_wp2_with (refine ⟨trivial, ?_⟩; gi_at_call 16; refine (CallsIn.inRound lp (callsIn_wide.2 (within_any _ _ _ _))).mono ?_; rintro e w9 ⟨rfl, hw9⟩; replace hw9 := hw9.symm; subst hw9; rw [hq])
        exact ⟨KeepsFrom.refl _ _, KpF.refl _ _ _, fun z hz => (List.mem_append.1 hz).elim (hp z) (fun e => by simp at e; subst e; exact hin), hBW⟩
    case done =>
      rintro D zs W hD hz ⟨hp, hBW⟩ hK
      have hall : decide (hasP nx f n t) = false := decide_eq_false fun ⟨k, hk, hin⟩ => by
        have hm : k ∈ zs.map (·.1) := by rw [hz]; exact List.mem_range.2 hk
        obtain ⟨z, hz', rfl⟩ := List.mem_map.1 hm
        exact hp z hz' hin
      have HALL : Hid (decide (hasP nx f n t) = false) := hall
      clear hall
      have vr1 := vr.below hBW vr.lt
      have cR : W.cell? ⟨w.heap.size + 1 + 1, 0, none⟩ = some (.bool false) := vr1.cell 0
      have fR := vr1.frozen
      have bW : Below w.heap.size w W := bV.trans (hBW.mono bV.size)
      have hsb := bW.size
      gi_wp2
      refine ⟨by simp, .inl ⟨_, _, rfl, run_takeDeferred ((heap_set_ne (p := ⟨w.heap.size + 1 + 1, 0, none⟩) (by show D ≠ w.heap.size + 1 + 1; omega) _).trans hK), ?_⟩⟩
      have s3 : Sits ((W.setCell ⟨w.heap.size + 1 + 1, 0, none⟩ (.bool false)).putObj D (.deferred none)) (w.heap.size + 1 + 1) #[.bool false] 4 := (World.putObj_heap_other (by omega)).trans (Sits.set vr1 0 (.bool false))
      have c3 := s3.cell 0
      refine ⟨.bool false, by simp [results, Tryd.results8, go_sem, c3], by rw [HALL.out], ?_⟩
      exact below_putObj (bW.setCell (by show w.heap.size ≤ w.heap.size + 1 + 1; omega) _) (by omega) (by simp [World.setCell]; omega) _
    case stop =>
      rintro D c2 pre W hD _ ⟨⟨⟨rfl, y, hy, hin⟩, sR⟩, hBW⟩ hK
      have HALL : Hid (decide (hasP nx f n t) = true) := decide_eq_true ⟨y.1, y.2, hin⟩
      have hsb := hBW.size
      gi_wp2
      refine ⟨by simp, .inl ⟨_, _, rfl, run_takeDeferred hK, ?_⟩⟩
      have s3 : Sits (W.putObj D (.deferred none)) (w.heap.size + 1 + 1) #[.bool true] 4 := (World.putObj_heap_other (by omega)).trans sR
      have c3 := s3.cell 0
      refine ⟨.bool true, by simp [results, Tryd.results8, go_sem, c3], by rw [HALL.out], ?_⟩
      exact below_putObj hBW (by omega) hsb _

end Go.Proofs.YtfghnfanimpjjaaDoor
