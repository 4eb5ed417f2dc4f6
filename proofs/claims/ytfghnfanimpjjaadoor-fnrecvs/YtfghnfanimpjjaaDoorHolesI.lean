/-
  Holes OF THE PROGRAM AND OF THE SPECIFICATION.
-/
import Derived.Test.YtfghnfanimpjjaaDoorHoles
namespace Go.Proofs.YtfghnfanimpjjaaDoor
open Go.RowKit Go.Shelf
set_option linter.unusedVariables false
attribute [local go_sem] Oper.semAt_some

set_option maxRecDepth 100000 in
set_option maxHeartbeats 4000000 in
theorem iholes_any (nx : Int) (a : Option Addr) (n c : Nat) (f : Nat → Sp) (er : Addr) (w : World) (hn : n ≤ 1048576) (hP : SR w.heap.size w a n f) (he : ErrSp er w) :
    Calls Tryd.prog 9 #[rcVal nx a n c] w fun e w' => ∃ (x : Option Addr) (cap : Nat), e = .returned (.slice x (holesR nx f n).length cap) ∧ OS w.heap.size w' x cap (holesR nx f n) ∧ Below w.heap.size w w' := by
  have HP : Hid (∀ V, Below w.heap.size w V → SR V.heap.size V a n f) := fun V h => SR.mono (SR.below hP h) h.size
  have HE : Hid (∀ V, Below w.heap.size w V → ErrSp er V) := fun V h => ErrSp.below he h he.lt
  clear hP he
  have b0 : Below w.heap.size w (w.alloc (.cells (rcCells nx a n c) 25)) := (Below.refl _ w).alloc (Nat.le_refl _) _
  have HS0 : Hid (Sits (w.alloc (.cells (rcCells nx a n c) 25)) w.heap.size (rcCells nx a n c) 25) := Sits.new _ _ _
  refine (callsIn_wide (n := 6)).1 ?_
  have hro : Fence.wide.round = none := rfl
  refine callsIn_of_wp_marks Tryd.func9 rfl trivial ?_ hro
  simp only [Tryd.ntmps9, List.size_toArray, List.length_cons, List.length_nil, Nat.reduceAdd, Nat.reduceSub, Array.replicate_succ, Array.replicate_zero, List.push_toArray, List.append_toArray, List.nil_append, List.cons_append]
  cases hb : recvB nx f n
  case false =>
    have hv : holesR nx f n = [] := by unfold holesR; rw [hb]; rfl
    rw [hv]
    have HBB : Hid (recvB nx f n = false) := hb
    clear hv hb
    gi_wp2_with (refine ⟨trivial, ?_⟩; gi_at_call 7; refine (callsIn_wide.2 (irecvOk_any nx a n c f er _ (by omega) (HP.out _ b0) (HE.out _ b0))).mono ?_; rintro e w1 ⟨rfl, b1⟩; rw [HBB.out]; have B1 := b0.trans (b1.mono b0.size))
    exact ⟨_, results_tmp rfl _ _ _, none, 0, rfl, World.ownsRow_nil _ _ _ _, B1⟩
  case true =>
    have hrp : recvP nx f n := of_decide_eq_true hb
    have hv : holesR nx f n = (List.range n).map (hoF nx f) := by unfold holesR; rw [hb]; rfl
    rw [hv]
    have HBB : Hid (recvB nx f n = true) := hb
    have HRP : Hid (recvP nx f n) := hrp
    clear hv hb hrp
    obtain ⟨i0, hi, hz0, hz1, hz2⟩ := infoSpan_parts
    gi_wp2_with (refine ⟨trivial, ?_⟩; first | (gi_at_call 7; refine (callsIn_wide.2 (irecvOk_any nx a n c f er _ (by omega) (HP.out _ b0) (HE.out _ b0))).mono ?_; rintro e w1 ⟨rfl, b1⟩; rw [HBB.out]; have B1 := b0.trans (b1.mono b0.size); have l1 := Sits.lt (Sits.below HS0.out b1 (Sits.lt HS0.out)); obtain ⟨q0, q1⟩ := rc_cells (Sits.below HS0.out b1 (Sits.lt HS0.out))) | (gi_at_call 18; refine (pieces_in 5 _ _ _ _ _).mono ?_; rintro e w' ⟨rfl, rfl⟩))
    have hs1 := B1.size
    obtain ⟨V0, hV0⟩ : ∃ V, (w1.alloc (.cells #[.slice none 0 0] 23)).alloc (.cells (rcCells nx a n c) 25) = V := ⟨_, rfl⟩
    have hzV : V0.heap.size = w1.heap.size + 1 + 1 := by rw [← hV0]; simp
    have b1V : Below w1.heap.size w1 V0 := by rw [← hV0]; exact ((Below.refl _ w1).alloc (Nat.le_refl _) _).alloc (by simp) _
    have bV : Below w.heap.size w V0 := B1.trans (b1V.mono hs1)
    have sB : Sits V0 (w1.heap.size + 1) (rcCells nx a n c) 25 := by rw [← hV0]; exact Sits.new' (by simp)
    have bO : Boxed V0 w1.heap.size 23 (.slice none 0 0) := by rw [← hV0]; exact (Boxed.new w1 23 (.slice none 0 0)).alloc _
    change Code.wpIn _ _ _ _ _ _ ((w1.alloc (.cells #[.slice none 0 0] 23)).alloc (.cells (rcCells nx a n c) 25))
    rw [hV0]
    clear hV0 q0 q1
    have hoO : ∀ k, ¬ Owned [w1.heap.size] V0 k := fun k ⟨H, hH, l, c', hc⟩ => by
      have : H = w1.heap.size := by simpa using hH
      subst this
      rw [bO.cell] at hc
      simp at hc
    have hoH : ∀ H ∈ [w1.heap.size], H < V0.heap.size := fun H hH => by
      have : H = w1.heap.size := by simpa using hH
      omega
    have hP1 : SR w1.heap.size V0 a n f := (HP.out _ B1).below b1V
    refine wpIn_rangeFunc_ownH hro (by omega) (gf := 23) (lb := #[.pointer (some ⟨w1.heap.size + 1, 0, none⟩)]) rfl trivial (enters_of Tryd.func23 (by kernel_rfl) rfl)
      (pieces_stopsG [w1.heap.size] 5 (by omega) (w1.heap.size + 1) w1.heap.size (w1.heap.size + 1) n c a f nx (HRP.out).2.2.1 V0 hoH hoO (by simp) (Nat.le_refl _) sB (by omega) (by omega) hP1 (HRP.out).2.2.2) kpG_t (kpG_b (by omega) hoH) (Below.refl _ _) (fun _ => rfl)
      (fun pre W => (∃ v, Boxed W w1.heap.size 23 v ∧ W.ownsRow w1.heap.size 34 2 v (holeL nx f pre).length (cellsP (holeL nx f pre)) ∧ True) ∧ Below w1.heap.size w1 W)
      (fun _ _ _ => False)
      (OwnFrom.and (Go.Own.from (holdsRow_own w1.heap.size w1.heap.size 23 34 2 (fun pre => (holeL nx f pre).length) (fun pre => cellsP (holeL nx f pre)) (fun _ _ => True)) _) (ownFrom_below (Nat.le_refl _) (by omega)))
      (fun c => ownFrom_pure _ _)
      ⟨⟨_, bO, World.ownsRow_nil _ _ _ _, trivial⟩, b1V⟩
      (fun y a' W => ∃ Bx, w1.heap.size < Bx ∧ Sits W Bx (spCells (pieceF nx f y.1)) 34 ∧ a' = { tmps := #[rcVal nx a n c, .pointer (some ⟨w.heap.size, 0, none⟩), .slice none 0 0, .pointer (some ⟨w1.heap.size, 0, none⟩), .int .i64 (aheadF nx f y.1), .pointer (some ⟨Bx, 0, none⟩), .agg #[.int .i64 nx, .slice a n c], .bool true, .bool false, .agg #[.int .i64 nx, .slice a n c], .func (.func 23) #[] #[.pointer (some ⟨w1.heap.size + 1, 0, none⟩)], .int .i64 (aheadF nx f y.1), (pieceF nx f y.1).val, undef, undef, undef, undef, undef, undef, undef, undef, undef, undef, undef, undef], defers := [] })
      (fun x a' _ X Y row hs hg hr => by obtain ⟨Bx, e1, e2, e3⟩ := hs; exact ⟨Bx, e1, sits_own Bx _ _ () X Y row e2 hg (fun r e => (hr r e).2), e3⟩)
      ?assign ?body ?done ?stop
    case assign =>
      rintro lp pre y W K ⟨⟨v, hv, hrow, _⟩, hBW⟩ hK
      have hsW := hBW.size
      have hvl := hv.lt
      have hoW : ∀ H ∈ [w1.heap.size], H < W.heap.size := fun H hH => by
        have : H = w1.heap.size := by simpa using hH
        omega
      gi_wp2
      exact hK _ _ ((KeepsOthers.alloc _ _).from _) (KpG.later ((Below.refl _ W).alloc (Nat.le_refl _) _) hsW hoW) ⟨⟨v, hv.alloc _, hrow.alloc _, trivial⟩, hBW.alloc hsW _⟩ ⟨W.heap.size, hvl, Sits.new W _ _, rfl⟩
    case body =>
      rintro lp pre y a' W hl ⟨r, hr⟩ ⟨⟨v, hv, hrow, _⟩, hBW⟩ ⟨Bx, hBx, bX, rfl⟩ hlt2
      have hc := hv.cell
      have hpl := holeL_len nx f pre
      have q0 : W.cell? ⟨Bx, 0, none⟩ = some (.int .i64 (pieceF nx f y.1).fr) := bX.cell 0
      have q1 : W.cell? ⟨Bx, 1, none⟩ = some (.int .i64 (pieceF nx f y.1).to) := bX.cell 1
      have hsW := hBW.size
      have h8 := (HRP.out).2.2.1
      by_cases hin : aheadF nx f y.1 < (pieceF nx f y.1).fr
      · gi_wp2_with (gi_at_builtin; refine wpListIn_append_lies _ rfl _ _ 23 rfl w1.heap.size 34 i0 (.agg #[.int .i64 0, .int .i64 0]) 2 16 Tryd.underlying23 hi hz0 hz1 hz2 rfl (by decide) _ _ _ rfl (hrow.alloc _) ⟨W.heap.size, 0, none⟩ 1 1 [.int .i64 (aheadF nx f y.1), .int .i64 (pieceF nx f y.1).fr] rfl rfl (cells_two_new _ _ _ _) (by simp [Value.oneCell']) (by omega) (by unfold maxLen; omega) (by omega) (by simp; omega) ?_; intro g' cap' w2 hown' hgrow hlie hlt3; obtain ⟨hv1, hv2, hr2, hk2, hb2⟩ := hv.appended (by decide) hrow hsW (Nat.le_refl _) hown' hgrow; have hc1 := hv1.cell; have hf1 := hv1.frozen)
        exact ⟨hk2.from _, KpG.appended hv hrow hgrow hlie hlt3 hv2 hb2, ⟨_, hv2, by rw [holeL_hit nx f pre y hin, cellsP_app]; simpa using hr2, trivial⟩, hBW.trans hb2⟩
      · have hin' : decide (aheadF nx f y.1 < (pieceF nx f y.1).fr) = false := decide_eq_false hin
        have HIN : Hid (¬ aheadF nx f y.1 < (pieceF nx f y.1).fr) := hin
        clear hin
        gi_wp2
        have hrow' : W.ownsRow w1.heap.size 34 2 v (holeL nx f (pre ++ [y])).length (cellsP (holeL nx f (pre ++ [y]))) := by rw [holeL_miss nx f pre y (by have := HIN.out; omega)]; exact hrow
        exact ⟨KeepsFrom.refl _ _, KpG.refl _ _ _ _, by first | exact ⟨v, hv, hrow', trivial⟩ | exact ⟨v, hv, hrow'⟩, hBW⟩
    case done =>
      rintro D zs W hD hz ⟨⟨v, hv, hrow, _⟩, hBW⟩ hK
      have hc := hv.cell
      gi_wp2
      refine ⟨by simp, .inl ⟨_, _, rfl, run_takeDeferred hK, ?_⟩⟩
      have hBB : Below w.heap.size w W := B1.trans (hBW.mono hs1)
      rw [holeL_all nx f (HRP.out).2.2.2 zs hz] at hrow
      obtain ⟨x, cap, rfl, hoi⟩ := os_of (ownsRow_putObj hrow (.deferred none) hK rfl)
      exact ⟨_, results_tmp rfl _ _ _, x, cap, rfl, OS.mono hoi hs1, below_putObj hBB (by omega) hBB.size _⟩
    case stop =>
      rintro D c pre W _ _ h _
      exact h.elim

end Go.Proofs.YtfghnfanimpjjaaDoor
