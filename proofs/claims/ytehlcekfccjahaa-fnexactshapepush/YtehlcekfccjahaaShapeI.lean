/-
  WHICH SHAPES ARE WELL, AS THE PROGRAM SAYS: hostLineOk, turnOk, shapeNumbersOk.
-/
import Derived.Test.YtehlcekfccjahaaShapeB
import Derived.Test.YtehlcekfccjahaaFairI
import Derived.Test.YtehlcekfccjahaaSortI
namespace Go.Proofs.Ytehlcekfccjahaa
open Go.RowKit Go.Shelf
set_option linter.unusedVariables false
attribute [local go_sem] Oper.semAt_some

/-- A line of a Shape, in the program's words. -/
def hlP (i : Int) (l : Ln) : Prop := cdzB l.cd = true ∧ waitB l = true ∧ ∀ k, k < l.n → (l.f k).host = i
instance (i : Int) (l : Ln) : Decidable (hlP i l) := by unfold hlP; infer_instance
def hlB (i : Int) (l : Ln) : Bool := decide (hlP i l)
theorem hl_iff {i : Int} {l : Ln} : hlnP i l ↔ hlP i l := by
  unfold hlnP hlP waitB inB
  constructor
  · rintro ⟨h1, h2, h3, h5⟩
    exact ⟨h1, by simp [h2, h3], h5⟩
  · rintro ⟨h1, h2, h5⟩
    simp at h2
    exact ⟨h1, h2.1, h2.2, h5⟩

set_option maxRecDepth 100000 in
set_option maxHeartbeats 4000000 in
theorem ihostLineOk_any (x : Option Addr) (c : Nat) (l : Ln) (num : Int) (w : World) (hn : l.n ≤ 1048576) (hnc : l.n ≤ c) (hP : PR w.heap.size w x l.n l.f) :
    Calls Try.prog 42 #[lnVal x c l, .int .i64 num] w fun e w' => e = .returned (.bool (hlB num l)) ∧ Below w.heap.size w w' := by
  have HP : Hid (PR w.heap.size w x l.n l.f) := hP
  have HN : Hid (l.n ≤ 1048576) := hn
  have HNC : Hid (l.n ≤ c) := hnc
  clear hP hn hnc
  obtain ⟨W0, hW0⟩ : ∃ W, ((w.alloc (.cells (lnCells x c l) 54)).alloc (.cells #[.int .i64 num] 3)).alloc (.cells #[.bool false] 4) = W := ⟨_, rfl⟩
  have s0 : Sits W0 w.heap.size (lnCells x c l) 54 := by rw [← hW0]; exact ((Sits.new _ _ _).alloc _).alloc _
  have s1 : Boxed W0 (w.heap.size + 1) 3 (.int .i64 num) := by rw [← hW0]; have := (Boxed.new (w.alloc (.cells (lnCells x c l) 54)) 3 (.int .i64 num)).alloc (.cells #[.bool false] 4); simpa using this
  have s2 : Boxed W0 (w.heap.size + 1 + 1) 4 (.bool false) := by rw [← hW0]; have := Boxed.new ((w.alloc (.cells (lnCells x c l) 54)).alloc (.cells #[.int .i64 num] 3)) 4 (.bool false); simpa using this
  have b0 : Below w.heap.size w W0 := by rw [← hW0]; exact (((Below.refl _ w).alloc (Nat.le_refl _) _).alloc (by simp) _).alloc (by simp; omega) _
  have HB1 : Hid (Below w.heap.size w W0) := b0
  have HT0 : Hid (Sits W0 w.heap.size (lnCells x c l) 54) := s0
  have HT1 : Hid (Boxed W0 (w.heap.size + 1) 3 (.int .i64 num)) := s1
  have HT2 : Hid (Boxed W0 (w.heap.size + 1 + 1) 4 (.bool false)) := s2
  have y0 := s0.cell 0
  have y1 := s0.cell 1
  have y2 := s0.cell 2
  have y3 := s0.cell 3
  have y4 := s0.cell 4
  have y5 := s0.cell 5
  have y6 := s0.cell 6
  have y7 := s0.cell 7
  have y8 := s0.cell 8
  have g2 := s2.cell
  have g2f := s2.frozen
  have HW0 : Hid (((w.alloc (.cells (lnCells x c l) 54)).alloc (.cells #[.int .i64 num] 3)).alloc (.cells #[.bool false] 4) = W0) := hW0
  clear s0 s1 s2 b0 hW0
  have hro : Fence.wide.round = none := rfl
  have hcd := equalIn_cd l.cd
  cases hg : cdzB l.cd
  case false =>
    have hE : hlB num l = false := by unfold hlB; rw [decide_eq_false_iff_not]; exact fun h => by have := h.1; rw [hg] at this; cases this
    have HE : Hid (hlB num l = false) := hE
    clear hE
    refine (callsIn_wide (n := 6)).1 ?_
    refine callsIn_of_wp_marks Try.func42 rfl trivial ?_ hro
    simp only [Try.ntmps42, List.size_toArray, List.length_cons, List.length_nil, Nat.reduceAdd, Nat.reduceSub, Array.replicate_succ, Array.replicate_zero, List.push_toArray, List.append_toArray, List.nil_append, List.cons_append]
    gi_wp2
    refine ⟨trivial, ?_⟩
    rename_i hK
    refine hK _ _ ?_
    rw [HW0.out]
    gi_wp2
    exact ⟨_, ret_b1 Try.results42 rfl (Boxed.set (.bool false) HT2.out), by rw [HE.out], (HB1.out).setCell (show w.heap.size ≤ w.heap.size + 1 + 1 by omega) _⟩
  case true =>
  cases hwt : waitB l
  case false =>
    have hE : hlB num l = false := by unfold hlB; rw [decide_eq_false_iff_not]; exact fun h => by have := h.2.1; rw [hwt] at this; cases this
    have HE : Hid (hlB num l = false) := hE
    clear hE
    refine (callsIn_wide (n := 6)).1 ?_
    refine callsIn_of_wp_marks Try.func42 rfl trivial ?_ hro
    simp only [Try.ntmps42, List.size_toArray, List.length_cons, List.length_nil, Nat.reduceAdd, Nat.reduceSub, Array.replicate_succ, Array.replicate_zero, List.push_toArray, List.append_toArray, List.nil_append, List.cons_append]
    gi_wp2_with (refine ⟨trivial, ?_⟩; gi_at_call 56; rw [HW0.out]; refine (callsIn_wide.2 (iwaitingOk_any x c l _ HN.out HNC.out ((PR.below HP.out HB1.out).mono (HB1.out).size))).mono ?_; rintro e w2 ⟨rfl, b2⟩; rw [hwt]; have HB2 : Hid (Below w.heap.size w w2) := (HB1.out).trans (b2.mono (HB1.out).size); have t2 := boxed_below HT2.out b2 (Boxed.lt HT2.out); clear g2 g2f; have u2 := t2.cell; have u2f := t2.frozen; have HU2 : Hid (Boxed w2 (w.heap.size + 1 + 1) 4 (.bool false)) := t2; have t1 := boxed_below HT1.out b2 (Boxed.lt HT1.out); have HU1 : Hid (Boxed w2 (w.heap.size + 1) 3 (.int .i64 num)) := t1; have t0 := Sits.below HT0.out b2 (Sits.lt HT0.out); clear y0; have v0 := t0.cell 0; clear t0 t1 t2 b2)
    exact ⟨_, ret_b1 Try.results42 rfl (Boxed.set (.bool false) HU2.out), by rw [HE.out], (HB2.out).setCell (show w.heap.size ≤ w.heap.size + 1 + 1 by omega) _⟩
  case true =>
    have HG : Hid (cdzB l.cd = true ∧ waitB l = true) := ⟨hg, hwt⟩
    refine (callsIn_wide (n := 6)).1 ?_
    refine callsIn_of_wp_marks Try.func42 rfl trivial ?_ hro
    simp only [Try.ntmps42, List.size_toArray, List.length_cons, List.length_nil, Nat.reduceAdd, Nat.reduceSub, Array.replicate_succ, Array.replicate_zero, List.push_toArray, List.append_toArray, List.nil_append, List.cons_append]
    gi_wp2_with (first | (refine ⟨trivial, ?_⟩; gi_at_call 56; rw [HW0.out]; refine (callsIn_wide.2 (iwaitingOk_any x c l _ HN.out HNC.out ((PR.below HP.out HB1.out).mono (HB1.out).size))).mono ?_; rintro e w2 ⟨rfl, b2⟩; rw [hwt]; have HB2 : Hid (Below w.heap.size w w2) := (HB1.out).trans (b2.mono (HB1.out).size); have t2 := boxed_below HT2.out b2 (Boxed.lt HT2.out); clear g2 g2f; have u2 := t2.cell; have u2f := t2.frozen; have HU2 : Hid (Boxed w2 (w.heap.size + 1 + 1) 4 (.bool false)) := t2; have t1 := boxed_below HT1.out b2 (Boxed.lt HT1.out); have HU1 : Hid (Boxed w2 (w.heap.size + 1) 3 (.int .i64 num)) := t1; have t0 := Sits.below HT0.out b2 (Sits.lt HT0.out); clear y0; have v0 := t0.cell 0; clear t0 t1 t2 b2) | (refine ⟨trivial, ?_⟩; gi_at_call 47; refine (told_in 5 _ _ _ _).mono ?_; rintro e w' ⟨rfl, rfl⟩))
    have bN := Boxed.new w2 50 (.slice x l.n c)
    have hB0 : Below w2.heap.size w2 (w2.alloc (.cells #[.slice x l.n c] 50)) := (Below.refl _ w2).alloc (Nat.le_refl _) _
    have bR := Boxed.alloc HU2.out (.cells #[.slice x l.n c] 50)
    have bM := Boxed.alloc HU1.out (.cells #[.slice x l.n c] 50)
    have hls : w.heap.size + 1 + 1 < w2.heap.size := Boxed.lt HU2.out
    have hsz : (w2.alloc (.cells #[.slice x l.n c] 50)).heap.size = w2.heap.size + 1 := by simp
    have hP1 : PR w.heap.size w2 x l.n l.f := PR.below HP.out HB2.out
    have hBw := (HB2.out).alloc (HB2.out).size (.cells #[.slice x l.n c] 50)
    obtain ⟨V0, hV0⟩ : ∃ V0, w2.alloc (.cells #[.slice x l.n c] 50) = V0 := ⟨_, rfl⟩
    rw [hV0] at bR bN bM hB0 hsz hBw ⊢
    clear hV0
    refine wpIn_rangeFunc_ownH hro (by omega) (gf := 58) (lb := #[.pointer (some ⟨w2.heap.size, 0, none⟩)]) rfl trivial (enters_of Try.func58 (by kernel_rfl) rfl)
      (told_stops 5 (by omega) w2.heap.size w.heap.size l.n c x l.f HN.out V0 (by omega) (by omega) bN.cell (hP1.below (hB0.mono (by omega)))) belowK_t (belowK_b (by omega)) (Below.refl _ _) (fun _ => rfl)
      (fun pre W => (((∀ y ∈ pre, (l.f y.1).host = num) ∧ Boxed W (w.heap.size + 1 + 1) 4 (.bool false)) ∧ Boxed W (w.heap.size + 1) 3 (.int .i64 num)) ∧ Below w.heap.size w W)
      (fun ex pre W => ((ex = .ret ∧ ∃ y ∈ pre, ¬ (l.f y.1).host = num) ∧ Boxed W (w.heap.size + 1 + 1) 4 (.bool false)) ∧ Below w.heap.size w W)
      (OwnFrom.and (OwnFrom.and (OwnFrom.and (ownFrom_pure _ _) (Own.from (boxed_own _ _ _) _)) (Own.from (boxed_own _ _ _) _)) (ownFrom_below (Nat.le_refl _) (by omega)))
      (fun c => OwnFrom.and (OwnFrom.and (ownFrom_pure _ _) (Own.from (boxed_own _ _ _) _)) (ownFrom_below (Nat.le_refl _) (by omega)))
      ⟨⟨⟨by simp, bR⟩, bM⟩, hBw⟩
      (fun y a' W => ∃ Bx, w.heap.size + 1 + 1 < Bx ∧ Lies W Bx (pkCells (l.f y.1)) 35 ∧ a' = { tmps := #[lnVal x c l, .int .i64 num, .pointer (some ⟨w.heap.size, 0, none⟩), .pointer (some ⟨w.heap.size + 1, 0, none⟩), .pointer (some ⟨w.heap.size + 1 + 1, 0, none⟩), undef, .pointer (some ⟨Bx, 0, none⟩), .pointer (some ⟨w.heap.size, 2, none⟩), l.cd.val, .agg #[.int .i64 0, .int .i64 0, .int .i64 0, .int .i64 0, .int .i64 0, .int .i64 0, .bool false], .bool false, .bool false, lnVal x c l, .bool true, .bool false, .bool false, .pointer (some ⟨w.heap.size, 0, none⟩), .slice x l.n c, .func (.func 58) #[] #[.pointer (some ⟨w2.heap.size, 0, none⟩)], .int .i64 (y.1 : Int), (l.f y.1).val, undef, undef, undef, undef], defers := [] })
      (fun x a' _ X Y row hs hg hr => by obtain ⟨Bx, e1, e2, e3⟩ := hs; exact ⟨Bx, e1, lies_own Bx _ _ () X Y row e2 hg (fun r e => (hr r e).2), e3⟩)
      ?assign ?body ?done ?stop
    case assign =>
      rintro lp pre y W K ⟨⟨⟨hp, bR1⟩, bM1⟩, hBW⟩ hK
      gi_wp2
      exact hK _ _ ((KeepsOthers.alloc _ _).from _) ((Below.refl _ W).alloc hBW.size _) ⟨⟨⟨hp, bR1.alloc _⟩, bM1.alloc _⟩, hBW.alloc hBW.size _⟩ ⟨W.heap.size, bR1.lt, Lies.new W _ _, rfl⟩
    case body =>
      rintro lp pre y a' W hl ⟨r, hr⟩ ⟨⟨⟨hp, bR1⟩, bM1⟩, hBW⟩ ⟨Bx, hBx, bX, rfl⟩ hlt
      have cR := bR1.cell
      have fR := bR1.frozen
      have cM := bM1.cell
      obtain ⟨q0, q1, q2, q3, q4, q5⟩ := bX.pk
      simp only [Nat.zero_add] at q1 q2 q3 q4 q5
      clear hsz
      by_cases hq : (l.f y.1).host = num
      · have hq' : ((l.f y.1).host != num) = false := by simpa using hq
        gi_wp2
        exact ⟨KeepsFrom.refl _ _, Below.refl _ _, ⟨⟨⟨fun z hz => (List.mem_append.1 hz).elim (hp z) (fun e => by simp at e; subst e; exact hq), bR1⟩, bM1⟩, hBW⟩⟩
      · have hq' : ((l.f y.1).host != num) = true := by simpa using hq
        gi_wp2
        exact ⟨(KeepsOthers.setCell _ _ _).from _, ⟨⟨rfl, y, List.mem_append.2 (.inr (by simp)), hq⟩, bR1.set _⟩, hBW.setCell (p := ⟨w.heap.size + 1 + 1, 0, none⟩) (show w.heap.size ≤ w.heap.size + 1 + 1 by omega) _⟩
    case done =>
      rintro D zs W hD hz ⟨⟨⟨hp, bR1⟩, bM1⟩, hBW⟩ hK
      have cR := bR1.cell
      have fR := bR1.frozen
      have hne : D ≠ w.heap.size + 1 + 1 := by omega
      have hK' : (W.setCell ⟨w.heap.size + 1 + 1, 0, none⟩ (.bool true)).heap[D]? = some (.deferred (some [])) := (Below.heap_setCell W ⟨w.heap.size + 1 + 1, 0, none⟩ _ D hne).trans hK
      have hbk : Below V0.heap.size (W.setCell ⟨w.heap.size + 1 + 1, 0, none⟩ (.bool true)) ((W.setCell ⟨w.heap.size + 1 + 1, 0, none⟩ (.bool true)).putObj D (.deferred none)) := belowK_b (w := V0) (Nat.le_refl _) _ D _ _ hD hK' rfl rfl
      have hE : hlB num l = true := decide_eq_true ⟨(HG.out).1, (HG.out).2, fun k hk => by
        have hm : k ∈ zs.map (·.1) := by rw [hz]; exact List.mem_range.2 hk
        obtain ⟨z, hz, rfl⟩ := List.mem_map.1 hm
        exact hp z hz⟩
      gi_wp2
      refine ⟨by simp, .inl ⟨_, _, rfl, run_takeDeferred hK', ?_⟩⟩
      exact ⟨_, ret_b1 Try.results42 rfl (boxed_below (bR1.set (.bool true)) hbk (by omega)), by rw [hE], ((hBW.setCell (p := ⟨w.heap.size + 1 + 1, 0, none⟩) (show w.heap.size ≤ w.heap.size + 1 + 1 by omega) _)).trans (hbk.mono (by omega))⟩
    case stop =>
      rintro D ex pre W hD hpre ⟨⟨⟨rfl, y, hy, hyb⟩, bR1⟩, hBW⟩ hK
      have cR := bR1.cell
      have hbk : Below V0.heap.size W (W.putObj D (.deferred none)) := belowK_b (w := V0) (Nat.le_refl _) _ D _ _ hD hK rfl rfl
      have hE : hlB num l = false := decide_eq_false fun h => hyb (h.2.2 y.1 y.2)
      gi_wp2
      refine ⟨by simp, .inl ⟨_, _, rfl, run_takeDeferred hK, ?_⟩⟩
      exact ⟨_, ret_b1 Try.results42 rfl (boxed_below bR1 hbk (by omega)), by rw [hE], hBW.trans (hbk.mono (by omega))⟩

end Go.Proofs.Ytehlcekfccjahaa
