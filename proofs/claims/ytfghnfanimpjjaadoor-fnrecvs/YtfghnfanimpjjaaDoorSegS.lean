/-
  l11put OF THE SPECIFICATION: a span joined with those that it touches.
-/
import Derived.Test.YtfghnfanimpjjaaDoorAppSp
namespace Go.Proofs.YtfghnfanimpjjaaDoor
open Go.RowKit
set_option linter.unusedVariables false

theorem sless_any (a b : Int) (w : World) : Calls Tryd.prog 28 #[.int .i64 a, .int .i64 b] w fun e w' => e = .returned (.int .i64 (smin a b)) ∧ w' = w := by
  by_cases h : a < b
  · rw [show smin a b = a by unfold smin; split <;> omega]
    go_enter Tryd.func28, Tryd.ntmps28
    go_wp2
    go_ret
    exact ⟨ret_int rfl, rfl⟩
  · rw [show smin a b = b by unfold smin; split <;> omega]
    go_enter Tryd.func28, Tryd.ntmps28
    go_wp2
    go_ret
    exact ⟨ret_int rfl, rfl⟩

theorem smore_any (a b : Int) (w : World) : Calls Tryd.prog 27 #[.int .i64 a, .int .i64 b] w fun e w' => e = .returned (.int .i64 (smax a b)) ∧ w' = w := by
  by_cases h : b < a
  · rw [show smax a b = a by unfold smax; split <;> omega]
    go_enter Tryd.func27, Tryd.ntmps27
    go_wp2
    go_ret
    exact ⟨ret_int rfl, rfl⟩
  · rw [show smax a b = b by unfold smax; split <;> omega]
    go_enter Tryd.func27, Tryd.ntmps27
    go_wp2
    go_ret
    exact ⟨ret_int rfl, rfl⟩

theorem segS_len (f : Nat → Sp) (s : Sp) : ∀ k, (segS f k s).out.length ≤ 2 * k := by
  intro k
  induction k with
  | zero => simp [segS, spL]
  | succ k ih =>
    rw [segS_succ]
    unfold SegS.step
    split
    · simp; omega
    · split
      · dsimp only
        split <;> simp <;> omega
      · dsimp only; omega
theorem cells_two_at (W : World) (x y : Int) (t : TypeId) (g : Nat) (hg : W.heap.size = g) : ∀ j u, [Value.int .i64 x, Value.int .i64 y][j]? = some u → (W.alloc (.cells #[.int .i64 x, .int .i64 y] t)).cell? ((⟨g, 0, none⟩ : Addr).add j) = some u := by
  subst hg
  exact cells_two_new W x y t
theorem row_far {base : Nat} {w : World} {v : Value} {k : Nat} {xs : List Value} (h : w.ownsRow base 34 2 v k xs) {H : Nat} (hH : H < base) (o : Nat) (u : Value) : (w.setCell ⟨H, o, none⟩ u).ownsRow base 34 2 v k xs := by
  obtain ⟨hl, ⟨hv, h0⟩ | ⟨g, cp, cur, hv, hbs, hh, h1, h2, h3, h4⟩⟩ := h
  · exact ⟨hl, .inl ⟨hv, h0⟩⟩
  · exact ⟨hl, .inr ⟨g, cp, cur, hv, hbs, (Below.heap_setCell _ _ _ g (by show g ≠ H; omega)).trans hh, h1, h2, h3, h4⟩⟩
theorem cell2 {W : World} {B : Nat} {p : Sp} {t : TypeId} (h : Sits W B (spCells p) t) : W.cell? ⟨B, 0, none⟩ = some (.int .i64 p.fr) ∧ W.cell? ⟨B, 1, none⟩ = some (.int .i64 p.to) := ⟨h.cell 0, h.cell 1⟩
theorem sits_grown {w w' : World} {row : Option Nat} {B base : Nat} {vs : Array Value} {t : TypeId} (h : Sits w B vs t) (hg : w.grownBy w' row) (hr : ∀ k, row = some k → base ≤ k) (hB : B < base) : Sits w' B vs t :=
  (hg.block B h.lt (fun e => by have := hr B e.symm; omega)).trans h

set_option maxRecDepth 100000 in
set_option maxHeartbeats 8000000 in
theorem l11put_any (a : Option Addr) (n c : Nat) (f : Nat → Sp) (s : Sp) (w : World) (hP : SR w.heap.size w a n f) (hn : n ≤ 8) :
    Calls Tryd.prog 26 #[.slice a n c, s.val] w fun e w' => ∃ (x : Option Addr) (cap : Nat), e = .returned (.slice x (segS f n s).all.length cap) ∧ OS w.heap.size w' x cap (segS f n s).all ∧ Below w.heap.size w w' := by
  have HP : Hid (∀ V, Below w.heap.size w V → SR w.heap.size V a n f) := fun V h => SR.below hP h
  clear hP
  obtain ⟨i0, hi, hz0, hz1, hz2⟩ := infoSpan_parts
  go_enter Tryd.func26, Tryd.ntmps26
  go_wp2
  go_loopw [5, 6, 7] (fun v pu i wr => ∃ k : Nat, (k : Int) ≤ (n : Int) ∧ i = .int .i64 k ∧ pu = .bool (segS f k s).put ∧ wr.ownsRow (w.heap.size + 1) 34 2 v (segS f k s).out.length (cellsP (segS f k s).out) ∧ Sits wr w.heap.size (spCells (segS f k s).s) 34 ∧ Below w.heap.size w wr) (fun _ _ i _ => n - (intOf i).toNat)
  case atStart => exact ⟨0, by omega, rfl, rfl, World.ownsRow_nil _ _ _ _, Sits.new _ _ _, (Below.refl _ w).alloc (Nat.le_refl _) _⟩
  case round =>
    obtain ⟨k, hk, rfl, rfl, hrow, hsb, hBW⟩ := hrel
    have hlen := segS_len f s k
    by_cases hlt : k < n
    · have STEP : Hid (segS f (k + 1) s = (segS f k s).step (f k)) := segS_succ f k s
      obtain ⟨T, hT⟩ : ∃ T, segS f k s = T := ⟨_, rfl⟩
      rw [hT] at hrow hsb hlen STEP ⊢
      obtain ⟨b, off, rfl, hbl, hcs⟩ := SR.at (HP.out _ hBW) hlt
      obtain ⟨c0, c1⟩ := hcs k hlt
      clear hcs hT
      obtain ⟨s0, s1⟩ := cell2 hsb
      have hls := hsb.lt
      have hlt' : (k : Int) < (n : Int) := by omega
      have hX : Sits (wr.alloc (.cells (spCells (f k)) 34)) wr.heap.size (spCells (f k)) 34 := Sits.new _ _ _
      have HSB : Hid (Sits wr w.heap.size (spCells T.s) 34) := hsb
      have HBW : Hid (Below w.heap.size w wr) := hBW
      have HX : Hid (Sits (wr.alloc (.cells (spCells (f k)) 34)) wr.heap.size (spCells (f k)) 34) := hX
      have hrl : ∀ j, u5.ownBlock = some j → w.heap.size + 1 ≤ j ∧ j < wr.heap.size := fun j e => hrow.lt j e
      have HRL : Hid (∀ j, u5.ownBlock = some j → w.heap.size + 1 ≤ j ∧ j < wr.heap.size) := hrl
      clear hsb hBW hX hrl
      by_cases t0 : (f k).to < T.s.fr
      · have hst : T.step (f k) = { T with out := T.out ++ [f k] } := by unfold SegS.step; rw [if_pos t0]
        rw [hst] at STEP
        clear hst
        go_wp2_with (at_builtin; refine wpList_append_own _ rfl _ _ 23 rfl (w.heap.size + 1) 34 i0 (.agg #[.int .i64 0, .int .i64 0]) 2 16 Tryd.underlying23 hi hz0 hz1 hz2 rfl (by decide) _ _ _ rfl ((hrow.alloc _).alloc _) ⟨wr.heap.size + 1, 0, none⟩ 1 1 [Value.int .i64 (f k).fr, Value.int .i64 (f k).to] rfl rfl (cells_two_at _ _ _ _ _ (by simp)) (by simp [Value.oneCell']) (by unfold maxLen; omega) (by omega) (by simp; omega) ?_; intro v' w2 hown' hgrow _)
        go_roundw
        case rel =>
          refine ⟨k + 1, by omega, by go_num, by rw [STEP.out], by rw [STEP.out, cellsP_app, List.length_append]; exact hown', ?_, ?_⟩
          · rw [STEP.out]; exact sits_grown (Sits.alloc (Sits.alloc HSB.out _) _) hgrow (base := w.heap.size + 1) (fun j e => ((HRL.out) j e).1) (by omega)
          · exact Below.grown (B := w.heap.size) (a := w) ((Below.alloc (Below.alloc HBW.out (Below.size HBW.out) _) (by have := Below.size HBW.out; simp; omega) _)) hgrow (by simp; omega) (fun j e => by have := ((HRL.out) j e).1; omega)
        case measure => simp [intOf]; omega
      · by_cases t1 : T.s.to < (f k).fr
        · have hst : T.step (f k) = ⟨(if T.put then T.out else T.out ++ [T.s]) ++ [f k], true, T.s⟩ := by unfold SegS.step; rw [if_neg t0, if_pos t1]
          rw [hst] at STEP
          clear hst
          cases hp : T.put
          case true =>
            rw [hp, if_pos rfl] at STEP
            go_wp2_with (at_builtin; refine wpList_append_own _ rfl _ _ 23 rfl (w.heap.size + 1) 34 i0 (.agg #[.int .i64 0, .int .i64 0]) 2 16 Tryd.underlying23 hi hz0 hz1 hz2 rfl (by decide) _ _ _ rfl ((hrow.alloc _).alloc _) ⟨wr.heap.size + 1, 0, none⟩ 1 1 [Value.int .i64 (f k).fr, Value.int .i64 (f k).to] rfl rfl (cells_two_at _ _ _ _ _ (by simp)) (by simp [Value.oneCell']) (by unfold maxLen; omega) (by omega) (by simp; omega) ?_; intro v' w2 hown' hgrow _)
            go_roundw
            case rel =>
              refine ⟨k + 1, by omega, by go_num, by rw [STEP.out], by rw [STEP.out, cellsP_app, List.length_append]; exact hown', ?_, ?_⟩
              · rw [STEP.out]; exact sits_grown (Sits.alloc (Sits.alloc HSB.out _) _) hgrow (base := w.heap.size + 1) (fun j e => ((HRL.out) j e).1) (by omega)
              · exact Below.grown (B := w.heap.size) (a := w) ((Below.alloc (Below.alloc HBW.out (Below.size HBW.out) _) (by have := Below.size HBW.out; simp; omega) _)) hgrow (by simp; omega) (fun j e => by have := ((HRL.out) j e).1; omega)
            case measure => simp [intOf]; omega
          case false =>
            rw [hp, if_neg (by simp)] at STEP
            go_upto_region 13 with (at_builtin; refine wpList_append_own _ rfl _ _ 23 rfl (w.heap.size + 1) 34 i0 (.agg #[.int .i64 0, .int .i64 0]) 2 16 Tryd.underlying23 hi hz0 hz1 hz2 rfl (by decide) _ _ _ rfl ((hrow.alloc _).alloc _) ⟨wr.heap.size + 1, 0, none⟩ 1 1 [Value.int .i64 T.s.fr, Value.int .i64 T.s.to] rfl rfl (cells_two_at _ _ _ _ _ (by simp)) (by simp [Value.oneCell']) (by unfold maxLen; omega) (by omega) (by simp; omega) ?_; intro v' w2 hown' hgrow _; have g2 := sits_grown (Sits.alloc (Sits.alloc HSB.out _) _) hgrow (base := w.heap.size + 1) (fun j e => ((HRL.out) j e).1) (by omega); have gx : Sits w2 wr.heap.size (spCells (f k)) 34 := (hgrow.block wr.heap.size (by simp; omega) (fun e => by have := ((HRL.out) _ e.symm).2; omega)).trans (Sits.alloc HX.out _); have hw2 := hgrow.size)
            have B2 : Below w.heap.size w w2 := Below.grown (B := w.heap.size) (a := w) ((Below.alloc (Below.alloc HBW.out (Below.size HBW.out) _) (by have := Below.size HBW.out; simp; omega) _)) hgrow (by simp; omega) (fun j e => by have := ((HRL.out) j e).1; omega)
            have hrl2 : ∀ j, v'.ownBlock = some j → w.heap.size + 1 ≤ j := fun j e => (hown'.lt j e).1
            obtain ⟨x0, x1⟩ := cell2 gx
            simp only [World.size_alloc] at hw2
            have HG2 : Hid (Sits w2 w.heap.size (spCells T.s) 34) := g2
            clear g2 gx s0 s1 c0 c1
            go_wp2_with (at_builtin; refine wpList_append_own _ rfl _ _ 23 rfl (w.heap.size + 1) 34 i0 (.agg #[.int .i64 0, .int .i64 0]) 2 16 Tryd.underlying23 hi hz0 hz1 hz2 rfl (by decide) _ _ _ rfl (hown'.alloc _) ⟨w2.heap.size, 0, none⟩ 1 1 [Value.int .i64 (f k).fr, Value.int .i64 (f k).to] rfl rfl (cells_two_at _ _ _ _ _ (by simp)) (by simp [Value.oneCell']) (by unfold maxLen; omega) (by omega) (by simp; omega) ?_; intro v3 w3 hown3 hgrow3 _)
            go_roundw
            case rel =>
              refine ⟨k + 1, by omega, by go_num, by rw [STEP.out], by rw [STEP.out, cellsP_app, cellsP_app, List.length_append, List.length_append]; exact hown3, ?_, ?_⟩
              · rw [STEP.out]; exact sits_grown (Sits.alloc HG2.out _) hgrow3 (base := w.heap.size + 1) hrl2 (by omega)
              · exact Below.grown (B := w.heap.size) (a := w) (B2.alloc B2.size _) hgrow3 (by simp; omega) (fun j e => by have := hrl2 j e; omega)
            case measure => simp [intOf]; omega
        · have hst : T.step (f k) = { T with s := ⟨smin T.s.fr (f k).fr, smax T.s.to (f k).to⟩ } := by unfold SegS.step; rw [if_neg t0, if_neg t1]
          rw [hst] at STEP
          clear hst
          have sf := Sits.frozen HSB.out
          go_wp2_with (first | (go_at_call 28; refine (sless_any _ _ _).mono ?_; rintro e w9 ⟨rfl, hw9⟩; replace hw9 := hw9.symm; subst hw9) | (go_at_call 27; refine (smore_any _ _ _).mono ?_; rintro e w9 ⟨rfl, hw9⟩; replace hw9 := hw9.symm; subst hw9))
          go_roundw
          case rel =>
            refine ⟨k + 1, by omega, by go_num, by rw [STEP.out], by rw [STEP.out]; exact (row_far (H := w.heap.size) (row_far (H := w.heap.size) hrow (Nat.lt_succ_self _) _ _) (Nat.lt_succ_self _) _ _).alloc _, ?_, ?_⟩
            · rw [STEP.out]
              exact (Sits.set (Sits.set HSB.out 0 (.int .i64 (smin T.s.fr (f k).fr))) 1 (.int .i64 (smax T.s.to (f k).to))).alloc _
            · have b2 : Below w.heap.size w ((wr.setCell ⟨w.heap.size, 0, none⟩ (.int .i64 (smin T.s.fr (f k).fr))).setCell ⟨w.heap.size, 1, none⟩ (.int .i64 (smax T.s.to (f k).to))) := Below.setCell (Below.setCell HBW.out (Nat.le_refl _) _) (Nat.le_refl _) _
              exact b2.alloc b2.size _
          case measure => simp [intOf]; omega
    · have hlt' : ¬ (k : Int) < (n : Int) := by omega
      obtain rfl : k = n := by omega
      obtain ⟨T, hT⟩ : ∃ T, segS f k s = T := ⟨_, rfl⟩
      rw [hT] at hrow hsb hlen ⊢
      have HT : Hid (segS f k s = T) := hT
      clear hT
      obtain ⟨s0, s1⟩ := cell2 hsb
      have hls := hsb.lt
      cases hp : T.put
      case true =>
        have HALL : Hid (T.all = T.out) := by show T.all = _; unfold SegS.all; rw [hp]; rfl
        go_wp2
        go_ret
        rw [HT.out, HALL.out]
        obtain ⟨x, cap, rfl, hoi⟩ := os_of hrow
        exact ⟨x, cap, rfl, OS.mono hoi (by omega), hBW⟩
      case false =>
        have HALL : Hid (T.all = T.out ++ [T.s]) := by show T.all = _; unfold SegS.all; rw [hp]; rfl
        have hrl : ∀ j, u5.ownBlock = some j → w.heap.size + 1 ≤ j := fun j e => (hrow.lt j e).1
        go_wp2_with (at_builtin; refine wpList_append_own _ rfl _ _ 23 rfl (w.heap.size + 1) 34 i0 (.agg #[.int .i64 0, .int .i64 0]) 2 16 Tryd.underlying23 hi hz0 hz1 hz2 rfl (by decide) _ _ _ rfl (hrow.alloc _) ⟨wr.heap.size, 0, none⟩ 1 1 [Value.int .i64 T.s.fr, Value.int .i64 T.s.to] rfl rfl (cells_two_at _ _ _ _ _ (by simp)) (by simp [Value.oneCell']) (by unfold maxLen; omega) (by omega) (by simp; omega) ?_; intro v' w2 hown' hgrow _)
        go_ret
        rw [HT.out, HALL.out]
        have hoo : w2.ownsRow (w.heap.size + 1) 34 2 v' (T.out ++ [T.s]).length (cellsP (T.out ++ [T.s])) := by rw [cellsP_app, List.length_append]; exact hown'
        obtain ⟨x, cap, rfl, hoi⟩ := os_of hoo
        exact ⟨x, cap, rfl, OS.mono hoi (by omega), Below.grown (B := w.heap.size) (a := w) (hBW.alloc hBW.size _) hgrow (by simp; omega) (fun j e => by have := hrl j e; omega)⟩

end Go.Proofs.YtfghnfanimpjjaaDoor
