/-
  l11seg OF THE SPECIFICATION.
-/
import Derived.Test.YtfghnfanimpjjaaDoorSegS
import Derived.Test.YtfghnfanimpjjaaDoorQTail
import Derived.Test.YtfghnfanimpjjaaDoorDrawR0
import Derived.Deep.Cut
namespace Go.Proofs.YtfghnfanimpjjaaDoor
open Go.RowKit
set_option linter.unusedVariables false

theorem spL_getD (l : List Sp) : spL (fun i => l.getD i default) l.length = l := by
  apply List.ext_getElem?
  intro j
  by_cases h : j < l.length
  · simp [spL, h]
  · rw [List.getElem?_eq_none (by rw [spL_len]; omega), List.getElem?_eq_none (by omega)]
theorem only_grown {B H : Nat} {w w1 w2 : World} {row : Option Nat} (h : Only B w w1) (hg : w1.grownBy w2 row) (hr : ∀ k, row = some k → w.heap.size ≤ k) (hs : w.heap.size ≤ w1.heap.size) : Only B w w2 := by
  have hb : Below w.heap.size w1 w2 := (Below.refl _ w1).grown hg hs hr
  exact ⟨hb.os.trans h.os, hb.tape.trans h.tape, hb.output.trans h.output, Nat.le_trans h.size hb.size, fun k hk hn => (hb.block k hk).trans (h.block k hk hn)⟩
theorem onlyT {B : Nat} {w w' : World} (h : Below w.heap.size w w') : Only B w w' := ⟨h.os, h.tape, h.output, h.size, fun k hk _ => h.block k hk⟩

set_option maxRecDepth 100000 in
set_option maxHeartbeats 8000000 in
theorem l11seg_low (B : Nat) (nx fr to : Int) (a : Option Addr) (n c : Nat) (w : World) (hS : Sits w B (rcCells nx a n c) 25) (h : to ≤ nx) :
    Calls Tryd.prog 25 #[.pointer (some ⟨B, 0, none⟩), .int .i64 fr, .int .i64 to] w fun e w' => e = .returned (.tuple #[.int .i64 0, .bool true]) ∧ w' = w := by
  obtain ⟨q0, q1⟩ := rc_cells hS
  go_enter Tryd.func25, Tryd.ntmps25
  go_wp2
  exact bodyPost_ret (v := .tuple #[.int .i64 0, .bool true]) (by simp [results, Tryd.results25, go_sem]) rfl ⟨rfl, rfl⟩

set_option maxRecDepth 100000 in
set_option maxHeartbeats 8000000 in
theorem l11seg_high (B : Nat) (nx fr to : Int) (a : Option Addr) (n c : Nat) (f : Nat → Sp) (w : World) (hS : Sits w B (rcCells nx a n c) 25) (hP : SR w.heap.size w a n f) (hn : n ≤ 8) (h : nx < to)
    (q : Sp) (r : List Sp) (hq : (segS f n ⟨smax fr nx, to⟩).all = q :: r) (N : Int) (L : List Sp) (hNL : (q.fr = nx ∧ N = q.to ∧ L = r) ∨ (q.fr ≠ nx ∧ N = nx ∧ L = q :: r)) (b0 : 0 ≤ nx) (b1 : nx ≤ 1000000000000) (b2 : 0 ≤ N) (b3 : N ≤ 1000000000000) :
    Calls Tryd.prog 25 #[.pointer (some ⟨B, 0, none⟩), .int .i64 fr, .int .i64 to] w fun e w' => Only B w w' ∧ ((8 < L.length ∧ e = .returned (.tuple #[.int .i64 0, .bool false])) ∨ (L.length ≤ 8 ∧ e = .returned (.tuple #[.int .i64 (N - nx), .bool true]) ∧ ∃ (x : Option Addr) (cap : Nat), Sits w' B (rcCells N x L.length cap) 25 ∧ OS w.heap.size w' x cap L)) := by
  obtain ⟨q0, q1⟩ := rc_cells hS
  have HP : Hid (∀ V, Below w.heap.size w V → SR V.heap.size V a n f) := fun V h => SR.mono (SR.below hP h) h.size
  have HS : Hid (Sits w B (rcCells nx a n c) 25) := hS
  have lB := hS.lt
  have HQ : Hid ((segS f n ⟨smax fr nx, to⟩).all = q :: r) := hq
  have HNL : Hid ((q.fr = nx ∧ N = q.to ∧ L = r) ∨ (q.fr ≠ nx ∧ N = nx ∧ L = q :: r)) := hNL
  obtain ⟨M, hM⟩ : ∃ M, smax fr nx = M := ⟨_, rfl⟩
  have HM : Hid (smax fr nx = M) := hM
  clear hS hP hq hNL hM
  go_enter Tryd.func25, Tryd.ntmps25
  go_upto_region 3 with fail
  clear q0 q1
  refine wp_region_qtail 12 (C := fun w' => Below w.heap.size w w') (by kernel_rfl) (by kernel_rfl) ((Below.refl _ _).drew) ?_
  simp only [List.take_succ_cons, List.take_zero, List.drop_succ_cons, List.drop_zero]
  repeat (first
    | go_big_quiet_skip
    | (go_big_quiet_want
       unfold Oper.quiet
       apply Exists.intro
       refine ⟨fun w' hw' => ?_, ?_⟩
       (obtain ⟨q0, q1⟩ := rc_cells (Sits.below HS.out hw' lB)
        go_simp
        first
          | (go_at_call 27; refine (smore_any _ _ _).mono ?_; rintro e w8 ⟨rfl, rfl⟩; rw [HM.out]; exact ⟨rfl, hw'⟩)
          | exact rfl)
       simp only [Act.put, List.setIfInBounds_toArray, List.set_cons_zero, List.set_cons_succ]
       go_big_quiet_on))
  refine wpQuiet_nil ?_
  intro w1 hw1
  have HQ2 : Hid ((segS f n ⟨M, to⟩).all = q :: r) := by show _ = _; rw [← HM.out]; exact HQ.out
  go_upto_region 4 with (go_at_call 26; refine (l11put_any a n c f ⟨M, to⟩ _ (HP.out _ hw1) hn).mono ?_; rintro e w2 ⟨x, cap, rfl, ho, b2⟩; rw [HQ2.out] at ho ⊢)
  have B2 : Below w.heap.size w w2 := hw1.trans (b2.mono hw1.size)
  have hb1 := hw1.size
  have hle := os_le ho
  have hzs := ho.zs
  rcases hzs with hzs | ⟨g, rfl, hgb, hgl, how⟩
  · simp at hzs
  have hcs : ∀ i, i < r.length + 1 → SAt w2 g (i * 2) ((q :: r).getD i default) := fun i hi => sat_of (n := r.length + 1) (by simpa using how) hi
  have hg0 : SAt w2 g 0 q := by have := hcs 0 (by omega); simpa using this
  have MV : ∀ (V : World), V.heap[g]? = w2.heap[g]? → ∀ o p, SAt w2 g o p → SAt V g o p := fun V hV o p hp =>
    ⟨(World.cell?_of_block (w := w2) (a := ⟨g, o, none⟩) hV).trans hp.1, (World.cell?_of_block (w := w2) (a := ⟨g, o + 1, none⟩) hV).trans hp.2⟩
  have HSH : Hid (∀ V : World, V.heap[g]? = w2.heap[g]? → g < V.heap.size → SR V.heap.size V (if cap = 1 then some ⟨g, 0, none⟩ else some ⟨g, 2, none⟩) r.length (fun i => r.getD i default)) := fun V hV hl => by
    by_cases h0 : r.length = 0
    · exact .inl h0
    · rw [if_neg (by simp at hle; omega)]
      refine .inr ⟨g, 2, rfl, hl, fun i hi => ?_⟩
      have := MV V hV _ _ (hcs (i + 1) (by omega))
      rw [show (i + 1) * 2 = 2 + i * 2 by omega] at this
      simpa using this
  have HALL : Hid (∀ V : World, V.heap[g]? = w2.heap[g]? → g < V.heap.size → SR V.heap.size V (some ⟨g, 0, none⟩) (r.length + 1) (fun i => (q :: r).getD i default)) := fun V hV hl =>
    .inr ⟨g, 0, rfl, hl, fun i hi => by rw [Nat.zero_add]; exact MV V hV _ _ (hcs i hi)⟩
  have HG0 : Hid (SAt w2 g 0 q) := hg0
  have hBg : B < g := by omega
  have HS2 : Hid (Sits w2 B (rcCells nx a n c) 25) := Sits.below HS.out B2 lB
  have HB2 : Hid (Below w.heap.size w w2) := B2
  have lB2 := Sits.lt HS2.out
  clear hcs hg0 how ho HP HQ HQ2 hw1 b2 MV hgb
  obtain ⟨q0, q1⟩ := rc_cells HS2.out
  simp only [List.length_cons] at hle ⊢
  go_upto_region 5 with fail
  clear q0 q1
  rcases HNL.out with ⟨e1, e2, e3⟩ | ⟨e1, e2, e3⟩
  · have hqe : (q.fr == nx) = true := by simp [e1]
    have HE1 : Hid (q.fr = nx) := e1
    clear e1
    refine wp_region_quiet (C := fun w' => Below w2.heap.size w2 w') (by kernel_rfl) (by kernel_rfl) ((Below.refl _ _).drew) ?_
    simp only []
    repeat (first
      | go_big_quiet_skip
      | (go_big_quiet_want
         unfold Oper.quiet
         apply Exists.intro
         refine ⟨fun w' hw' => ?_, ?_⟩
         (obtain ⟨q0, q1⟩ := rc_cells (Sits.below HS2.out hw' lB2)
          obtain ⟨g0, g1⟩ := SAt.below HG0.out hw' hgl
          go_simp
          first
            | fail
            | exact rfl)
         simp only [Act.put, List.setIfInBounds_toArray, List.set_cons_zero, List.set_cons_succ]
         go_big_quiet_on))
    refine wpQuiet_nil ?_
    intro w3 hw3
    have HS3 : Hid (Sits w3 B (rcCells nx a n c) 25) := Sits.below HS2.out hw3 lB2
    obtain ⟨q0, q1⟩ := rc_cells HS3.out
    obtain ⟨g0, g1⟩ := SAt.below HG0.out hw3 hgl
    have fB := Sits.frozen HS3.out
    have hcap1 : (1 : Int) ≤ (cap : Int) := by omega
    have hlen1 : (1 : Int) ≤ (r.length : Int) + 1 := by omega
    go_upto_region 8 with fail
    obtain ⟨xa, hxa⟩ : ∃ xa, (if cap = 1 then some (⟨g, 0, none⟩ : Addr) else some ⟨g, 2, none⟩) = xa := ⟨_, rfl⟩
    rw [hxa] at HSH ⊢
    obtain ⟨W4, hW4⟩ : ∃ W, w3.setCell ⟨B, 0, none⟩ (.int .i64 q.to) = W := ⟨_, rfl⟩
    have HS4 : Hid (Sits W4 B (rcCells q.to a n c) 25) := by rw [← hW4]; exact Sits.set HS3.out 0 (.int .i64 q.to)
    have HO4 : Hid (Only B w W4) := by rw [← hW4]; exact ((onlyT HB2.out).trans (onlyT (w := w2) hw3)).set 0 _
    have hk4 : W4.heap[g]? = w2.heap[g]? := by rw [← hW4]; exact (Below.heap_setCell _ _ _ g (by show g ≠ B; omega)).trans (hw3.block g hgl)
    have hl4 : g < W4.heap.size := by rw [← hW4]; have := hw3.size; simp [World.setCell]; omega
    have HSR : Hid (SR W4.heap.size W4 xa r.length (fun i => r.getD i default)) := HSH.out W4 hk4 hl4
    have hz4 : w.heap.size ≤ W4.heap.size := (HO4.out).size
    rw [hW4]
    clear hW4 hxa q0 q1 g0 g1 fB HSH HALL HS3
    obtain ⟨q0, q1⟩ := rc_cells HS4.out
    have fB := Sits.frozen HS4.out
    subst e3 e2
    by_cases hL : (8 : Int) < (L.length : Int)
    · go_wp2
      refine bodyPost_ret (v := .tuple #[.int .i64 0, .bool false]) (by simp [results, Tryd.results25, go_sem]) rfl ⟨HO4.out, .inl ⟨by omega, rfl⟩⟩
    · have hL' : ¬ (8 : Int) < (L.length : Int) := hL
      go_wp2_with (at_builtin; refine wpList_append_sp rfl _ _ rfl W4.heap.size (some ⟨W4.heap.size, 0, none⟩) 0 [] 0 rfl rfl (sp_empty_new _ _ _ rfl (Nat.le_refl _)) xa _ _ (fun i => L.getD i default) rfl (SR.mono (SR.below HSR.out ((Below.refl _ W4).alloc (Nat.le_refl _) _)) (by simp)) (by omega) (by omega) (by simp) ?_; intro x' cap' w5 hoo hgr; have s5 := sits_grown (Sits.alloc HS4.out _) hgr (base := W4.heap.size) (fun j e => by simp [Value.ownBlock] at e; omega) (Sits.lt HS4.out); have o5 : Only B w w5 := only_grown (H := 0) (Only.alloc HO4.out _) hgr (fun j e => by simp [Value.ownBlock] at e; omega) (by simp; omega); clear q0 q1 fB; obtain ⟨q0, q1⟩ := rc_cells s5; have fB := Sits.frozen s5; have H5 : Hid (Sits w5 B (rcCells q.to a n c) 25) := s5; have O5 : Hid (Only B w w5) := o5; have HOO : Hid _ := hoo; clear s5 o5 hoo)
      refine bodyPost_ret (v := .tuple #[.int .i64 (q.to - nx), .bool true]) (by simp [results, Tryd.results25, go_sem]) rfl ⟨(O5.out).set 1 _, .inr ⟨by omega, rfl, x', cap', Sits.set H5.out 1 _, ?_⟩⟩
      have h6 : OS W4.heap.size w5 x' cap' L := by have := HOO.out; rw [List.nil_append, spL_getD] at this; exact this
      exact OS.mono (OS.far h6 (Sits.lt HS4.out) _ _) hz4
  · have hqe : (q.fr == nx) = false := by simp [e1]
    have HE1 : Hid (q.fr ≠ nx) := e1
    clear e1
    refine wp_region_quiet (C := fun w' => Below w2.heap.size w2 w') (by kernel_rfl) (by kernel_rfl) ((Below.refl _ _).drew) ?_
    simp only []
    repeat (first
      | go_big_quiet_skip
      | (go_big_quiet_want
         unfold Oper.quiet
         apply Exists.intro
         refine ⟨fun w' hw' => ?_, ?_⟩
         (obtain ⟨q0, q1⟩ := rc_cells (Sits.below HS2.out hw' lB2)
          obtain ⟨g0, g1⟩ := SAt.below HG0.out hw' hgl
          go_simp
          first
            | fail
            | exact rfl)
         simp only [Act.put, List.setIfInBounds_toArray, List.set_cons_zero, List.set_cons_succ]
         go_big_quiet_on))
    refine wpQuiet_nil ?_
    intro w3 hw3
    have HS4 : Hid (Sits w3 B (rcCells nx a n c) 25) := Sits.below HS2.out hw3 lB2
    have HO4 : Hid (Only B w w3) := (onlyT HB2.out).trans (onlyT (w := w2) hw3)
    have hk4 : w3.heap[g]? = w2.heap[g]? := hw3.block g hgl
    have hl4 : g < w3.heap.size := by have := hw3.size; omega
    have HSR : Hid (SR w3.heap.size w3 (some ⟨g, 0, none⟩) (r.length + 1) (fun i => (q :: r).getD i default)) := HALL.out w3 hk4 hl4
    have hz4 : w.heap.size ≤ w3.heap.size := (HO4.out).size
    obtain ⟨W4, hW4⟩ : ∃ W, w3 = W := ⟨_, rfl⟩
    subst hW4
    clear HSH HALL
    obtain ⟨q0, q1⟩ := rc_cells HS4.out
    have fB := Sits.frozen HS4.out
    have e2' := e2.symm
    clear e2
    subst e3 e2'
    by_cases hL : (8 : Int) < ((r.length : Int) + 1)
    · go_wp2
      refine bodyPost_ret (v := .tuple #[.int .i64 0, .bool false]) (by simp [results, Tryd.results25, go_sem]) rfl ⟨HO4.out, .inl ⟨by first | omega | (simp; omega), rfl⟩⟩
    · have hL' : ¬ (8 : Int) < ((r.length : Int) + 1) := hL
      go_wp2_with (at_builtin; refine wpList_append_sp rfl _ _ rfl w3.heap.size (some ⟨w3.heap.size, 0, none⟩) 0 [] 0 rfl rfl (sp_empty_new _ _ _ rfl (Nat.le_refl _)) (some ⟨g, 0, none⟩) (r.length + 1) cap (fun i => (q :: r).getD i default) rfl (SR.mono (SR.below HSR.out ((Below.refl _ w3).alloc (Nat.le_refl _) _)) (by simp)) (by omega) (by omega) (by simp) ?_; intro x' cap' w5 hoo hgr; have s5 := sits_grown (Sits.alloc HS4.out _) hgr (base := w3.heap.size) (fun j e => by simp [Value.ownBlock] at e; omega) (Sits.lt HS4.out); have o5 : Only B w w5 := only_grown (H := 0) (Only.alloc HO4.out _) hgr (fun j e => by simp [Value.ownBlock] at e; omega) (by simp; omega); clear q0 q1 fB; obtain ⟨q0, q1⟩ := rc_cells s5; have fB := Sits.frozen s5; have H5 : Hid (Sits w5 B (rcCells nx a n c) 25) := s5; have O5 : Hid (Only B w w5) := o5; have HOO : Hid _ := hoo; clear s5 o5 hoo)
      refine bodyPost_ret (v := .tuple #[.int .i64 0, .bool true]) (by simp [results, Tryd.results25, go_sem]) rfl ⟨(O5.out).set 1 _, .inr ⟨by first | omega | (simp; omega), by first | rfl | simp, x', cap', Sits.set H5.out 1 _, ?_⟩⟩
      have h6 : OS w3.heap.size w5 x' cap' (q :: r) := by have := HOO.out; rw [List.nil_append, show r.length + 1 = (q :: r).length from rfl, spL_getD] at this; exact this
      exact OS.mono (OS.far h6 (Sits.lt HS4.out) _ _) hz4

end Go.Proofs.YtfghnfanimpjjaaDoor
