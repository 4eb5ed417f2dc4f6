/-
  WHICH SHAPES ARE WELL, AS THE SPECIFICATION SAYS: ShapeOk.
-/
import Derived.Test.YtmjggolllijamaaShapeB
import Derived.Test.YtmjggolllijamaaFairS
namespace Go.Proofs.Ytmjggolllijamaa
open Go.RowKit
set_option linter.unusedVariables false

/-- ShapeOk's last part: the lines one by one. -/
def hlsP (L : Nat → Ln) (ts : List Int) (k : Nat) : Prop := ∀ i : Nat, i < k → hlnP (i : Int) (L i) ∧ ((L i).n ≠ 0 ↔ (i : Int) ∈ ts)
def under4 (f : Nat → Int) (k : Nat) : Prop := ∀ i, i < k → f i < 4

set_option maxRecDepth 100000 in
set_option maxHeartbeats 8000000 in
theorem sshapeOk_any (s : Sh) (a : Option Addr) (N ca : Nat) (b : Option Addr) (n c : Nat) (L : Nat → Ln) (tn : Nat → Int) (w : World)
    (hN : N ≤ 1048576) (hcn : cntF L N ≤ 1048576) (hnn : n ≤ 1048576) (hP : LR w.heap.size w a N L) (hb : Row .i64 w b n tn) :
    Calls Try.prog 16 #[shVal s a N ca b n c] w fun e w' => e = .returned (.bool (shB s N L ((List.range n).map tn))) ∧ Below w.heap.size w w' := by
  obtain ⟨rt, ov, nx, qt, lim⟩ := s
  have HP : Hid (LR w.heap.size w a N L) := hP
  have HRB : Hid (Row .i64 w b n tn) := hb
  have HN : Hid (N ≤ 1048576) := hN
  have HCN : Hid (cntF L N ≤ 1048576) := hcn
  have HNN : Hid (n ≤ 1048576) := hnn
  have hNi : (N : Int) ≤ 1048576 := by omega
  have hni : (n : Int) ≤ 1048576 := by omega
  clear hP hb hN hcn hnn
  have HHB : Hid (∀ v, hasB tn n v = decide (v ∈ (List.range n).map tn)) := fun v => rfl
  have HTS : Hid (∀ k, k < n → tn k ∈ (List.range n).map tn) := fun k hk => List.mem_map.2 ⟨k, by simpa using hk, rfl⟩
  have HTM : Hid (∀ v, v ∈ (List.range n).map tn → ∃ k, k < n ∧ tn k = v) := fun v hv => by obtain ⟨k, hk, e⟩ := List.mem_map.1 hv; exact ⟨k, by simpa using hk, e⟩
  have HLS : Hid (lst n tn 0 (fun _ => 0) = (List.range n).map tn) := by show _ = _; simp [lst]
  obtain ⟨ts, hts⟩ : ∃ l, (List.range n).map tn = l := ⟨_, rfl⟩
  rw [hts] at HHB HTS HTM HLS ⊢
  clear hts
  have s0 := Sits.new w (shCells ⟨rt, ov, nx, qt, lim⟩ a N ca b n c) 29
  have b0 : Below w.heap.size w (w.alloc (.cells (shCells ⟨rt, ov, nx, qt, lim⟩ a N ca b n c) 29)) := (Below.refl _ w).alloc (Nat.le_refl _) _
  obtain ⟨W0, hW0⟩ : ∃ W, w.alloc (.cells (shCells ⟨rt, ov, nx, qt, lim⟩ a N ca b n c) 29) = W := ⟨_, rfl⟩
  rw [hW0] at s0 b0
  have HW0 : Hid (w.alloc (.cells (shCells ⟨rt, ov, nx, qt, lim⟩ a N ca b n c) 29) = W0) := hW0
  have HS0 : Hid (Sits _ _ _ _) := s0
  have HB0 : Hid (Below _ _ _) := b0
  clear s0 b0 hW0
  go_enter Try.func16, Try.ntmps16
  go_upto_region 1 with fail
  rw [HW0.out]
  clear HW0
  have x0 := Sits.cell HS0.out 0
  have x1 := Sits.cell HS0.out 1
  have x2 := Sits.cell HS0.out 2
  have x3 := Sits.cell HS0.out 3
  have x4 := Sits.cell HS0.out 4
  have x5 := Sits.cell HS0.out 5
  have x6 := Sits.cell HS0.out 6
  have l0 := Sits.lt HS0.out
  have HBB : Hid (∀ w', Below W0.heap.size W0 w' → Below w.heap.size w w') := fun w' hw' => (HB0.out).trans (hw'.mono (HB0.out).size)
  by_cases t0 : rt < 1000
  · have t0' : decide (rt < 1000) = true := by simpa using t0
    have HE : Hid (false = shB ⟨rt, ov, nx, qt, lim⟩ N L ts) := sh_no (fun h => by have := h.1; unfold numP at this; dsimp only at this; omega)
    refine wp_region_quiet (C := fun w' => Below W0.heap.size W0 w') (by kernel_rfl) (by kernel_rfl) ((Below.refl _ _).drew) ?_
    simp only [List.append_eq, List.cons_append, List.nil_append]
    repeat (first
      | go_big_quiet_skip
      | (go_big_quiet_want
         unfold Oper.quiet
         apply Exists.intro
         refine ⟨fun w' hw' => ?_, ?_⟩
         (have z0 := (hw'.cell (p := ⟨w.heap.size, 0, none⟩) (by show w.heap.size < _; omega)).trans x0
          have z1 := (hw'.cell (p := ⟨w.heap.size, 1, none⟩) (by show w.heap.size < _; omega)).trans x1
          have z2 := (hw'.cell (p := ⟨w.heap.size, 2, none⟩) (by show w.heap.size < _; omega)).trans x2
          have z3 := (hw'.cell (p := ⟨w.heap.size, 3, none⟩) (by show w.heap.size < _; omega)).trans x3
          have z4 := (hw'.cell (p := ⟨w.heap.size, 4, none⟩) (by show w.heap.size < _; omega)).trans x4
          have z5 := (hw'.cell (p := ⟨w.heap.size, 5, none⟩) (by show w.heap.size < _; omega)).trans x5
          have z6 := (hw'.cell (p := ⟨w.heap.size, 6, none⟩) (by show w.heap.size < _; omega)).trans x6
          go_simp
          first
            | exact rfl)
         simp only [Act.put, List.setIfInBounds_toArray, List.set_cons_zero, List.set_cons_succ]
         go_big_quiet_on))
    refine wpQuiet_nil ?_
    intro w2 hw2
    go_wp2
    go_ret
    exact ⟨ret_bool HE.out, HBB.out _ hw2⟩
  have t0' : decide (rt < 1000) = false := by simpa using t0
  by_cases t1 : 1000000000000 < rt
  · have t1' : decide (1000000000000 < rt) = true := by simpa using t1
    have HE : Hid (false = shB ⟨rt, ov, nx, qt, lim⟩ N L ts) := sh_no (fun h => by have := h.1; unfold numP at this; dsimp only at this; omega)
    refine wp_region_quiet (C := fun w' => Below W0.heap.size W0 w') (by kernel_rfl) (by kernel_rfl) ((Below.refl _ _).drew) ?_
    simp only [List.append_eq, List.cons_append, List.nil_append]
    repeat (first
      | go_big_quiet_skip
      | (go_big_quiet_want
         unfold Oper.quiet
         apply Exists.intro
         refine ⟨fun w' hw' => ?_, ?_⟩
         (have z0 := (hw'.cell (p := ⟨w.heap.size, 0, none⟩) (by show w.heap.size < _; omega)).trans x0
          have z1 := (hw'.cell (p := ⟨w.heap.size, 1, none⟩) (by show w.heap.size < _; omega)).trans x1
          have z2 := (hw'.cell (p := ⟨w.heap.size, 2, none⟩) (by show w.heap.size < _; omega)).trans x2
          have z3 := (hw'.cell (p := ⟨w.heap.size, 3, none⟩) (by show w.heap.size < _; omega)).trans x3
          have z4 := (hw'.cell (p := ⟨w.heap.size, 4, none⟩) (by show w.heap.size < _; omega)).trans x4
          have z5 := (hw'.cell (p := ⟨w.heap.size, 5, none⟩) (by show w.heap.size < _; omega)).trans x5
          have z6 := (hw'.cell (p := ⟨w.heap.size, 6, none⟩) (by show w.heap.size < _; omega)).trans x6
          go_simp
          first
            | exact rfl)
         simp only [Act.put, List.setIfInBounds_toArray, List.set_cons_zero, List.set_cons_succ]
         go_big_quiet_on))
    refine wpQuiet_nil ?_
    intro w2 hw2
    go_wp2
    go_ret
    exact ⟨ret_bool HE.out, HBB.out _ hw2⟩
  have t1' : decide (1000000000000 < rt) = false := by simpa using t1
  by_cases t2 : ov < 0
  · have t2' : decide (ov < 0) = true := by simpa using t2
    have HE : Hid (false = shB ⟨rt, ov, nx, qt, lim⟩ N L ts) := sh_no (fun h => by have := h.1; unfold numP at this; dsimp only at this; omega)
    refine wp_region_quiet (C := fun w' => Below W0.heap.size W0 w') (by kernel_rfl) (by kernel_rfl) ((Below.refl _ _).drew) ?_
    simp only [List.append_eq, List.cons_append, List.nil_append]
    repeat (first
      | go_big_quiet_skip
      | (go_big_quiet_want
         unfold Oper.quiet
         apply Exists.intro
         refine ⟨fun w' hw' => ?_, ?_⟩
         (have z0 := (hw'.cell (p := ⟨w.heap.size, 0, none⟩) (by show w.heap.size < _; omega)).trans x0
          have z1 := (hw'.cell (p := ⟨w.heap.size, 1, none⟩) (by show w.heap.size < _; omega)).trans x1
          have z2 := (hw'.cell (p := ⟨w.heap.size, 2, none⟩) (by show w.heap.size < _; omega)).trans x2
          have z3 := (hw'.cell (p := ⟨w.heap.size, 3, none⟩) (by show w.heap.size < _; omega)).trans x3
          have z4 := (hw'.cell (p := ⟨w.heap.size, 4, none⟩) (by show w.heap.size < _; omega)).trans x4
          have z5 := (hw'.cell (p := ⟨w.heap.size, 5, none⟩) (by show w.heap.size < _; omega)).trans x5
          have z6 := (hw'.cell (p := ⟨w.heap.size, 6, none⟩) (by show w.heap.size < _; omega)).trans x6
          go_simp
          first
            | exact rfl)
         simp only [Act.put, List.setIfInBounds_toArray, List.set_cons_zero, List.set_cons_succ]
         go_big_quiet_on))
    refine wpQuiet_nil ?_
    intro w2 hw2
    go_wp2
    go_ret
    exact ⟨ret_bool HE.out, HBB.out _ hw2⟩
  have t2' : decide (ov < 0) = false := by simpa using t2
  by_cases t3 : 200 < ov
  · have t3' : decide (200 < ov) = true := by simpa using t3
    have HE : Hid (false = shB ⟨rt, ov, nx, qt, lim⟩ N L ts) := sh_no (fun h => by have := h.1; unfold numP at this; dsimp only at this; omega)
    refine wp_region_quiet (C := fun w' => Below W0.heap.size W0 w') (by kernel_rfl) (by kernel_rfl) ((Below.refl _ _).drew) ?_
    simp only [List.append_eq, List.cons_append, List.nil_append]
    repeat (first
      | go_big_quiet_skip
      | (go_big_quiet_want
         unfold Oper.quiet
         apply Exists.intro
         refine ⟨fun w' hw' => ?_, ?_⟩
         (have z0 := (hw'.cell (p := ⟨w.heap.size, 0, none⟩) (by show w.heap.size < _; omega)).trans x0
          have z1 := (hw'.cell (p := ⟨w.heap.size, 1, none⟩) (by show w.heap.size < _; omega)).trans x1
          have z2 := (hw'.cell (p := ⟨w.heap.size, 2, none⟩) (by show w.heap.size < _; omega)).trans x2
          have z3 := (hw'.cell (p := ⟨w.heap.size, 3, none⟩) (by show w.heap.size < _; omega)).trans x3
          have z4 := (hw'.cell (p := ⟨w.heap.size, 4, none⟩) (by show w.heap.size < _; omega)).trans x4
          have z5 := (hw'.cell (p := ⟨w.heap.size, 5, none⟩) (by show w.heap.size < _; omega)).trans x5
          have z6 := (hw'.cell (p := ⟨w.heap.size, 6, none⟩) (by show w.heap.size < _; omega)).trans x6
          go_simp
          first
            | exact rfl)
         simp only [Act.put, List.setIfInBounds_toArray, List.set_cons_zero, List.set_cons_succ]
         go_big_quiet_on))
    refine wpQuiet_nil ?_
    intro w2 hw2
    go_wp2
    go_ret
    exact ⟨ret_bool HE.out, HBB.out _ hw2⟩
  have t3' : decide (200 < ov) = false := by simpa using t3
  by_cases t4 : nx < 0
  · have t4' : decide (nx < 0) = true := by simpa using t4
    have HE : Hid (false = shB ⟨rt, ov, nx, qt, lim⟩ N L ts) := sh_no (fun h => by have := h.1; unfold numP at this; dsimp only at this; omega)
    refine wp_region_quiet (C := fun w' => Below W0.heap.size W0 w') (by kernel_rfl) (by kernel_rfl) ((Below.refl _ _).drew) ?_
    simp only [List.append_eq, List.cons_append, List.nil_append]
    repeat (first
      | go_big_quiet_skip
      | (go_big_quiet_want
         unfold Oper.quiet
         apply Exists.intro
         refine ⟨fun w' hw' => ?_, ?_⟩
         (have z0 := (hw'.cell (p := ⟨w.heap.size, 0, none⟩) (by show w.heap.size < _; omega)).trans x0
          have z1 := (hw'.cell (p := ⟨w.heap.size, 1, none⟩) (by show w.heap.size < _; omega)).trans x1
          have z2 := (hw'.cell (p := ⟨w.heap.size, 2, none⟩) (by show w.heap.size < _; omega)).trans x2
          have z3 := (hw'.cell (p := ⟨w.heap.size, 3, none⟩) (by show w.heap.size < _; omega)).trans x3
          have z4 := (hw'.cell (p := ⟨w.heap.size, 4, none⟩) (by show w.heap.size < _; omega)).trans x4
          have z5 := (hw'.cell (p := ⟨w.heap.size, 5, none⟩) (by show w.heap.size < _; omega)).trans x5
          have z6 := (hw'.cell (p := ⟨w.heap.size, 6, none⟩) (by show w.heap.size < _; omega)).trans x6
          go_simp
          first
            | exact rfl)
         simp only [Act.put, List.setIfInBounds_toArray, List.set_cons_zero, List.set_cons_succ]
         go_big_quiet_on))
    refine wpQuiet_nil ?_
    intro w2 hw2
    go_wp2
    go_ret
    exact ⟨ret_bool HE.out, HBB.out _ hw2⟩
  have t4' : decide (nx < 0) = false := by simpa using t4
  by_cases t5 : 4000000000000 < nx
  · have t5' : decide (4000000000000 < nx) = true := by simpa using t5
    have HE : Hid (false = shB ⟨rt, ov, nx, qt, lim⟩ N L ts) := sh_no (fun h => by have := h.1; unfold numP at this; dsimp only at this; omega)
    refine wp_region_quiet (C := fun w' => Below W0.heap.size W0 w') (by kernel_rfl) (by kernel_rfl) ((Below.refl _ _).drew) ?_
    simp only [List.append_eq, List.cons_append, List.nil_append]
    repeat (first
      | go_big_quiet_skip
      | (go_big_quiet_want
         unfold Oper.quiet
         apply Exists.intro
         refine ⟨fun w' hw' => ?_, ?_⟩
         (have z0 := (hw'.cell (p := ⟨w.heap.size, 0, none⟩) (by show w.heap.size < _; omega)).trans x0
          have z1 := (hw'.cell (p := ⟨w.heap.size, 1, none⟩) (by show w.heap.size < _; omega)).trans x1
          have z2 := (hw'.cell (p := ⟨w.heap.size, 2, none⟩) (by show w.heap.size < _; omega)).trans x2
          have z3 := (hw'.cell (p := ⟨w.heap.size, 3, none⟩) (by show w.heap.size < _; omega)).trans x3
          have z4 := (hw'.cell (p := ⟨w.heap.size, 4, none⟩) (by show w.heap.size < _; omega)).trans x4
          have z5 := (hw'.cell (p := ⟨w.heap.size, 5, none⟩) (by show w.heap.size < _; omega)).trans x5
          have z6 := (hw'.cell (p := ⟨w.heap.size, 6, none⟩) (by show w.heap.size < _; omega)).trans x6
          go_simp
          first
            | exact rfl)
         simp only [Act.put, List.setIfInBounds_toArray, List.set_cons_zero, List.set_cons_succ]
         go_big_quiet_on))
    refine wpQuiet_nil ?_
    intro w2 hw2
    go_wp2
    go_ret
    exact ⟨ret_bool HE.out, HBB.out _ hw2⟩
  have t5' : decide (4000000000000 < nx) = false := by simpa using t5
  by_cases t6 : qt < 1
  · have t6' : decide (qt < 1) = true := by simpa using t6
    have HE : Hid (false = shB ⟨rt, ov, nx, qt, lim⟩ N L ts) := sh_no (fun h => by have := h.1; unfold numP at this; dsimp only at this; omega)
    refine wp_region_quiet (C := fun w' => Below W0.heap.size W0 w') (by kernel_rfl) (by kernel_rfl) ((Below.refl _ _).drew) ?_
    simp only [List.append_eq, List.cons_append, List.nil_append]
    repeat (first
      | go_big_quiet_skip
      | (go_big_quiet_want
         unfold Oper.quiet
         apply Exists.intro
         refine ⟨fun w' hw' => ?_, ?_⟩
         (have z0 := (hw'.cell (p := ⟨w.heap.size, 0, none⟩) (by show w.heap.size < _; omega)).trans x0
          have z1 := (hw'.cell (p := ⟨w.heap.size, 1, none⟩) (by show w.heap.size < _; omega)).trans x1
          have z2 := (hw'.cell (p := ⟨w.heap.size, 2, none⟩) (by show w.heap.size < _; omega)).trans x2
          have z3 := (hw'.cell (p := ⟨w.heap.size, 3, none⟩) (by show w.heap.size < _; omega)).trans x3
          have z4 := (hw'.cell (p := ⟨w.heap.size, 4, none⟩) (by show w.heap.size < _; omega)).trans x4
          have z5 := (hw'.cell (p := ⟨w.heap.size, 5, none⟩) (by show w.heap.size < _; omega)).trans x5
          have z6 := (hw'.cell (p := ⟨w.heap.size, 6, none⟩) (by show w.heap.size < _; omega)).trans x6
          go_simp
          first
            | exact rfl)
         simp only [Act.put, List.setIfInBounds_toArray, List.set_cons_zero, List.set_cons_succ]
         go_big_quiet_on))
    refine wpQuiet_nil ?_
    intro w2 hw2
    go_wp2
    go_ret
    exact ⟨ret_bool HE.out, HBB.out _ hw2⟩
  have t6' : decide (qt < 1) = false := by simpa using t6
  by_cases t7 : 10000 < qt
  · have t7' : decide (10000 < qt) = true := by simpa using t7
    have HE : Hid (false = shB ⟨rt, ov, nx, qt, lim⟩ N L ts) := sh_no (fun h => by have := h.1; unfold numP at this; dsimp only at this; omega)
    refine wp_region_quiet (C := fun w' => Below W0.heap.size W0 w') (by kernel_rfl) (by kernel_rfl) ((Below.refl _ _).drew) ?_
    simp only [List.append_eq, List.cons_append, List.nil_append]
    repeat (first
      | go_big_quiet_skip
      | (go_big_quiet_want
         unfold Oper.quiet
         apply Exists.intro
         refine ⟨fun w' hw' => ?_, ?_⟩
         (have z0 := (hw'.cell (p := ⟨w.heap.size, 0, none⟩) (by show w.heap.size < _; omega)).trans x0
          have z1 := (hw'.cell (p := ⟨w.heap.size, 1, none⟩) (by show w.heap.size < _; omega)).trans x1
          have z2 := (hw'.cell (p := ⟨w.heap.size, 2, none⟩) (by show w.heap.size < _; omega)).trans x2
          have z3 := (hw'.cell (p := ⟨w.heap.size, 3, none⟩) (by show w.heap.size < _; omega)).trans x3
          have z4 := (hw'.cell (p := ⟨w.heap.size, 4, none⟩) (by show w.heap.size < _; omega)).trans x4
          have z5 := (hw'.cell (p := ⟨w.heap.size, 5, none⟩) (by show w.heap.size < _; omega)).trans x5
          have z6 := (hw'.cell (p := ⟨w.heap.size, 6, none⟩) (by show w.heap.size < _; omega)).trans x6
          go_simp
          first
            | exact rfl)
         simp only [Act.put, List.setIfInBounds_toArray, List.set_cons_zero, List.set_cons_succ]
         go_big_quiet_on))
    refine wpQuiet_nil ?_
    intro w2 hw2
    go_wp2
    go_ret
    exact ⟨ret_bool HE.out, HBB.out _ hw2⟩
  have t7' : decide (10000 < qt) = false := by simpa using t7
  by_cases t8 : lim < 1
  · have t8' : decide (lim < 1) = true := by simpa using t8
    have HE : Hid (false = shB ⟨rt, ov, nx, qt, lim⟩ N L ts) := sh_no (fun h => by have := h.1; unfold numP at this; dsimp only at this; omega)
    refine wp_region_quiet (C := fun w' => Below W0.heap.size W0 w') (by kernel_rfl) (by kernel_rfl) ((Below.refl _ _).drew) ?_
    simp only [List.append_eq, List.cons_append, List.nil_append]
    repeat (first
      | go_big_quiet_skip
      | (go_big_quiet_want
         unfold Oper.quiet
         apply Exists.intro
         refine ⟨fun w' hw' => ?_, ?_⟩
         (have z0 := (hw'.cell (p := ⟨w.heap.size, 0, none⟩) (by show w.heap.size < _; omega)).trans x0
          have z1 := (hw'.cell (p := ⟨w.heap.size, 1, none⟩) (by show w.heap.size < _; omega)).trans x1
          have z2 := (hw'.cell (p := ⟨w.heap.size, 2, none⟩) (by show w.heap.size < _; omega)).trans x2
          have z3 := (hw'.cell (p := ⟨w.heap.size, 3, none⟩) (by show w.heap.size < _; omega)).trans x3
          have z4 := (hw'.cell (p := ⟨w.heap.size, 4, none⟩) (by show w.heap.size < _; omega)).trans x4
          have z5 := (hw'.cell (p := ⟨w.heap.size, 5, none⟩) (by show w.heap.size < _; omega)).trans x5
          have z6 := (hw'.cell (p := ⟨w.heap.size, 6, none⟩) (by show w.heap.size < _; omega)).trans x6
          go_simp
          first
            | exact rfl)
         simp only [Act.put, List.setIfInBounds_toArray, List.set_cons_zero, List.set_cons_succ]
         go_big_quiet_on))
    refine wpQuiet_nil ?_
    intro w2 hw2
    go_wp2
    go_ret
    exact ⟨ret_bool HE.out, HBB.out _ hw2⟩
  have t8' : decide (lim < 1) = false := by simpa using t8
  by_cases t9 : 40 < lim
  · have t9' : decide (40 < lim) = true := by simpa using t9
    have HE : Hid (false = shB ⟨rt, ov, nx, qt, lim⟩ N L ts) := sh_no (fun h => by have := h.1; unfold numP at this; dsimp only at this; omega)
    refine wp_region_quiet (C := fun w' => Below W0.heap.size W0 w') (by kernel_rfl) (by kernel_rfl) ((Below.refl _ _).drew) ?_
    simp only [List.append_eq, List.cons_append, List.nil_append]
    repeat (first
      | go_big_quiet_skip
      | (go_big_quiet_want
         unfold Oper.quiet
         apply Exists.intro
         refine ⟨fun w' hw' => ?_, ?_⟩
         (have z0 := (hw'.cell (p := ⟨w.heap.size, 0, none⟩) (by show w.heap.size < _; omega)).trans x0
          have z1 := (hw'.cell (p := ⟨w.heap.size, 1, none⟩) (by show w.heap.size < _; omega)).trans x1
          have z2 := (hw'.cell (p := ⟨w.heap.size, 2, none⟩) (by show w.heap.size < _; omega)).trans x2
          have z3 := (hw'.cell (p := ⟨w.heap.size, 3, none⟩) (by show w.heap.size < _; omega)).trans x3
          have z4 := (hw'.cell (p := ⟨w.heap.size, 4, none⟩) (by show w.heap.size < _; omega)).trans x4
          have z5 := (hw'.cell (p := ⟨w.heap.size, 5, none⟩) (by show w.heap.size < _; omega)).trans x5
          have z6 := (hw'.cell (p := ⟨w.heap.size, 6, none⟩) (by show w.heap.size < _; omega)).trans x6
          go_simp
          first
            | exact rfl)
         simp only [Act.put, List.setIfInBounds_toArray, List.set_cons_zero, List.set_cons_succ]
         go_big_quiet_on))
    refine wpQuiet_nil ?_
    intro w2 hw2
    go_wp2
    go_ret
    exact ⟨ret_bool HE.out, HBB.out _ hw2⟩
  have t9' : decide (40 < lim) = false := by simpa using t9
  have HNUM : Hid (numP ⟨rt, ov, nx, qt, lim⟩) := (show numP ⟨rt, ov, nx, qt, lim⟩ by unfold numP; dsimp only; omega)
  by_cases t10 : N = 4
  case neg =>
    have t10' : ((N : Int) != 4) = true := by simp; omega
    have HE : Hid (false = shB ⟨rt, ov, nx, qt, lim⟩ N L ts) := sh_no (fun h => by exact t10 h.2.1)
    refine wp_region_quiet (C := fun w' => Below W0.heap.size W0 w') (by kernel_rfl) (by kernel_rfl) ((Below.refl _ _).drew) ?_
    simp only [List.append_eq, List.cons_append, List.nil_append]
    repeat (first
      | go_big_quiet_skip
      | (go_big_quiet_want
         unfold Oper.quiet
         apply Exists.intro
         refine ⟨fun w' hw' => ?_, ?_⟩
         (have z0 := (hw'.cell (p := ⟨w.heap.size, 0, none⟩) (by show w.heap.size < _; omega)).trans x0
          have z1 := (hw'.cell (p := ⟨w.heap.size, 1, none⟩) (by show w.heap.size < _; omega)).trans x1
          have z2 := (hw'.cell (p := ⟨w.heap.size, 2, none⟩) (by show w.heap.size < _; omega)).trans x2
          have z3 := (hw'.cell (p := ⟨w.heap.size, 3, none⟩) (by show w.heap.size < _; omega)).trans x3
          have z4 := (hw'.cell (p := ⟨w.heap.size, 4, none⟩) (by show w.heap.size < _; omega)).trans x4
          have z5 := (hw'.cell (p := ⟨w.heap.size, 5, none⟩) (by show w.heap.size < _; omega)).trans x5
          have z6 := (hw'.cell (p := ⟨w.heap.size, 6, none⟩) (by show w.heap.size < _; omega)).trans x6
          go_simp
          first
            | exact rfl)
         simp only [Act.put, List.setIfInBounds_toArray, List.set_cons_zero, List.set_cons_succ]
         go_big_quiet_on))
    refine wpQuiet_nil ?_
    intro w2 hw2
    go_wp2
    go_ret
    exact ⟨ret_bool HE.out, HBB.out _ hw2⟩
  case pos =>
  subst t10
  by_cases t11 : lim < (cntF L 4 : Int)
  · have t11' : decide (lim < (cntF L 4 : Int)) = true := by simpa using t11
    have HE : Hid (false = shB ⟨rt, ov, nx, qt, lim⟩ 4 L ts) := sh_no (fun h => by have := h.2.2.1; dsimp only at this; omega)
    refine wp_region_quiet (C := fun w' => Below W0.heap.size W0 w') (by kernel_rfl) (by kernel_rfl) ((Below.refl _ _).drew) ?_
    simp only [List.append_eq, List.cons_append, List.nil_append]
    repeat (first
      | go_big_quiet_skip
      | (go_big_quiet_want
         unfold Oper.quiet
         apply Exists.intro
         refine ⟨fun w' hw' => ?_, ?_⟩
         (have z0 := (hw'.cell (p := ⟨w.heap.size, 0, none⟩) (by show w.heap.size < _; omega)).trans x0
          have z1 := (hw'.cell (p := ⟨w.heap.size, 1, none⟩) (by show w.heap.size < _; omega)).trans x1
          have z2 := (hw'.cell (p := ⟨w.heap.size, 2, none⟩) (by show w.heap.size < _; omega)).trans x2
          have z3 := (hw'.cell (p := ⟨w.heap.size, 3, none⟩) (by show w.heap.size < _; omega)).trans x3
          have z4 := (hw'.cell (p := ⟨w.heap.size, 4, none⟩) (by show w.heap.size < _; omega)).trans x4
          have z5 := (hw'.cell (p := ⟨w.heap.size, 5, none⟩) (by show w.heap.size < _; omega)).trans x5
          have z6 := (hw'.cell (p := ⟨w.heap.size, 6, none⟩) (by show w.heap.size < _; omega)).trans x6
          go_simp
          first
            | (go_at_call 52; refine (l8count_any ⟨rt, ov, nx, qt, lim⟩ a 4 ca b n c L _ HN.out HCN.out (LR.go HP.out (HBB.out _ hw') (HBB.out _ hw').size)).mono ?_; rintro e w1 ⟨rfl, hb1⟩; exact ⟨rfl, hw'.trans (hb1.mono hw'.size)⟩)
            | exact rfl)
         simp only [Act.put, List.setIfInBounds_toArray, List.set_cons_zero, List.set_cons_succ]
         go_big_quiet_on))
    refine wpQuiet_nil ?_
    intro w2 hw2
    go_wp2
    go_ret
    exact ⟨ret_bool HE.out, HBB.out _ hw2⟩
  have t11' : decide (lim < (cntF L 4 : Int)) = false := by simpa using t11
  cases t12 : okB ts
  case false =>
    have HO : Hid (okB ts = false) := t12
    clear t12
    have HE : Hid (false = shB ⟨rt, ov, nx, qt, lim⟩ 4 L ts) := sh_no (fun h => by have := (turn_iff.1 h.2.2.2.1).1; have h2 := HO.out; unfold okB at h2; simp [this] at h2)
    refine wp_region_quiet (C := fun w' => Below W0.heap.size W0 w') (by kernel_rfl) (by kernel_rfl) ((Below.refl _ _).drew) ?_
    simp only [List.append_eq, List.cons_append, List.nil_append]
    repeat (first
      | go_big_quiet_skip
      | (go_big_quiet_want
         unfold Oper.quiet
         apply Exists.intro
         refine ⟨fun w' hw' => ?_, ?_⟩
         (have z0 := (hw'.cell (p := ⟨w.heap.size, 0, none⟩) (by show w.heap.size < _; omega)).trans x0
          have z1 := (hw'.cell (p := ⟨w.heap.size, 1, none⟩) (by show w.heap.size < _; omega)).trans x1
          have z2 := (hw'.cell (p := ⟨w.heap.size, 2, none⟩) (by show w.heap.size < _; omega)).trans x2
          have z3 := (hw'.cell (p := ⟨w.heap.size, 3, none⟩) (by show w.heap.size < _; omega)).trans x3
          have z4 := (hw'.cell (p := ⟨w.heap.size, 4, none⟩) (by show w.heap.size < _; omega)).trans x4
          have z5 := (hw'.cell (p := ⟨w.heap.size, 5, none⟩) (by show w.heap.size < _; omega)).trans x5
          have z6 := (hw'.cell (p := ⟨w.heap.size, 6, none⟩) (by show w.heap.size < _; omega)).trans x6
          go_simp
          first
            | (go_at_call 52; refine (l8count_any ⟨rt, ov, nx, qt, lim⟩ a 4 ca b n c L _ HN.out HCN.out (LR.go HP.out (HBB.out _ hw') (HBB.out _ hw').size)).mono ?_; rintro e w1 ⟨rfl, hb1⟩; exact ⟨rfl, hw'.trans (hb1.mono hw'.size)⟩)
            | (go_at_call 53; refine (l7lists_any b n c tn none 0 0 (fun _ => 0) _ HNN.out (Row.below HRB.out (HBB.out _ hw')) (.inl rfl)).mono ?_; rintro e w1 ⟨rfl, hb1⟩; exact ⟨by rw [HLS.out, HO.out], hw'.trans (hb1.mono hw'.size)⟩)
            | exact rfl)
         simp only [Act.put, List.setIfInBounds_toArray, List.set_cons_zero, List.set_cons_succ]
         go_big_quiet_on))
    refine wpQuiet_nil ?_
    intro w2 hw2
    go_wp2
    go_ret
    exact ⟨ret_bool HE.out, HBB.out _ hw2⟩
  case true =>
  have HO : Hid (okB ts = true) := t12
  clear t12
  refine wp_region_quiet (C := fun w' => Below W0.heap.size W0 w') (by kernel_rfl) (by kernel_rfl) ((Below.refl _ _).drew) ?_
  simp only [List.append_eq, List.cons_append, List.nil_append]
  repeat (first
    | go_big_quiet_skip
    | (go_big_quiet_want
       unfold Oper.quiet
       apply Exists.intro
       refine ⟨fun w' hw' => ?_, ?_⟩
       (have z0 := (hw'.cell (p := ⟨w.heap.size, 0, none⟩) (by show w.heap.size < _; omega)).trans x0
        have z1 := (hw'.cell (p := ⟨w.heap.size, 1, none⟩) (by show w.heap.size < _; omega)).trans x1
        have z2 := (hw'.cell (p := ⟨w.heap.size, 2, none⟩) (by show w.heap.size < _; omega)).trans x2
        have z3 := (hw'.cell (p := ⟨w.heap.size, 3, none⟩) (by show w.heap.size < _; omega)).trans x3
        have z4 := (hw'.cell (p := ⟨w.heap.size, 4, none⟩) (by show w.heap.size < _; omega)).trans x4
        have z5 := (hw'.cell (p := ⟨w.heap.size, 5, none⟩) (by show w.heap.size < _; omega)).trans x5
        have z6 := (hw'.cell (p := ⟨w.heap.size, 6, none⟩) (by show w.heap.size < _; omega)).trans x6
        go_simp
        first
          | (go_at_call 52; refine (l8count_any ⟨rt, ov, nx, qt, lim⟩ a 4 ca b n c L _ HN.out HCN.out (LR.go HP.out (HBB.out _ hw') (HBB.out _ hw').size)).mono ?_; rintro e w1 ⟨rfl, hb1⟩; exact ⟨rfl, hw'.trans (hb1.mono hw'.size)⟩)
          | (go_at_call 53; refine (l7lists_any b n c tn none 0 0 (fun _ => 0) _ HNN.out (Row.below HRB.out (HBB.out _ hw')) (.inl rfl)).mono ?_; rintro e w1 ⟨rfl, hb1⟩; exact ⟨by rw [HLS.out, HO.out], hw'.trans (hb1.mono hw'.size)⟩)
          | exact rfl)
       simp only [Act.put, List.setIfInBounds_toArray, List.set_cons_zero, List.set_cons_succ]
       go_big_quiet_on))
  refine wpQuiet_nil ?_
  intro w2 hw2
  have HCL : Hid ((cntF L 4 : Int) ≤ lim) := by show _ ≤ _; omega
  clear t0 t1 t2 t3 t4 t5 t6 t7 t8 t9 t11 t0' t1' t2' t3' t4' t5' t6' t7' t8' t9' t11'
  have y6 := (hw2.cell (p := ⟨w.heap.size, 6, none⟩) l0).trans x6
  have HW2 : Hid (Below W0.heap.size W0 w2) := hw2
  have HRB2 : Hid (Row .i64 w2 b n tn) := Row.below HRB.out (HBB.out _ hw2)
  clear hw2
  go_wp2
  go_loop [3] (fun i => ∃ k : Nat, k ≤ n ∧ i = .int .i64 k ∧ under4 tn k) (fun i => n - (intOf i).toNat)
  case atStart => exact ⟨0, Nat.zero_le _, rfl, fun i hi => absurd hi (Nat.not_lt_zero _)⟩
  case round =>
    obtain ⟨k, hk, rfl, hun⟩ := hrel
    have HUN : Hid (under4 tn k) := hun
    clear hun
    by_cases hlt : k < n
    · obtain ⟨b1, off, rfl, hbl, hcs⟩ := Row.at HRB2.out hlt
      have c1 := hcs k hlt
      clear hcs
      by_cases hq : 4 ≤ tn k
      · have hq' : decide (4 ≤ tn k) = true := by simpa using hq
        have HE : Hid (false = shB ⟨rt, ov, nx, qt, lim⟩ 4 L ts) := sh_no (fun h => by have := (turn_iff.1 h.2.2.2.1).2.1 (tn k) (HTS.out k hlt); omega)
        go_wp2
        go_ret
        exact ⟨ret_bool HE.out, HBB.out _ HW2.out⟩
      · have hq' : decide (4 ≤ tn k) = false := by simpa using hq
        go_wp2
        go_round
        case rel => exact ⟨k + 1, by omega, by go_num, fun i hi => by by_cases e : i = k; · rw [e]; omega
                                                                      · exact HUN.out i (by omega)⟩
        case measure => simp [intOf]; omega
    obtain rfl : n = k := by omega
    have HU4 : Hid (∀ v ∈ ts, v < 4) := fun v hv => by obtain ⟨j, hj, rfl⟩ := HTM.out v hv; exact HUN.out j hj
    clear HUN HRB2
    go_wp2
    clear y6
    go_loopw [4] (fun i wr => ∃ k : Nat, k ≤ 4 ∧ i = .int .i64 k ∧ hlsP L ts k ∧ Below W0.heap.size W0 wr) (fun i _ => 4 - (intOf i).toNat)
    case atStart => exact ⟨0, Nat.zero_le _, rfl, fun i hi => absurd hi (Nat.not_lt_zero _), HW2.out⟩
    case round =>
      clear HW2
      obtain ⟨k, hk, rfl, hall, hB⟩ := hrel
      have HA : Hid (hlsP L ts k) := hall
      have HB : Hid (Below W0.heap.size W0 wr) := hB
      have z5 := (hB.cell (p := ⟨w.heap.size, 5, none⟩) l0).trans x5
      have lr : w.heap.size < wr.heap.size := Nat.lt_of_lt_of_le l0 hB.size
      clear hall
      by_cases hlt : k < 4
      · obtain ⟨b1, off, rfl, hbl, hcs⟩ := LR.at HP.out hlt
        obtain ⟨x, cx, hat, hnc, hpr⟩ := hcs k hlt
        have hBw := HBB.out _ hB
        obtain ⟨c0, c1, c2, c3, c4, c5, c6, c7, c8⟩ := hat.below hBw hbl
        have HPR : Hid (PR w.heap.size w x (L k).n (L k).f) := hpr
        have hnk : (L k).n ≤ 1048576 := Nat.le_trans (cntF_le L hlt) HCN.out
        have HNK : Hid ((L k).n ≤ 1048576) := hnk
        have HNC : Hid ((L k).n ≤ cx) := hnc
        have hlti : (k : Int) < 4 := by omega
        clear hcs hat hpr hnk hnc hB hBw
        go_upto_region 12 with fail
        obtain ⟨v, hv⟩ : ∃ v, wr.alloc (.cells (lnCells x cx (L k)) 53) = v := ⟨_, rfl⟩
        have sv : Sits v wr.heap.size (lnCells x cx (L k)) 53 := by rw [← hv]; exact Sits.new _ _ _
        have bv : Below W0.heap.size W0 v := by rw [← hv]; exact (HB.out).alloc (HB.out).size _
        rw [hv]
        obtain ⟨B, hBq⟩ : ∃ B, wr.heap.size = B := ⟨_, rfl⟩
        rw [hBq] at sv lr ⊢
        have HBV : Hid (Below W0.heap.size W0 v) := bv
        have HSV : Hid (Sits v B (lnCells x cx (L k)) 53) := sv
        have HBB1 : Hid (∀ w', Below v.heap.size v w' → Below W0.heap.size W0 w') := fun w' hw' => bv.trans (hw'.mono bv.size)
        have y0 := sv.cell 0
        have y1 := sv.cell 1
        have y2 := sv.cell 2
        have y3 := sv.cell 3
        have y4 := sv.cell 4
        have y5 := sv.cell 5
        have y6 := sv.cell 6
        have y7 := sv.cell 7
        have y8 := sv.cell 8
        have lB := sv.lt
        have lW := Nat.lt_of_lt_of_le l0 bv.size
        have u6 := (bv.cell (p := ⟨w.heap.size, 6, none⟩) l0).trans x6
        have hcd := equalIn_cd (L k).cd
        clear hv sv bv hBq HB z5 c0 c1 c2 c3 c4 c5 c6 c7 c8
        cases hg : cdzB (L k).cd
        case false =>
          have HE : Hid (false = shB ⟨rt, ov, nx, qt, lim⟩ 4 L ts) := sh_no (fun h => by have := (h.2.2.2.2 k hlt).1; rw [hg] at this; cases this)
          refine wp_region_quiet (C := fun w' => Below v.heap.size v w') (by kernel_rfl) (by kernel_rfl) ((Below.refl _ _).drew) ?_
          simp only []
          repeat (first
            | go_big_quiet_skip
            | (go_big_quiet_want
               unfold Oper.quiet
               apply Exists.intro
               refine ⟨fun w' hw' => ?_, ?_⟩
               (have z0 := (hw'.cell (p := ⟨B, 0, none⟩) (by show B < _; omega)).trans y0
                have z1 := (hw'.cell (p := ⟨B, 1, none⟩) (by show B < _; omega)).trans y1
                have z2 := (hw'.cell (p := ⟨B, 2, none⟩) (by show B < _; omega)).trans y2
                have z3 := (hw'.cell (p := ⟨B, 3, none⟩) (by show B < _; omega)).trans y3
                have z4 := (hw'.cell (p := ⟨B, 4, none⟩) (by show B < _; omega)).trans y4
                have z5 := (hw'.cell (p := ⟨B, 5, none⟩) (by show B < _; omega)).trans y5
                have z6 := (hw'.cell (p := ⟨B, 6, none⟩) (by show B < _; omega)).trans y6
                have z7 := (hw'.cell (p := ⟨B, 7, none⟩) (by show B < _; omega)).trans y7
                have z8 := (hw'.cell (p := ⟨B, 8, none⟩) (by show B < _; omega)).trans y8
                have zt := (hw'.cell (p := ⟨w.heap.size, 6, none⟩) (by show w.heap.size < _; omega)).trans u6
                go_simp
                first
                  | exact rfl)
               simp only [Act.put, List.setIfInBounds_toArray, List.set_cons_zero, List.set_cons_succ]
               go_big_quiet_on))
          refine wpQuiet_nil ?_
          intro w3 hw3
          go_wp2
          go_ret
          exact ⟨ret_bool HE.out, HBB.out _ (HBB1.out _ hw3)⟩
        case true =>
        by_cases s0 : (L k).sh < -2000
        · have s0' : decide ((L k).sh < -2000) = true := by simpa using s0
          have HE : Hid (false = shB ⟨rt, ov, nx, qt, lim⟩ 4 L ts) := sh_no (fun h => by have := (h.2.2.2.2 k hlt).2.1; omega)
          refine wp_region_quiet (C := fun w' => Below v.heap.size v w') (by kernel_rfl) (by kernel_rfl) ((Below.refl _ _).drew) ?_
          simp only []
          repeat (first
            | go_big_quiet_skip
            | (go_big_quiet_want
               unfold Oper.quiet
               apply Exists.intro
               refine ⟨fun w' hw' => ?_, ?_⟩
               (have z0 := (hw'.cell (p := ⟨B, 0, none⟩) (by show B < _; omega)).trans y0
                have z1 := (hw'.cell (p := ⟨B, 1, none⟩) (by show B < _; omega)).trans y1
                have z2 := (hw'.cell (p := ⟨B, 2, none⟩) (by show B < _; omega)).trans y2
                have z3 := (hw'.cell (p := ⟨B, 3, none⟩) (by show B < _; omega)).trans y3
                have z4 := (hw'.cell (p := ⟨B, 4, none⟩) (by show B < _; omega)).trans y4
                have z5 := (hw'.cell (p := ⟨B, 5, none⟩) (by show B < _; omega)).trans y5
                have z6 := (hw'.cell (p := ⟨B, 6, none⟩) (by show B < _; omega)).trans y6
                have z7 := (hw'.cell (p := ⟨B, 7, none⟩) (by show B < _; omega)).trans y7
                have z8 := (hw'.cell (p := ⟨B, 8, none⟩) (by show B < _; omega)).trans y8
                have zt := (hw'.cell (p := ⟨w.heap.size, 6, none⟩) (by show w.heap.size < _; omega)).trans u6
                go_simp
                first
                  | exact rfl)
               simp only [Act.put, List.setIfInBounds_toArray, List.set_cons_zero, List.set_cons_succ]
               go_big_quiet_on))
          refine wpQuiet_nil ?_
          intro w3 hw3
          go_wp2
          go_ret
          exact ⟨ret_bool HE.out, HBB.out _ (HBB1.out _ hw3)⟩
        have s0' : decide ((L k).sh < -2000) = false := by simpa using s0
        by_cases s1 : 12000 < (L k).sh
        · have s1' : decide (12000 < (L k).sh) = true := by simpa using s1
          have HE : Hid (false = shB ⟨rt, ov, nx, qt, lim⟩ 4 L ts) := sh_no (fun h => by have := (h.2.2.2.2 k hlt).2.1; omega)
          refine wp_region_quiet (C := fun w' => Below v.heap.size v w') (by kernel_rfl) (by kernel_rfl) ((Below.refl _ _).drew) ?_
          simp only []
          repeat (first
            | go_big_quiet_skip
            | (go_big_quiet_want
               unfold Oper.quiet
               apply Exists.intro
               refine ⟨fun w' hw' => ?_, ?_⟩
               (have z0 := (hw'.cell (p := ⟨B, 0, none⟩) (by show B < _; omega)).trans y0
                have z1 := (hw'.cell (p := ⟨B, 1, none⟩) (by show B < _; omega)).trans y1
                have z2 := (hw'.cell (p := ⟨B, 2, none⟩) (by show B < _; omega)).trans y2
                have z3 := (hw'.cell (p := ⟨B, 3, none⟩) (by show B < _; omega)).trans y3
                have z4 := (hw'.cell (p := ⟨B, 4, none⟩) (by show B < _; omega)).trans y4
                have z5 := (hw'.cell (p := ⟨B, 5, none⟩) (by show B < _; omega)).trans y5
                have z6 := (hw'.cell (p := ⟨B, 6, none⟩) (by show B < _; omega)).trans y6
                have z7 := (hw'.cell (p := ⟨B, 7, none⟩) (by show B < _; omega)).trans y7
                have z8 := (hw'.cell (p := ⟨B, 8, none⟩) (by show B < _; omega)).trans y8
                have zt := (hw'.cell (p := ⟨w.heap.size, 6, none⟩) (by show w.heap.size < _; omega)).trans u6
                go_simp
                first
                  | exact rfl)
               simp only [Act.put, List.setIfInBounds_toArray, List.set_cons_zero, List.set_cons_succ]
               go_big_quiet_on))
          refine wpQuiet_nil ?_
          intro w3 hw3
          go_wp2
          go_ret
          exact ⟨ret_bool HE.out, HBB.out _ (HBB1.out _ hw3)⟩
        have s1' : decide (12000 < (L k).sh) = false := by simpa using s1
        cases hf : fifoB (L k).f (L k).n 40
        case false =>
          have HE : Hid (false = shB ⟨rt, ov, nx, qt, lim⟩ 4 L ts) := sh_no (fun h => by have := (h.2.2.2.2 k hlt).2.2.1; rw [hf] at this; cases this)
          refine wp_region_quiet (C := fun w' => Below v.heap.size v w') (by kernel_rfl) (by kernel_rfl) ((Below.refl _ _).drew) ?_
          simp only []
          repeat (first
            | go_big_quiet_skip
            | (go_big_quiet_want
               unfold Oper.quiet
               apply Exists.intro
               refine ⟨fun w' hw' => ?_, ?_⟩
               (have z0 := (hw'.cell (p := ⟨B, 0, none⟩) (by show B < _; omega)).trans y0
                have z1 := (hw'.cell (p := ⟨B, 1, none⟩) (by show B < _; omega)).trans y1
                have z2 := (hw'.cell (p := ⟨B, 2, none⟩) (by show B < _; omega)).trans y2
                have z3 := (hw'.cell (p := ⟨B, 3, none⟩) (by show B < _; omega)).trans y3
                have z4 := (hw'.cell (p := ⟨B, 4, none⟩) (by show B < _; omega)).trans y4
                have z5 := (hw'.cell (p := ⟨B, 5, none⟩) (by show B < _; omega)).trans y5
                have z6 := (hw'.cell (p := ⟨B, 6, none⟩) (by show B < _; omega)).trans y6
                have z7 := (hw'.cell (p := ⟨B, 7, none⟩) (by show B < _; omega)).trans y7
                have z8 := (hw'.cell (p := ⟨B, 8, none⟩) (by show B < _; omega)).trans y8
                have zt := (hw'.cell (p := ⟨w.heap.size, 6, none⟩) (by show w.heap.size < _; omega)).trans u6
                go_simp
                first
                  | (go_at_call 54; refine (sfifoOk_any x (L k).n cx (L k).f 40 _ HNK.out HNC.out ((PR.below HPR.out (HBB.out _ (HBB1.out _ hw'))).mono (HBB.out _ (HBB1.out _ hw')).size)).mono ?_; rintro e w4 ⟨rfl, b4⟩; exact ⟨by rw [hf], hw'.trans (b4.mono hw'.size)⟩)
                  | exact rfl)
               simp only [Act.put, List.setIfInBounds_toArray, List.set_cons_zero, List.set_cons_succ]
               go_big_quiet_on))
          refine wpQuiet_nil ?_
          intro w3 hw3
          go_wp2
          go_ret
          exact ⟨ret_bool HE.out, HBB.out _ (HBB1.out _ hw3)⟩
        case true =>
        by_cases hn0 : (L k).n = 0
        · have hz1 : decide ((0 : Int) < ((L k).n : Int)) = false := decide_eq_false (by omega)
          have hz2 : decide (0 < (L k).n) = false := decide_eq_false (by omega)
          have HZ : Hid ((L k).n = 0) := hn0
          clear hn0
          cases h1 : hasB tn n (k : Int)
          case false =>
            have HTU : Hid ((L k).n ≠ 0 ↔ (k : Int) ∈ ts) := (show (L k).n ≠ 0 ↔ (k : Int) ∈ ts by have h8 := h1; rw [HHB.out] at h8; exact ⟨fun h => absurd HZ.out h, fun h => absurd h (by simpa using h8)⟩)
            refine wp_region_quiet (C := fun w' => Below v.heap.size v w') (by kernel_rfl) (by kernel_rfl) ((Below.refl _ _).drew) ?_
            simp only []
            repeat (first
              | go_big_quiet_skip
              | (go_big_quiet_want
                 unfold Oper.quiet
                 apply Exists.intro
                 refine ⟨fun w' hw' => ?_, ?_⟩
                 (have z0 := (hw'.cell (p := ⟨B, 0, none⟩) (by show B < _; omega)).trans y0
                  have z1 := (hw'.cell (p := ⟨B, 1, none⟩) (by show B < _; omega)).trans y1
                  have z2 := (hw'.cell (p := ⟨B, 2, none⟩) (by show B < _; omega)).trans y2
                  have z3 := (hw'.cell (p := ⟨B, 3, none⟩) (by show B < _; omega)).trans y3
                  have z4 := (hw'.cell (p := ⟨B, 4, none⟩) (by show B < _; omega)).trans y4
                  have z5 := (hw'.cell (p := ⟨B, 5, none⟩) (by show B < _; omega)).trans y5
                  have z6 := (hw'.cell (p := ⟨B, 6, none⟩) (by show B < _; omega)).trans y6
                  have z7 := (hw'.cell (p := ⟨B, 7, none⟩) (by show B < _; omega)).trans y7
                  have z8 := (hw'.cell (p := ⟨B, 8, none⟩) (by show B < _; omega)).trans y8
                  have zt := (hw'.cell (p := ⟨w.heap.size, 6, none⟩) (by show w.heap.size < _; omega)).trans u6
                  go_simp
                  first
                    | (go_at_call 54; refine (sfifoOk_any x (L k).n cx (L k).f 40 _ HNK.out HNC.out ((PR.below HPR.out (HBB.out _ (HBB1.out _ hw'))).mono (HBB.out _ (HBB1.out _ hw')).size)).mono ?_; rintro e w4 ⟨rfl, b4⟩; exact ⟨by rw [hf], hw'.trans (b4.mono hw'.size)⟩)
                    | (go_at_call 55; refine (l7has_any b n c tn (k : Int) _ HNN.out (Row.below HRB.out (HBB.out _ (HBB1.out _ hw')))).mono ?_; rintro e w5 ⟨rfl, hw5⟩; exact ⟨by rw [h1], by rw [hw5]; exact hw'⟩)
                    | exact rfl)
                 simp only [Act.put, List.setIfInBounds_toArray, List.set_cons_zero, List.set_cons_succ]
                 go_big_quiet_on))
            refine wpQuiet_nil ?_
            intro w3 hw3
            have HG : Hid (hlnP (k : Int) (L k) ↔ ∀ t, t < (L k).n → ((L k).f t).host = k) := (show hlnP (k : Int) (L k) ↔ ∀ t, t < (L k).n → ((L k).f t).host = k from ⟨fun h => h.2.2.2, fun h => ⟨hg, by omega, hf, h⟩⟩)
            have y0 := (hw3.cell (p := ⟨B, 0, none⟩) lB).trans y0
            have HB4 : Hid (Below W0.heap.size W0 w3) := HBB1.out _ hw3
            have hnl : ((L k).n : Int) ≤ 1048576 := by have := HNK.out; omega
            have HQ : Hid (∀ i, i < (L k).n → ∃ bp op : Nat, x = some ⟨bp, op, none⟩ ∧ w3.cell? ⟨bp, op + i * 6 + 2, none⟩ = some (.int .i64 ((L k).f i).host)) := fun i hi => by
              obtain ⟨bp, op, hx, hlt', hcs⟩ := PR.at HPR.out hi
              exact ⟨bp, op, hx, ((hcs i hi).below (HBB.out _ HB4.out) hlt').2.2.1⟩
            clear hg s0 s0' s1 s1' hf hw3 hcd h1
            go_wp2
            go_loop [6] (fun i => ∃ m : Nat, m ≤ (L k).n ∧ i = .int .i64 m ∧ ∀ t, t < m → ((L k).f t).host = k) (fun i => (L k).n - (intOf i).toNat)
            case atStart => exact ⟨0, Nat.zero_le _, rfl, fun t ht => absurd ht (Nat.not_lt_zero _)⟩
            case round =>
              obtain ⟨m, hm, rfl, hfl⟩ := hrel
              have HFL : Hid (∀ t, t < m → ((L k).f t).host = k) := hfl
              clear hfl
              by_cases hml : m < (L k).n
              · obtain ⟨bp, op, rfl, cfl⟩ := HQ.out m hml
                by_cases hq : ((L k).f m).host = (k : Int)
                · have hq' : (((L k).f m).host != (k : Int)) = false := by simpa using hq
                  go_wp2
                  go_round
                  case rel => exact ⟨m + 1, by omega, by go_num, fun t ht => by by_cases e : t = m; · rw [e]; exact hq
                                                                                · exact HFL.out t (by omega)⟩
                  case measure => simp [intOf]; omega
                · have hq' : (((L k).f m).host != (k : Int)) = true := by simpa using hq
                  have HE : Hid (false = shB ⟨rt, ov, nx, qt, lim⟩ 4 L ts) := sh_no (fun h => hq ((h.2.2.2.2 k hlt).2.2.2 m hml))
                  go_wp2
                  go_ret
                  exact ⟨ret_bool HE.out, HBB.out _ HB4.out⟩
              · obtain rfl : m = (L k).n := by omega
                go_wp2
                go_roundw
                case rel => exact ⟨k + 1, by omega, by go_num, fun i hi => by by_cases e : i = k; · rw [e]; exact ⟨(HG.out).2 HFL.out, HTU.out⟩
                                                                              · exact HA.out i (by omega), HB4.out⟩
                case measure => simp [intOf]; omega
          case true =>
            have HE : Hid (false = shB ⟨rt, ov, nx, qt, lim⟩ 4 L ts) := sh_no (fun h => by have h7 := (turn_iff.1 h.2.2.2.1).2.2 k hlt; rw [HHB.out] at h1; exact h7.2 (by simpa using h1) HZ.out)
            refine wp_region_quiet (C := fun w' => Below v.heap.size v w') (by kernel_rfl) (by kernel_rfl) ((Below.refl _ _).drew) ?_
            simp only []
            repeat (first
              | go_big_quiet_skip
              | (go_big_quiet_want
                 unfold Oper.quiet
                 apply Exists.intro
                 refine ⟨fun w' hw' => ?_, ?_⟩
                 (have z0 := (hw'.cell (p := ⟨B, 0, none⟩) (by show B < _; omega)).trans y0
                  have z1 := (hw'.cell (p := ⟨B, 1, none⟩) (by show B < _; omega)).trans y1
                  have z2 := (hw'.cell (p := ⟨B, 2, none⟩) (by show B < _; omega)).trans y2
                  have z3 := (hw'.cell (p := ⟨B, 3, none⟩) (by show B < _; omega)).trans y3
                  have z4 := (hw'.cell (p := ⟨B, 4, none⟩) (by show B < _; omega)).trans y4
                  have z5 := (hw'.cell (p := ⟨B, 5, none⟩) (by show B < _; omega)).trans y5
                  have z6 := (hw'.cell (p := ⟨B, 6, none⟩) (by show B < _; omega)).trans y6
                  have z7 := (hw'.cell (p := ⟨B, 7, none⟩) (by show B < _; omega)).trans y7
                  have z8 := (hw'.cell (p := ⟨B, 8, none⟩) (by show B < _; omega)).trans y8
                  have zt := (hw'.cell (p := ⟨w.heap.size, 6, none⟩) (by show w.heap.size < _; omega)).trans u6
                  go_simp
                  first
                    | (go_at_call 54; refine (sfifoOk_any x (L k).n cx (L k).f 40 _ HNK.out HNC.out ((PR.below HPR.out (HBB.out _ (HBB1.out _ hw'))).mono (HBB.out _ (HBB1.out _ hw')).size)).mono ?_; rintro e w4 ⟨rfl, b4⟩; exact ⟨by rw [hf], hw'.trans (b4.mono hw'.size)⟩)
                    | (go_at_call 55; refine (l7has_any b n c tn (k : Int) _ HNN.out (Row.below HRB.out (HBB.out _ (HBB1.out _ hw')))).mono ?_; rintro e w5 ⟨rfl, hw5⟩; exact ⟨by rw [h1], by rw [hw5]; exact hw'⟩)
                    | exact rfl)
                 simp only [Act.put, List.setIfInBounds_toArray, List.set_cons_zero, List.set_cons_succ]
                 go_big_quiet_on))
            refine wpQuiet_nil ?_
            intro w3 hw3
            go_wp2
            go_ret
            exact ⟨ret_bool HE.out, HBB.out _ (HBB1.out _ hw3)⟩
        · have hz1 : decide ((0 : Int) < ((L k).n : Int)) = true := decide_eq_true (by omega)
          have hz2 : decide (0 < (L k).n) = true := decide_eq_true (by omega)
          have HZ : Hid ((L k).n ≠ 0) := hn0
          clear hn0
          cases h1 : hasB tn n (k : Int)
          case false =>
            have HE : Hid (false = shB ⟨rt, ov, nx, qt, lim⟩ 4 L ts) := sh_no (fun h => by have h7 := (turn_iff.1 h.2.2.2.1).2.2 k hlt; rw [HHB.out] at h1; exact absurd (h7.1 HZ.out) (by simpa using h1))
            refine wp_region_quiet (C := fun w' => Below v.heap.size v w') (by kernel_rfl) (by kernel_rfl) ((Below.refl _ _).drew) ?_
            simp only []
            repeat (first
              | go_big_quiet_skip
              | (go_big_quiet_want
                 unfold Oper.quiet
                 apply Exists.intro
                 refine ⟨fun w' hw' => ?_, ?_⟩
                 (have z0 := (hw'.cell (p := ⟨B, 0, none⟩) (by show B < _; omega)).trans y0
                  have z1 := (hw'.cell (p := ⟨B, 1, none⟩) (by show B < _; omega)).trans y1
                  have z2 := (hw'.cell (p := ⟨B, 2, none⟩) (by show B < _; omega)).trans y2
                  have z3 := (hw'.cell (p := ⟨B, 3, none⟩) (by show B < _; omega)).trans y3
                  have z4 := (hw'.cell (p := ⟨B, 4, none⟩) (by show B < _; omega)).trans y4
                  have z5 := (hw'.cell (p := ⟨B, 5, none⟩) (by show B < _; omega)).trans y5
                  have z6 := (hw'.cell (p := ⟨B, 6, none⟩) (by show B < _; omega)).trans y6
                  have z7 := (hw'.cell (p := ⟨B, 7, none⟩) (by show B < _; omega)).trans y7
                  have z8 := (hw'.cell (p := ⟨B, 8, none⟩) (by show B < _; omega)).trans y8
                  have zt := (hw'.cell (p := ⟨w.heap.size, 6, none⟩) (by show w.heap.size < _; omega)).trans u6
                  go_simp
                  first
                    | (go_at_call 54; refine (sfifoOk_any x (L k).n cx (L k).f 40 _ HNK.out HNC.out ((PR.below HPR.out (HBB.out _ (HBB1.out _ hw'))).mono (HBB.out _ (HBB1.out _ hw')).size)).mono ?_; rintro e w4 ⟨rfl, b4⟩; exact ⟨by rw [hf], hw'.trans (b4.mono hw'.size)⟩)
                    | (go_at_call 55; refine (l7has_any b n c tn (k : Int) _ HNN.out (Row.below HRB.out (HBB.out _ (HBB1.out _ hw')))).mono ?_; rintro e w5 ⟨rfl, hw5⟩; exact ⟨by rw [h1], by rw [hw5]; exact hw'⟩)
                    | exact rfl)
                 simp only [Act.put, List.setIfInBounds_toArray, List.set_cons_zero, List.set_cons_succ]
                 go_big_quiet_on))
            refine wpQuiet_nil ?_
            intro w3 hw3
            go_wp2
            go_ret
            exact ⟨ret_bool HE.out, HBB.out _ (HBB1.out _ hw3)⟩
          case true =>
            have HTU : Hid ((L k).n ≠ 0 ↔ (k : Int) ∈ ts) := (show (L k).n ≠ 0 ↔ (k : Int) ∈ ts by have h8 := h1; rw [HHB.out] at h8; exact ⟨fun _ => (by simpa using h8), fun _ => HZ.out⟩)
            refine wp_region_quiet (C := fun w' => Below v.heap.size v w') (by kernel_rfl) (by kernel_rfl) ((Below.refl _ _).drew) ?_
            simp only []
            repeat (first
              | go_big_quiet_skip
              | (go_big_quiet_want
                 unfold Oper.quiet
                 apply Exists.intro
                 refine ⟨fun w' hw' => ?_, ?_⟩
                 (have z0 := (hw'.cell (p := ⟨B, 0, none⟩) (by show B < _; omega)).trans y0
                  have z1 := (hw'.cell (p := ⟨B, 1, none⟩) (by show B < _; omega)).trans y1
                  have z2 := (hw'.cell (p := ⟨B, 2, none⟩) (by show B < _; omega)).trans y2
                  have z3 := (hw'.cell (p := ⟨B, 3, none⟩) (by show B < _; omega)).trans y3
                  have z4 := (hw'.cell (p := ⟨B, 4, none⟩) (by show B < _; omega)).trans y4
                  have z5 := (hw'.cell (p := ⟨B, 5, none⟩) (by show B < _; omega)).trans y5
                  have z6 := (hw'.cell (p := ⟨B, 6, none⟩) (by show B < _; omega)).trans y6
                  have z7 := (hw'.cell (p := ⟨B, 7, none⟩) (by show B < _; omega)).trans y7
                  have z8 := (hw'.cell (p := ⟨B, 8, none⟩) (by show B < _; omega)).trans y8
                  have zt := (hw'.cell (p := ⟨w.heap.size, 6, none⟩) (by show w.heap.size < _; omega)).trans u6
                  go_simp
                  first
                    | (go_at_call 54; refine (sfifoOk_any x (L k).n cx (L k).f 40 _ HNK.out HNC.out ((PR.below HPR.out (HBB.out _ (HBB1.out _ hw'))).mono (HBB.out _ (HBB1.out _ hw')).size)).mono ?_; rintro e w4 ⟨rfl, b4⟩; exact ⟨by rw [hf], hw'.trans (b4.mono hw'.size)⟩)
                    | (go_at_call 55; refine (l7has_any b n c tn (k : Int) _ HNN.out (Row.below HRB.out (HBB.out _ (HBB1.out _ hw')))).mono ?_; rintro e w5 ⟨rfl, hw5⟩; exact ⟨by rw [h1], by rw [hw5]; exact hw'⟩)
                    | exact rfl)
                 simp only [Act.put, List.setIfInBounds_toArray, List.set_cons_zero, List.set_cons_succ]
                 go_big_quiet_on))
            refine wpQuiet_nil ?_
            intro w3 hw3
            have HG : Hid (hlnP (k : Int) (L k) ↔ ∀ t, t < (L k).n → ((L k).f t).host = k) := (show hlnP (k : Int) (L k) ↔ ∀ t, t < (L k).n → ((L k).f t).host = k from ⟨fun h => h.2.2.2, fun h => ⟨hg, by omega, hf, h⟩⟩)
            have y0 := (hw3.cell (p := ⟨B, 0, none⟩) lB).trans y0
            have HB4 : Hid (Below W0.heap.size W0 w3) := HBB1.out _ hw3
            have hnl : ((L k).n : Int) ≤ 1048576 := by have := HNK.out; omega
            have HQ : Hid (∀ i, i < (L k).n → ∃ bp op : Nat, x = some ⟨bp, op, none⟩ ∧ w3.cell? ⟨bp, op + i * 6 + 2, none⟩ = some (.int .i64 ((L k).f i).host)) := fun i hi => by
              obtain ⟨bp, op, hx, hlt', hcs⟩ := PR.at HPR.out hi
              exact ⟨bp, op, hx, ((hcs i hi).below (HBB.out _ HB4.out) hlt').2.2.1⟩
            clear hg s0 s0' s1 s1' hf hw3 hcd h1
            go_wp2
            go_loop [6] (fun i => ∃ m : Nat, m ≤ (L k).n ∧ i = .int .i64 m ∧ ∀ t, t < m → ((L k).f t).host = k) (fun i => (L k).n - (intOf i).toNat)
            case atStart => exact ⟨0, Nat.zero_le _, rfl, fun t ht => absurd ht (Nat.not_lt_zero _)⟩
            case round =>
              obtain ⟨m, hm, rfl, hfl⟩ := hrel
              have HFL : Hid (∀ t, t < m → ((L k).f t).host = k) := hfl
              clear hfl
              by_cases hml : m < (L k).n
              · obtain ⟨bp, op, rfl, cfl⟩ := HQ.out m hml
                by_cases hq : ((L k).f m).host = (k : Int)
                · have hq' : (((L k).f m).host != (k : Int)) = false := by simpa using hq
                  go_wp2
                  go_round
                  case rel => exact ⟨m + 1, by omega, by go_num, fun t ht => by by_cases e : t = m; · rw [e]; exact hq
                                                                                · exact HFL.out t (by omega)⟩
                  case measure => simp [intOf]; omega
                · have hq' : (((L k).f m).host != (k : Int)) = true := by simpa using hq
                  have HE : Hid (false = shB ⟨rt, ov, nx, qt, lim⟩ 4 L ts) := sh_no (fun h => hq ((h.2.2.2.2 k hlt).2.2.2 m hml))
                  go_wp2
                  go_ret
                  exact ⟨ret_bool HE.out, HBB.out _ HB4.out⟩
              · obtain rfl : m = (L k).n := by omega
                go_wp2
                go_roundw
                case rel => exact ⟨k + 1, by omega, by go_num, fun i hi => by by_cases e : i = k; · rw [e]; exact ⟨(HG.out).2 HFL.out, HTU.out⟩
                                                                              · exact HA.out i (by omega), HB4.out⟩
                case measure => simp [intOf]; omega
      · obtain rfl : k = 4 := by omega
        have HE : Hid (true = shB ⟨rt, ov, nx, qt, lim⟩ 4 L ts) := sh_yes ⟨HNUM.out, rfl, HCL.out, turn_iff.2 ⟨(by have := HO.out; unfold okB at this; simpa using this), HU4.out, fun i hi => (HA.out i hi).2⟩, fun i hi => (HA.out i hi).1⟩
        go_wp2
        go_ret
        exact ⟨ret_bool HE.out, HBB.out _ hB⟩

end Go.Proofs.Ytmjggolllijamaa
