/-
  THE LAWS' marked: a packet and itself, or itself with a mark on it where its sender knows them.
-/
import Derived.Test.YthdlpgehojdhkacMarked
import Derived.Deep.Quiet
import Derived.Deep.QuietTactic
import Derived.BigQuiet
import Derived.Deep.Cut
namespace Go.Proofs.Ythdlpgehojdhkac
open Go.RowKit
set_option linter.unusedVariables false

theorem pkt_cells {W : World} {B : Nat} {p : Pk} {t : TypeId} (h : Sits W B (pkCells p) t) : W.cell? ⟨B, 0, none⟩ = some (.int .i64 p.id) ∧ W.cell? ⟨B, 1, none⟩ = some (.int .i64 p.flow) ∧ W.cell? ⟨B, 2, none⟩ = some (.int .i64 p.host) ∧ W.cell? ⟨B, 3, none⟩ = some (.int .i64 p.size) ∧ W.cell? ⟨B, 4, none⟩ = some (.int .i64 p.tm) ∧ W.cell? ⟨B, 5, none⟩ = some (.int .i64 p.ecn) :=
  ⟨h.cell 0, h.cell 1, h.cell 2, h.cell 3, h.cell 4, h.cell 5⟩
def Pk.ce (p : Pk) : Pk := ⟨p.id, p.flow, p.host, p.size, p.tm, 3⟩

theorem bare_ce (p : Pk) (w : World) :
    Calls Try.prog 40 #[.agg #[.int .i64 p.id, .int .i64 p.flow, .int .i64 p.host, .int .i64 p.size, .int .i64 p.tm, .int .i64 3]] w fun e w' => e = .returned p.bare.val ∧ Kept w w' := bare_any p.ce w

set_option maxRecDepth 100000 in
set_option maxHeartbeats 4000000 in
theorem marked_same (p : Pk) (w : World) :
    Calls Try.prog 23 #[p.val, (p).val] w fun e w' => e = .returned (.bool true) ∧ Below w.heap.size w w' := by
  have k1 : (p.ecn == p.ecn) = true := by simp
  obtain ⟨W, hW⟩ : ∃ W, (w.alloc (.cells (pkCells p) 45)).alloc (.cells (pkCells (p)) 45) = W := ⟨_, rfl⟩
  have y1 : Sits W w.heap.size (pkCells p) 45 := by rw [← hW]; exact (Sits.new _ _ _).alloc _
  have y2 : Sits W (w.heap.size + 1) (pkCells (p)) 45 := by rw [← hW]; exact Sits.new' (by simp)
  have b0 : Below w.heap.size w W := by rw [← hW]; exact ((Below.refl _ _).alloc (Nat.le_refl _) _).alloc (by simp) _
  have H1 : Hid (Sits W w.heap.size (pkCells p) 45) := y1
  have H2 : Hid (Sits W (w.heap.size + 1) (pkCells (p)) 45) := y2
  have l1 := y1.lt
  have l2 := y2.lt
  clear y1 y2
  go_enter Try.func23, Try.ntmps23
  go_upto_region 1 with fail
  try rw [hW]
  clear hW
  refine wp_region_quiet (C := fun w' => Below W.heap.size W w') (by kernel_rfl) (by kernel_rfl) ((Below.refl _ _).drew) ?_
  simp only []
  repeat (first
    | go_big_quiet_skip
    | (go_big_quiet_want
       unfold Oper.quiet
       apply Exists.intro
       refine ⟨fun w' hw' => ?_, ?_⟩
       (obtain ⟨p0, p1, p2, p3, p4, p5⟩ := pkt_cells (Sits.below H1.out hw' l1)
        obtain ⟨q0, q1, q2, q3, q4, q5⟩ := pkt_cells (Sits.below H2.out hw' l2)
        (try dsimp only [Pk.ce] at q0 q1 q2 q3 q4 q5)
        go_simp
        first
          | (go_at_call 40; refine (bare_any p _).mono ?_; rintro e w8 ⟨rfl, k8⟩; exact ⟨rfl, hw'.trans (k8.1.mono hw'.size)⟩)
          | exact rfl)
       simp only [Act.put, List.setIfInBounds_toArray, List.set_cons_zero, List.set_cons_succ]
       go_big_quiet_on))
  refine wpQuiet_nil ?_
  intro w7 hw7
  go_wp2_with fail
  go_ret
  exact ⟨rfl, b0.trans (hw7.mono b0.size)⟩

set_option maxRecDepth 100000 in
set_option maxHeartbeats 4000000 in
theorem marked_set (p : Pk) (h0 : p.ecn ≠ 0) (h3 : p.ecn ≠ 3) (w : World) :
    Calls Try.prog 23 #[p.val, (p.ce).val] w fun e w' => e = .returned (.bool true) ∧ Below w.heap.size w w' := by
  have k1 : (p.ecn == 3) = false := by simpa using h3
  have k2 : (p.ecn != 0) = true := by simpa using h0
  clear h0 h3
  obtain ⟨W, hW⟩ : ∃ W, (w.alloc (.cells (pkCells p) 45)).alloc (.cells (pkCells (p.ce)) 45) = W := ⟨_, rfl⟩
  have y1 : Sits W w.heap.size (pkCells p) 45 := by rw [← hW]; exact (Sits.new _ _ _).alloc _
  have y2 : Sits W (w.heap.size + 1) (pkCells (p.ce)) 45 := by rw [← hW]; exact Sits.new' (by simp)
  have b0 : Below w.heap.size w W := by rw [← hW]; exact ((Below.refl _ _).alloc (Nat.le_refl _) _).alloc (by simp) _
  have H1 : Hid (Sits W w.heap.size (pkCells p) 45) := y1
  have H2 : Hid (Sits W (w.heap.size + 1) (pkCells (p.ce)) 45) := y2
  have l1 := y1.lt
  have l2 := y2.lt
  clear y1 y2
  go_enter Try.func23, Try.ntmps23
  go_upto_region 1 with fail
  try rw [hW]
  clear hW
  refine wp_region_quiet (C := fun w' => Below W.heap.size W w') (by kernel_rfl) (by kernel_rfl) ((Below.refl _ _).drew) ?_
  simp only []
  repeat (first
    | go_big_quiet_skip
    | (go_big_quiet_want
       unfold Oper.quiet
       apply Exists.intro
       refine ⟨fun w' hw' => ?_, ?_⟩
       (obtain ⟨p0, p1, p2, p3, p4, p5⟩ := pkt_cells (Sits.below H1.out hw' l1)
        obtain ⟨q0, q1, q2, q3, q4, q5⟩ := pkt_cells (Sits.below H2.out hw' l2)
        (try dsimp only [Pk.ce] at q0 q1 q2 q3 q4 q5)
        go_simp
        first
          | (go_at_call 40; refine (bare_ce p _).mono ?_; rintro e w8 ⟨rfl, k8⟩; exact ⟨rfl, hw'.trans (k8.1.mono hw'.size)⟩)
          | (go_at_call 40; refine (bare_any p _).mono ?_; rintro e w8 ⟨rfl, k8⟩; exact ⟨rfl, hw'.trans (k8.1.mono hw'.size)⟩)
          | exact rfl)
       simp only [Act.put, List.setIfInBounds_toArray, List.set_cons_zero, List.set_cons_succ]
       go_big_quiet_on))
  refine wpQuiet_nil ?_
  intro w7 hw7
  go_wp2_with fail
  go_ret
  exact ⟨rfl, b0.trans (hw7.mono b0.size)⟩

end Go.Proofs.Ythdlpgehojdhkac
