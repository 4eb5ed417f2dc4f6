/-
  HOW GENTLY A CHANCE OF PIE IS TURNED: PieScale OF BOTH SIDES, over the program's table of steps.
-/
import Derived.Test.YtkeccjomnmpcoacDoorPie
namespace Go.Proofs.YtkeccjomnmpcoacDoor
open Go.RowKit
set_option linter.unusedVariables false

/-- By what a change is divided. -/
def scaleF (p : Int) : Int := if p < 2147 then 2048 else if p < 21474 then 512 else if p < 214748 then 128 else if p < 2147483 then 32 else if p < 21474836 then 8 else if p < 214748364 then 2 else 1
def scaleB (p : Int) : Int := if inB p 0 2147483648 then scaleF p else 0
theorem scaleF_bd (p : Int) : 1 ≤ scaleF p ∧ scaleF p ≤ 2048 := by unfold scaleF; (repeat' split) <;> omega
theorem scaleF_anti {p q : Int} (h : p ≤ q) : scaleF q ≤ scaleF p := by unfold scaleF; (repeat' split) <;> omega

/-- The program's table of steps lies in its variable. -/
def Steps (w : World) : Prop := w.cell? ⟨0, 0, none⟩ = some (.int .i64 1000000) ∧ w.cell? ⟨0, 1, none⟩ = some (.int .i64 2048) ∧ w.cell? ⟨0, 2, none⟩ = some (.int .i64 100000) ∧ w.cell? ⟨0, 3, none⟩ = some (.int .i64 512) ∧ w.cell? ⟨0, 4, none⟩ = some (.int .i64 10000) ∧ w.cell? ⟨0, 5, none⟩ = some (.int .i64 128) ∧ w.cell? ⟨0, 6, none⟩ = some (.int .i64 1000) ∧ w.cell? ⟨0, 7, none⟩ = some (.int .i64 32) ∧ w.cell? ⟨0, 8, none⟩ = some (.int .i64 100) ∧ w.cell? ⟨0, 9, none⟩ = some (.int .i64 8) ∧ w.cell? ⟨0, 10, none⟩ = some (.int .i64 10) ∧ w.cell? ⟨0, 11, none⟩ = some (.int .i64 2)
theorem Steps.lt {w : World} (h : Steps w) : 0 < w.heap.size := World.block_lt_of_cell? w _ h.1
theorem Steps.below {n : Nat} {w w' : World} (h : Steps w) (hb : Below n w w') (hn : 0 < n) : Steps w' := by
  have c : ∀ k, w'.cell? ⟨0, k, none⟩ = w.cell? ⟨0, k, none⟩ := fun k => hb.cell (p := ⟨0, k, none⟩) hn
  unfold Steps at h ⊢
  simp only [c]
  exact h
theorem Steps.drew {w : World} (h : Steps w) : Steps w.drew := h
theorem Steps.kept {w w' : World} (h : Steps w) (hb : Kept w w') : Steps w' := h.below hb.1 h.lt

/-- The table, as a value. -/
@[reducible] def stepsV : Value := .agg #[.int .i64 1000000, .int .i64 2048, .int .i64 100000, .int .i64 512, .int .i64 10000, .int .i64 128, .int .i64 1000, .int .i64 32, .int .i64 100, .int .i64 8, .int .i64 10, .int .i64 2]

theorem step_at0 (w : World) : (Instr.index 43 (.agg #[.int .i64 1000000, .int .i64 2048, .int .i64 100000, .int .i64 512, .int .i64 10000, .int .i64 128, .int .i64 1000, .int .i64 32, .int .i64 100, .int .i64 8, .int .i64 10, .int .i64 2]) (.int .i64 0)).run Tryd.prog w = .ok (.agg #[.int .i64 1000000, .int .i64 2048]) w := by kernel_rfl

theorem step_at1 (w : World) : (Instr.index 43 (.agg #[.int .i64 1000000, .int .i64 2048, .int .i64 100000, .int .i64 512, .int .i64 10000, .int .i64 128, .int .i64 1000, .int .i64 32, .int .i64 100, .int .i64 8, .int .i64 10, .int .i64 2]) (.int .i64 1)).run Tryd.prog w = .ok (.agg #[.int .i64 100000, .int .i64 512]) w := by kernel_rfl

theorem step_at2 (w : World) : (Instr.index 43 (.agg #[.int .i64 1000000, .int .i64 2048, .int .i64 100000, .int .i64 512, .int .i64 10000, .int .i64 128, .int .i64 1000, .int .i64 32, .int .i64 100, .int .i64 8, .int .i64 10, .int .i64 2]) (.int .i64 2)).run Tryd.prog w = .ok (.agg #[.int .i64 10000, .int .i64 128]) w := by kernel_rfl

theorem step_at3 (w : World) : (Instr.index 43 (.agg #[.int .i64 1000000, .int .i64 2048, .int .i64 100000, .int .i64 512, .int .i64 10000, .int .i64 128, .int .i64 1000, .int .i64 32, .int .i64 100, .int .i64 8, .int .i64 10, .int .i64 2]) (.int .i64 3)).run Tryd.prog w = .ok (.agg #[.int .i64 1000, .int .i64 32]) w := by kernel_rfl

theorem step_at4 (w : World) : (Instr.index 43 (.agg #[.int .i64 1000000, .int .i64 2048, .int .i64 100000, .int .i64 512, .int .i64 10000, .int .i64 128, .int .i64 1000, .int .i64 32, .int .i64 100, .int .i64 8, .int .i64 10, .int .i64 2]) (.int .i64 4)).run Tryd.prog w = .ok (.agg #[.int .i64 100, .int .i64 8]) w := by kernel_rfl

theorem step_at5 (w : World) : (Instr.index 43 (.agg #[.int .i64 1000000, .int .i64 2048, .int .i64 100000, .int .i64 512, .int .i64 10000, .int .i64 128, .int .i64 1000, .int .i64 32, .int .i64 100, .int .i64 8, .int .i64 10, .int .i64 2]) (.int .i64 5)).run Tryd.prog w = .ok (.agg #[.int .i64 10, .int .i64 2]) w := by kernel_rfl

set_option maxHeartbeats 1000000 in
theorem ipieScale_any (p : Int) (w : World) (hs : Steps w) :
    Calls Tryd.prog 8 #[.int .i64 p] w fun e w' => e = .returned (.int .i64 (scaleB p)) ∧ Below w.heap.size w w' := by
  cases hi : inB p 0 2147483648
  case false =>
    have HE : Hid (scaleB p = 0) := by show _ = _; unfold scaleB; simp [hi]
    go_enter Tryd.func8, Tryd.ntmps8
    go_wp2_with (go_at_call 14; refine (within_any _ _ _ _).mono ?_; rintro e w' ⟨rfl, rfl⟩; rw [hi])
    go_ret
    exact ⟨ret_int HE.out.symm, Below.refl _ _⟩
  case true =>
    obtain ⟨S, hS⟩ : ∃ S, scaleF p = S := ⟨_, rfl⟩
    have HE : Hid (scaleB p = S) := by show _ = _; unfold scaleB; rw [hi, ← hS]; rfl
    have HS : Hid (scaleF p = S) := hS
    clear hS
    obtain ⟨s0, s1, s2, s3, s4, s5, s6, s7, s8, s9, s10, s11⟩ := hs
    go_enter Tryd.func8, Tryd.ntmps8
    go_wp2_with (go_at_call 14; refine (within_any _ _ _ _).mono ?_; rintro e w' ⟨rfl, rfl⟩; rw [hi])
    go_loopw [9] (fun i wr => ∃ k : Nat, ((k = 0) ∨ (k = 1 ∧ ¬ p < 2147) ∨ (k = 2 ∧ ¬ p < 21474) ∨ (k = 3 ∧ ¬ p < 214748) ∨ (k = 4 ∧ ¬ p < 2147483) ∨ (k = 5 ∧ ¬ p < 21474836) ∨ (k = 6 ∧ ¬ p < 214748364)) ∧ i = .int .i64 (k : Int) ∧ Below w'.heap.size w' wr) (fun i _ => 6 - (intOf i).toNat)
    case atStart => exact ⟨0, .inl rfl, rfl, Below.refl _ _⟩
    case round =>
      obtain ⟨k, hk, rfl, hB⟩ := hrel
      have hq0 : (2147483648 : Int).tdiv 1000000 = 2147 := by decide
      have hq1 : (2147483648 : Int).tdiv 100000 = 21474 := by decide
      have hq2 : (2147483648 : Int).tdiv 10000 = 214748 := by decide
      have hq3 : (2147483648 : Int).tdiv 1000 = 2147483 := by decide
      have hq4 : (2147483648 : Int).tdiv 100 = 21474836 := by decide
      have hq5 : (2147483648 : Int).tdiv 10 = 214748364 := by decide
      rcases hk with rfl | ⟨rfl, h0⟩ | ⟨rfl, h0⟩ | ⟨rfl, h0⟩ | ⟨rfl, h0⟩ | ⟨rfl, h0⟩ | ⟨rfl, h0⟩
      · have st := step_at0
        by_cases h : p < 2147
        · go_wp2
          go_ret
          exact ⟨ret_int (by rw [HE.out, ← HS.out]; unfold scaleF; rw [if_pos h]), hB.alloc hB.size _⟩
        · go_wp2
          exact ⟨⟨1, .inr (.inl ⟨rfl, h⟩), rfl, hB.alloc hB.size _⟩, by simp [intOf]⟩
      · have st := step_at1
        by_cases h : p < 21474
        · go_wp2
          go_ret
          exact ⟨ret_int (by rw [HE.out, ← HS.out]; unfold scaleF; rw [if_neg (show ¬ p < 2147 by omega), if_pos h]), hB.alloc hB.size _⟩
        · go_wp2
          exact ⟨⟨2, .inr (.inr (.inl ⟨rfl, h⟩)), rfl, hB.alloc hB.size _⟩, by simp [intOf]⟩
      · have st := step_at2
        by_cases h : p < 214748
        · go_wp2
          go_ret
          exact ⟨ret_int (by rw [HE.out, ← HS.out]; unfold scaleF; rw [if_neg (show ¬ p < 2147 by omega), if_neg (show ¬ p < 21474 by omega), if_pos h]), hB.alloc hB.size _⟩
        · go_wp2
          exact ⟨⟨3, .inr (.inr (.inr (.inl ⟨rfl, h⟩))), rfl, hB.alloc hB.size _⟩, by simp [intOf]⟩
      · have st := step_at3
        by_cases h : p < 2147483
        · go_wp2
          go_ret
          exact ⟨ret_int (by rw [HE.out, ← HS.out]; unfold scaleF; rw [if_neg (show ¬ p < 2147 by omega), if_neg (show ¬ p < 21474 by omega), if_neg (show ¬ p < 214748 by omega), if_pos h]), hB.alloc hB.size _⟩
        · go_wp2
          exact ⟨⟨4, .inr (.inr (.inr (.inr (.inl ⟨rfl, h⟩)))), rfl, hB.alloc hB.size _⟩, by simp [intOf]⟩
      · have st := step_at4
        by_cases h : p < 21474836
        · go_wp2
          go_ret
          exact ⟨ret_int (by rw [HE.out, ← HS.out]; unfold scaleF; rw [if_neg (show ¬ p < 2147 by omega), if_neg (show ¬ p < 21474 by omega), if_neg (show ¬ p < 214748 by omega), if_neg (show ¬ p < 2147483 by omega), if_pos h]), hB.alloc hB.size _⟩
        · go_wp2
          exact ⟨⟨5, .inr (.inr (.inr (.inr (.inr (.inl ⟨rfl, h⟩))))), rfl, hB.alloc hB.size _⟩, by simp [intOf]⟩
      · have st := step_at5
        by_cases h : p < 214748364
        · go_wp2
          go_ret
          exact ⟨ret_int (by rw [HE.out, ← HS.out]; unfold scaleF; rw [if_neg (show ¬ p < 2147 by omega), if_neg (show ¬ p < 21474 by omega), if_neg (show ¬ p < 214748 by omega), if_neg (show ¬ p < 2147483 by omega), if_neg (show ¬ p < 21474836 by omega), if_pos h]), hB.alloc hB.size _⟩
        · go_wp2
          exact ⟨⟨6, .inr (.inr (.inr (.inr (.inr (.inr (⟨rfl, h⟩)))))), rfl, hB.alloc hB.size _⟩, by simp [intOf]⟩
      · go_wp2
        go_ret
        exact ⟨ret_int (by rw [HE.out, ← HS.out]; unfold scaleF; rw [if_neg (show ¬ p < 2147 by omega), if_neg (show ¬ p < 21474 by omega), if_neg (show ¬ p < 214748 by omega), if_neg (show ¬ p < 2147483 by omega), if_neg (show ¬ p < 21474836 by omega), if_neg (show ¬ p < 214748364 by omega)]), hB⟩

set_option maxHeartbeats 1000000 in
theorem l6scale_any (p : Int) (w : World) :
    Calls Tryd.prog 24 #[.int .i64 p] w fun e w' => e = .returned (.int .i64 (scaleF p)) ∧ Kept w w' := by
  obtain ⟨S, hS⟩ : ∃ S, scaleF p = S := ⟨_, rfl⟩
  have HS : Hid (scaleF p = S) := hS
  rw [hS]
  clear hS
  go_enter Tryd.func24, Tryd.ntmps24
  go_wp2
  go_loop [5] (fun i => ∃ k : Nat, ((k = 0) ∨ (k = 1 ∧ ¬ p < 2147) ∨ (k = 2 ∧ ¬ p < 21474) ∨ (k = 3 ∧ ¬ p < 214748) ∨ (k = 4 ∧ ¬ p < 2147483) ∨ (k = 5 ∧ ¬ p < 21474836) ∨ (k = 6 ∧ ¬ p < 214748364)) ∧ i = .int .i64 (k : Int)) (fun i => 6 - (intOf i).toNat)
  case atStart => exact ⟨0, .inl rfl, rfl⟩
  case round =>
      obtain ⟨k, hk, rfl⟩ := hrel
      have hq0 : (2147483648 : Int).tdiv 1000000 = 2147 := by decide
      have hq1 : (2147483648 : Int).tdiv 100000 = 21474 := by decide
      have hq2 : (2147483648 : Int).tdiv 10000 = 214748 := by decide
      have hq3 : (2147483648 : Int).tdiv 1000 = 2147483 := by decide
      have hq4 : (2147483648 : Int).tdiv 100 = 21474836 := by decide
      have hq5 : (2147483648 : Int).tdiv 10 = 214748364 := by decide
      rcases hk with rfl | ⟨rfl, h0⟩ | ⟨rfl, h0⟩ | ⟨rfl, h0⟩ | ⟨rfl, h0⟩ | ⟨rfl, h0⟩ | ⟨rfl, h0⟩
      · by_cases h : p < 2147
        · go_wp2
          go_ret
          exact ⟨ret_int (by rw [← HS.out]; unfold scaleF; rw [if_pos h]), by constructor <;> go_grown⟩
        · go_wp2
          exact ⟨⟨1, .inr (.inl ⟨rfl, h⟩), rfl⟩, by simp [intOf]⟩
      · by_cases h : p < 21474
        · go_wp2
          go_ret
          exact ⟨ret_int (by rw [← HS.out]; unfold scaleF; rw [if_neg (show ¬ p < 2147 by omega), if_pos h]), by constructor <;> go_grown⟩
        · go_wp2
          exact ⟨⟨2, .inr (.inr (.inl ⟨rfl, h⟩)), rfl⟩, by simp [intOf]⟩
      · by_cases h : p < 214748
        · go_wp2
          go_ret
          exact ⟨ret_int (by rw [← HS.out]; unfold scaleF; rw [if_neg (show ¬ p < 2147 by omega), if_neg (show ¬ p < 21474 by omega), if_pos h]), by constructor <;> go_grown⟩
        · go_wp2
          exact ⟨⟨3, .inr (.inr (.inr (.inl ⟨rfl, h⟩))), rfl⟩, by simp [intOf]⟩
      · by_cases h : p < 2147483
        · go_wp2
          go_ret
          exact ⟨ret_int (by rw [← HS.out]; unfold scaleF; rw [if_neg (show ¬ p < 2147 by omega), if_neg (show ¬ p < 21474 by omega), if_neg (show ¬ p < 214748 by omega), if_pos h]), by constructor <;> go_grown⟩
        · go_wp2
          exact ⟨⟨4, .inr (.inr (.inr (.inr (.inl ⟨rfl, h⟩)))), rfl⟩, by simp [intOf]⟩
      · by_cases h : p < 21474836
        · go_wp2
          go_ret
          exact ⟨ret_int (by rw [← HS.out]; unfold scaleF; rw [if_neg (show ¬ p < 2147 by omega), if_neg (show ¬ p < 21474 by omega), if_neg (show ¬ p < 214748 by omega), if_neg (show ¬ p < 2147483 by omega), if_pos h]), by constructor <;> go_grown⟩
        · go_wp2
          exact ⟨⟨5, .inr (.inr (.inr (.inr (.inr (.inl ⟨rfl, h⟩))))), rfl⟩, by simp [intOf]⟩
      · by_cases h : p < 214748364
        · go_wp2
          go_ret
          exact ⟨ret_int (by rw [← HS.out]; unfold scaleF; rw [if_neg (show ¬ p < 2147 by omega), if_neg (show ¬ p < 21474 by omega), if_neg (show ¬ p < 214748 by omega), if_neg (show ¬ p < 2147483 by omega), if_neg (show ¬ p < 21474836 by omega), if_pos h]), by constructor <;> go_grown⟩
        · go_wp2
          exact ⟨⟨6, .inr (.inr (.inr (.inr (.inr (.inr (⟨rfl, h⟩)))))), rfl⟩, by simp [intOf]⟩
      · go_wp2
        go_ret
        exact ⟨ret_int (by rw [← HS.out]; unfold scaleF; rw [if_neg (show ¬ p < 2147 by omega), if_neg (show ¬ p < 21474 by omega), if_neg (show ¬ p < 214748 by omega), if_neg (show ¬ p < 2147483 by omega), if_neg (show ¬ p < 21474836 by omega), if_neg (show ¬ p < 214748364 by omega)]), by constructor <;> go_grown⟩

end Go.Proofs.YtkeccjomnmpcoacDoor
