/-
  A NEW QUEUE: FifoNew OF BOTH SIDES.
-/
import Derived.Test.YtkmiijgoinpndaaPkS
namespace Go.Proofs.Ytkmiijgoinpndaa
open Go.RowKit
set_option linter.unusedVariables false

theorem fifoB_none (f : Nat → Pk) (lim : Int) : fifoB f 0 lim = inB lim 1 40 := by
  unfold fifoB
  have h : lineB f 0 = true := decide_eq_true fun j hj => absurd hj (Nat.not_lt_zero _)
  rw [h]
  cases h2 : inB lim 1 40
  · rfl
  · have : (1 : Int) ≤ lim := by unfold inB at h2; simp at h2; omega
    simp; omega
theorem pr_none (n₀ : Nat) (w : World) (a : Option Addr) (f : Nat → Pk) : PR n₀ w a 0 f := .inl rfl

set_option maxHeartbeats 1000000 in
theorem ififoNew_any (lim : Int) (w : World) :
    Calls Try.prog 21 #[.int .i64 lim] w fun e w' => e = .returned (.tuple #[fiVal none 0 0 (if inB lim 1 40 then lim else 0), .bool (inB lim 1 40)]) ∧ Below w.heap.size w w' := by
  have hf := fifoB_none (fun _ => default) lim
  cases hb : inB lim 1 40
  case false =>
    rw [hb] at hf
    go_enter Try.func21, Try.ntmps21
    go_wp2_with (go_at_call 10; refine (ififoOk_any none 0 0 (fun _ => default) lim _ (by omega) (Nat.le_refl _) (pr_none _ _ _ _)).mono ?_; rintro e w1 ⟨rfl, b1⟩; rw [hf]; have pc := fun o => b1.cell (p := ⟨w.heap.size, o, none⟩) (by simp <;> omega); have pf := fun o => b1.frozen (p := ⟨w.heap.size, o, none⟩) (by simp <;> omega))
    refine bodyPost_ret (v := .tuple #[.agg #[.slice none 0 0, .int .i64 0], .bool false]) (by simp [results, Try.results21, go_sem, pc]) rfl ⟨rfl, ?_⟩
    exact (((((Below.refl w.heap.size w).alloc (Nat.le_refl _) _).alloc (by simp) _).trans (b1.mono (by simp; omega))).setCell (Nat.le_refl _) _).setCell (Nat.le_refl _) _
  case true =>
    rw [hb] at hf
    go_enter Try.func21, Try.ntmps21
    go_wp2_with (go_at_call 10; refine (ififoOk_any none 0 0 (fun _ => default) lim _ (by omega) (Nat.le_refl _) (pr_none _ _ _ _)).mono ?_; rintro e w1 ⟨rfl, b1⟩; rw [hf]; have pc := fun o => b1.cell (p := ⟨w.heap.size, o, none⟩) (by simp <;> omega); have pf := fun o => b1.frozen (p := ⟨w.heap.size, o, none⟩) (by simp <;> omega); have pd := fun o => b1.cell (p := ⟨w.heap.size + 1, o, none⟩) (by simp <;> omega))
    refine bodyPost_ret (v := .tuple #[.agg #[.slice none 0 0, .int .i64 lim], .bool true]) (by simp [results, Try.results21, go_sem, pc]) rfl ⟨rfl, ?_⟩
    exact (((((Below.refl w.heap.size w).alloc (Nat.le_refl _) _).alloc (by simp) _).trans (b1.mono (by simp; omega))).setCell (Nat.le_refl _) _).setCell (Nat.le_refl _) _

end Go.Proofs.Ytkmiijgoinpndaa
