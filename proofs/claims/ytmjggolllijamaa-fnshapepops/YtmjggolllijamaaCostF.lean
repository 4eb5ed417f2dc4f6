/-
  WHAT A PACKET COSTS, BY NUMBERS; the specification's l8cost.
-/
import Derived.Test.YtmjggolllijamaaShapeB
import Derived.Test.YtmjggolllijamaaTimes
namespace Go.Proofs.Ytmjggolllijamaa
open Go.RowKit
set_option linter.unusedVariables false

/-- How long x bytes take, with what they are wrapped in. -/
def costF (s : Sh) (x : Int) : Int := upF ((x + s.ov) * 1000000000) s.rt
theorem cost_small {rt ov x : Int} (h0 : 1000 ≤ rt) (h1 : rt ≤ 1000000000000) (h2 : 0 ≤ ov) (h3 : ov ≤ 200) (h4 : 1 ≤ x) (h5 : x ≤ 2000) : (x + ov) * 1000000000 / rt ≤ 2200000000 ∧ 0 ≤ (x + ov) * 1000000000 / rt := by
  have hp : 0 ≤ (x + ov) * 1000000000 := by omega
  refine ⟨?_, Int.ediv_nonneg hp (by omega)⟩
  have := Int.ediv_le_ediv (show (0 : Int) < 1000 by omega) (show (x + ov) * 1000000000 ≤ 2200000000000 by omega)
  have h6 : (x + ov) * 1000000000 / rt ≤ (x + ov) * 1000000000 / 1000 := by
    apply Int.ediv_le_of_le_mul (by omega)
    have h7 : (x + ov) * 1000000000 = (x + ov) * 1000000 * 1000 := by omega
    rw [h7, Int.mul_ediv_cancel _ (by omega)]
    exact Int.mul_le_mul_of_nonneg_left h0 (by omega)
  omega
theorem up_small {n c : Int} (h : n / c ≤ 2200000000) (h0 : 0 ≤ n / c) : 0 ≤ upF n c ∧ upF n c ≤ 2200000001 := by
  unfold upF; split <;> omega

theorem l8cost_any (s : Sh) (a : Option Addr) (N ca : Nat) (b : Option Addr) (n c : Nat) (v : Int) (w : World) (hs : numP s) (f0 : 1 ≤ v) (f1 : v ≤ 2000) :
    Calls Try.prog 61 #[shVal s a N ca b n c, .int .i64 v] w fun e w' => e = .returned (.int .i64 (costF s v)) ∧ Below w.heap.size w w' := by
  obtain ⟨⟨r0, r1⟩, ⟨o0, o1⟩, _⟩ := hs
  have s0 := Sits.new w (shCells s a N ca b n c) 29
  have b0 : Below w.heap.size w (w.alloc (.cells (shCells s a N ca b n c) 29)) := (Below.refl _ w).alloc (Nat.le_refl _) _
  have HB0 : Hid (Below _ _ _) := b0
  have x0 := s0.cell 0
  have x1 := s0.cell 1
  obtain ⟨q0, q1⟩ := cost_small r0 r1 o0 o1 f0 f1
  have HC : Hid ((v + s.ov) * 1000000000 / s.rt < 9223372036854775807) := by show _ < _; omega
  clear q0 q1 s0 b0
  go_enter Try.func61, Try.ntmps61
  go_wp2_with (go_at_call 80; refine (timeOf_spec_ok (v + s.ov) s.rt (by omega) (by omega) (by omega) (by omega) HC.out _).mono ?_; rintro e w1 ⟨rfl, rfl⟩)
  go_ret
  exact ⟨rfl, HB0.out⟩

end Go.Proofs.Ytmjggolllijamaa
