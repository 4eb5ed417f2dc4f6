/-
  HOW LONG THE FIRST ONE HAS WAITED, AND HOW MANY BYTES THERE ARE: Waits AND Bytes OF BOTH SIDES.
-/
import Derived.Test.YtmjggolllijamaaFifo
namespace Go.Proofs.Ytmjggolllijamaa
open Go.RowKit Go.Shelf
set_option linter.unusedVariables false
attribute [local go_sem] Oper.semAt_some

theorem good_nums {p : Pk} (h : p.good = true) : (0 ≤ p.id ∧ p.id ≤ 1000000000000) ∧ (0 ≤ p.tm ∧ p.tm ≤ 1000000000000) ∧ (0 ≤ p.flow ∧ p.flow ≤ 15) ∧ (0 ≤ p.host ∧ p.host ≤ 3) ∧ (1 ≤ p.size ∧ p.size ≤ 2000) ∧ (0 ≤ p.ecn ∧ p.ecn ≤ 3) := by
  unfold Pk.good inB at h
  simp only [Bool.and_eq_true, decide_eq_true_eq] at h
  omega
theorem fifo_nums {f : Nat → Pk} {n : Nat} {lim : Int} (h : fifoB f n lim = true) : 1 ≤ lim ∧ lim ≤ 40 ∧ (n : Int) ≤ lim ∧ lineP f n := by
  unfold fifoB inB lineB at h
  simp only [Bool.and_eq_true, decide_eq_true_eq] at h
  exact ⟨h.1.1, h.1.2, h.2.1, h.2.2⟩

/-- How long the first one has waited. -/
def waitsF (f : Nat → Pk) (n : Nat) (lim now : Int) : Int := if fifoB f n lim = true ∧ 0 < n ∧ (f 0).tm ≤ now ∧ now ≤ 1000000000000 then now - (f 0).tm else 0

end Go.Proofs.Ytmjggolllijamaa
