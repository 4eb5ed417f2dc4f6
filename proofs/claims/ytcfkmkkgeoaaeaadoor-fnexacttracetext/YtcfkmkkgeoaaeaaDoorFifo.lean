/-
  WHICH QUEUES ARE WELL: FifoOk OF BOTH SIDES.
-/
import Derived.Test.YtcfkmkkgeoaaeaaDoorLine
import Derived.Deep.RegionHeld3
import Derived.Deep.Quiet
import Derived.Deep.QuietTactic
import Derived.BigQuiet
namespace Go.Proofs.YtcfkmkkgeoaaeaaDoor
open Go.RowKit
set_option linter.unusedVariables false

theorem below_drewN {n : Nat} {w w' : World} (h : Below n w w') (k : Nat) : Below n w (w'.drewN k) := ⟨h.os, h.tape, h.output, h.size, h.block⟩

/-- Is it a queue? -/
def fifoB (f : Nat → Pk) (n : Nat) (lim : Int) : Bool := inB lim 1 40 && (decide ((n : Int) ≤ lim) && lineB f n)

/-- j bears with all ahead of it, as the specification asks: the time of the one ahead alone. -/
def atS (f : Nat → Pk) (j : Nat) : Prop := (f j).good = true ∧ (0 < j → (f (j - 1)).tm ≤ (f j).tm) ∧ ∀ k, k < j → (f k).id ≠ (f j).id
theorem line_iff (f : Nat → Pk) (n : Nat) : lineP f n ↔ ∀ j, j < n → atS f j := by
  constructor
  · intro h j hj
    obtain ⟨h1, h2⟩ := h j hj
    exact ⟨h1, fun h0 => (h2 (j - 1) (by omega)).1, fun k hk => (h2 k hk).2⟩
  · intro h
    have mono : ∀ j, j < n → ∀ k, k ≤ j → (f k).tm ≤ (f j).tm := by
      intro j
      induction j with
      | zero => intro _ k hk; have e : k = 0 := by omega
                rw [e]; exact Int.le_refl _
      | succ j ih =>
        intro hj k hk
        by_cases e : k = j + 1
        · subst e; exact Int.le_refl _
        · have h1 := ih (by omega) k (by omega)
          have h2 := (h (j + 1) hj).2.1 (by omega)
          simp at h2
          omega
    intro j hj
    exact ⟨(h j hj).1, fun k hk => ⟨mono j hj k (by omega), (h j hj).2.2 k hk⟩⟩
theorem line_no {f : Nat → Pk} {n j : Nat} (hj : j < n) (h : ¬ atS f j) : lineB f n = false := decide_eq_false fun hl => h ((line_iff f n).1 hl j hj)
theorem line_yes {f : Nat → Pk} {n : Nat} (h : ∀ j, j < n → atS f j) : lineB f n = true := decide_eq_true ((line_iff f n).2 h)

end Go.Proofs.YtcfkmkkgeoaaeaaDoor
