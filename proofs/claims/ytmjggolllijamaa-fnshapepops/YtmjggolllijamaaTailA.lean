/-
  A LIST WITHOUT ITS FIRST: what s[1:] yields, whatever its capacity, as a rule for the walk.
-/
import Derived.Test.YtmjggolllijamaaAppIn
namespace Go.Proofs.Ytmjggolllijamaa
open Go.RowKit
set_option linter.unusedVariables false

/-- Where s[1:] begins: a slice whose capacity is used up stays where it was. -/
def tlA (g cap k : Nat) : Option Addr := if cap = 1 then some ⟨g, 0, none⟩ else some ⟨g, k, none⟩
theorem slice_tail_in (g m cap : Nat) (w : World) (h : m + 1 ≤ cap) : Sem.run Try.prog (Instr.slice 23 (.slice (some ⟨g, 0, none⟩) (m + 1) cap) (some (.int .i64 1)) none none) w = .ok (.slice (tlA g cap 1) m (cap - 1)) w := by
  have h1 : ¬ ((m : Int) + 1 < 1) := by omega
  have h2 : ¬ ((cap : Int) < (m : Int) + 1) := by omega
  unfold tlA
  by_cases hc : cap = 1
  · subst hc
    obtain rfl : m = 0 := by omega
    go_simp
  · have hc' : ¬ 1 = cap := fun e => hc e.symm
    go_simp
theorem slice_tail_pk (g m cap : Nat) (w : World) (h : m + 1 ≤ cap) : Sem.run Try.prog (Instr.slice 48 (.slice (some ⟨g, 0, none⟩) (m + 1) cap) (some (.int .i64 1)) none none) w = .ok (.slice (tlA g cap 6) m (cap - 1)) w := by
  have h1 : ¬ ((m : Int) + 1 < 1) := by omega
  have h2 : ¬ ((cap : Int) < (m : Int) + 1) := by omega
  unfold tlA
  by_cases hc : cap = 1
  · subst hc
    obtain rfl : m = 0 := by omega
    go_simp
  · have hc' : ¬ 1 = cap := fun e => hc e.symm
    go_simp
theorem tl_row {w : World} {g m cap : Nat} {f : Nat → Int} (h : m + 1 ≤ cap) (hg : g < w.heap.size) (hc : ∀ i, i < m + 1 → w.cell? ⟨g, i, none⟩ = some (.int .i64 (f i))) : Row .i64 w (tlA g cap 1) m (fun i => f (i + 1)) := by
  unfold tlA
  by_cases e : cap = 1
  · exact .inl (by omega)
  · rw [if_neg e]
    exact .inr ⟨g, 1, rfl, hg, fun i hi => by rw [Nat.add_comm 1 i]; exact hc (i + 1) (by omega)⟩
theorem tl_pr {w : World} {n₀ g m cap : Nat} {f : Nat → Pk} (h : m + 1 ≤ cap) (hg : g < n₀) (hc : ∀ i, i < m + 1 → PAt w g (i * 6) (f i)) : PR n₀ w (tlA g cap 6) m (fun i => f (i + 1)) := by
  unfold tlA
  by_cases e : cap = 1
  · exact .inl (by omega)
  · rw [if_neg e]
    exact .inr ⟨g, 6, rfl, hg, fun i hi => by rw [show 6 + i * 6 = (i + 1) * 6 by omega]; exact hc (i + 1) (by omega)⟩

end Go.Proofs.Ytmjggolllijamaa
