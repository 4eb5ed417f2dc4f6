/-
  WHAT THE SPECIFICATION's READER OF FRAMES ANSWERS WHERE THE BYTES ARE A FRAME.
-/
import Derived.Test.YtkhfcemjmnjkdaaIParse
namespace Go.Proofs.Ytkhfcemjmnjkdaa
open Go.RowKit
set_option linter.unusedVariables false


theorem ownEmpty (w : World) (H : Nat) (hH : w.heap.size = H) : (w.alloc (.cells #[] 5)).ownsRow H 5 1 (.slice (some ⟨H, 0, none⟩) 0 0) 0 [] := by
  subst hH
  exact World.ownsRow_made w #[] 0 (Nat.le_refl _) (by unfold maxLen; omega) rfl
theorem newsOf {w w' : World} {b off n m : Nat} {f : Nat → Int} (hc : ∀ i, i < n → w.cell? ⟨b, off + i, none⟩ = some (.int .u8 (f i))) (hb : Below w.heap.size w w') (hlt : b < w.heap.size) (hm : 24 + m ≤ n) :
    ∀ j u, ((List.range m).map fun j => Value.int .u8 (f (24 + j)))[j]? = some u → w'.cell? ((⟨b, off + 24, none⟩ : Addr).add j) = some u := by
  intro j u hu
  by_cases hj : j < m
  · simp [hj] at hu
    subst hu
    have := (hb.cell (p := ⟨b, off + (24 + j), none⟩) hlt).trans (hc (24 + j) (by omega))
    rw [WideShapes.add_plain, Nat.add_assoc]
    exact this
  · simp [hj] at hu


/-- What lies ahead of the row that grew is as it was. -/
theorem grown_rules {w w' : World} {k H : Nat} (hg : w.grownBy w' (some k)) (h1 : H < w.heap.size) (h2 : H < k) : (∀ o, w'.cell? ⟨H, o, none⟩ = w.cell? ⟨H, o, none⟩) ∧ (∀ o, w'.frozen? ⟨H, o, none⟩ = w.frozen? ⟨H, o, none⟩) :=
  ⟨fun o => hg.cell_far ⟨H, o, none⟩ h1 (by simp; omega), fun o => hg.frozen_far ⟨H, o, none⟩ h1 (by simp; omega)⟩

end Go.Proofs.Ytkhfcemjmnjkdaa
