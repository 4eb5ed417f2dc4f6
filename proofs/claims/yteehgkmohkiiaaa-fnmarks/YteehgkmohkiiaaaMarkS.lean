/-
  THE SPECIFICATION's l2mark.
-/
import Derived.Test.YteehgkmohkiiaaaMark0
import Derived.Test.YteehgkmohkiiaaaAppByS
namespace Go.Proofs.Yteehgkmohkiiaaa
open Go.RowKit
set_option linter.unusedVariables false

theorem or3_all : ∀ k : Fin 256, bits .or .u8 ((k.1 : Nat) : Int) 3 = or3 ((k.1 : Nat) : Int) := by decide +kernel
theorem or_3u8 (x : Int) (h : 0 ≤ x ∧ x ≤ 255) : bits .or .u8 x 3 = or3 x := by
  obtain ⟨k, rfl⟩ := Int.eq_ofNat_of_zero_le h.1
  exact or3_all ⟨k, by omega⟩
theorem by_empty (w : World) (base : Nat) (hb : base ≤ w.heap.size) (f : Nat → Int) : BO base (w.alloc (.cells #[] 5)) (some ⟨w.heap.size, 0, none⟩) 0 0 f :=
  ⟨by simp [byL], .inr ⟨w.heap.size, 0, #[], rfl, hb, Sits.new _ _ _, Nat.le_refl _, by unfold maxLen; omega, by simp, by simp [byL]⟩⟩

end Go.Proofs.Yteehgkmohkiiaaa
