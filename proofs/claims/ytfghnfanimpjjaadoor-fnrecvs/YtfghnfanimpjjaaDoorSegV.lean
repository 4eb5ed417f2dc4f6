/-
  RecvSeg OF THE SPECIFICATION.
-/
import Derived.Test.YtfghnfanimpjjaaDoorSegU
namespace Go.Proofs.YtfghnfanimpjjaaDoor
open Go.RowKit
set_option linter.unusedVariables false

theorem SR.congr {n₀ : Nat} {w : World} {a : Option Addr} {n : Nat} {f g : Nat → Sp} (h : SR n₀ w a n f) (e : ∀ i, i < n → f i = g i) : SR n₀ w a n g := by
  rcases h with h | ⟨b, off, ha, hlt, hc⟩
  · exact .inl h
  · exact .inr ⟨b, off, ha, hlt, fun i hi => by rw [← e i hi]; exact hc i hi⟩
theorem recvB_eq {nx : Int} {f : Nat → Sp} {n : Nat} : recvB nx f n = true ↔ recvP nx f n := decide_eq_true_iff

end Go.Proofs.YtfghnfanimpjjaaDoor
