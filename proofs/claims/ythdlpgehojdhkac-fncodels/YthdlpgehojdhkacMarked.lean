/-
  THE LAWS' bare: a packet without what is said of marks.
-/
import Derived.Test.YthdlpgehojdhkacDrawPk
namespace Go.Proofs.Ythdlpgehojdhkac
open Go.RowKit
set_option linter.unusedVariables false

def Pk.bare (p : Pk) : Pk := ⟨p.id, p.flow, p.host, p.size, p.tm, 0⟩

set_option maxHeartbeats 1000000 in
theorem bare_any (p : Pk) (w : World) :
    Calls Try.prog 40 #[p.val] w fun e w' => e = .returned p.bare.val ∧ Kept w w' := by
  obtain ⟨a, b, c, d, t, g⟩ := p
  simp only [Pk.val, Pk.bare]
  go_enter Try.func40, Try.ntmps40
  go_wp2
  exact bodyPost_ret (ret_p (p := ⟨a, b, c, d, t, 0⟩) (t := 45) (B := w.heap.size + 1) Try.results40 rfl (Sits.new' (by simp))) rfl ⟨rfl, (Kept.alloc _ _ _).trans (Kept.alloc _ _ _)⟩

end Go.Proofs.Ythdlpgehojdhkac
