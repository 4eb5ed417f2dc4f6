/-
  FOR THE LAW OF Late: what stands still while its drawn places are walked.
-/
import Derived.Test.YtgmecbjdiinkiamLateS
import Derived.Test.YtgmecbjdiinkiamPkMark
namespace Go.Proofs.Ytgmecbjdiinkiam
open Go.RowKit
set_option linter.unusedVariables false

@[reducible] def SL (s : Nat) (r : Cd) (v : Nat) (a : Option Addr) (n c : Nat) (lim : Int) (w' : World) : Prop := (w'.cell? ⟨s, 0, none⟩ = some (.int .i64 r.tg) ∧ w'.cell? ⟨s, 1, none⟩ = some (.int .i64 r.iv) ∧ w'.cell? ⟨s, 2, none⟩ = some (.int .i64 r.fi) ∧ w'.cell? ⟨s, 3, none⟩ = some (.int .i64 r.nx) ∧ w'.cell? ⟨s, 4, none⟩ = some (.int .i64 r.ct) ∧ w'.cell? ⟨s, 5, none⟩ = some (.int .i64 r.la) ∧ w'.cell? ⟨s, 6, none⟩ = some (.bool r.dr)) ∧ (w'.cell? ⟨v, 0, none⟩ = some (.slice a n c) ∧ w'.cell? ⟨v, 1, none⟩ = some (.int .i64 lim))
theorem sv_at {W0 W W' : World} {V : Nat} {vs : Array Value} {t : TypeId} (h : Sits W0 V vs t) (hb : Below W.heap.size W W') (e : W.heap = W0.heap) : Sits W' V vs t ∧ V < W.heap.size := by
  have h' : Sits W V vs t := by
    show W.heap[V]? = _
    rw [e]
    exact h
  exact ⟨h'.below hb h'.lt, h'.lt⟩
theorem sits_new' {W : World} {vs : Array Value} {t : TypeId} {n : Nat} (h : W.heap.size = n) : Sits (W.alloc (.cells vs t)) n vs t := h ▸ Sits.new W vs t

end Go.Proofs.Ytgmecbjdiinkiam
