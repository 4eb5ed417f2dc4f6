/-
  FOR THE LAW OF Push: what stands still while its drawn places are walked.
-/
import Derived.Test.YtfjdlfoonjnllakPushI
import Derived.Test.YtfjdlfoonjnllakPkMark
namespace Go.Proofs.Ytfjdlfoonjnllak
open Go.RowKit
set_option linter.unusedVariables false

@[reducible] def SX (v s : Nat) (a : Option Addr) (n c : Nat) (lim : Int) (p : Pk) (w' : World) : Prop := (w'.cell? ⟨v, 0, none⟩ = some (.slice a n c) ∧ w'.cell? ⟨v, 1, none⟩ = some (.int .i64 lim)) ∧ (w'.cell? ⟨s, 0, none⟩ = some (.int .i64 p.id) ∧ w'.cell? ⟨s, 1, none⟩ = some (.int .i64 p.flow) ∧ w'.cell? ⟨s, 2, none⟩ = some (.int .i64 p.host) ∧ w'.cell? ⟨s, 3, none⟩ = some (.int .i64 p.size) ∧ w'.cell? ⟨s, 4, none⟩ = some (.int .i64 p.tm) ∧ w'.cell? ⟨s, 5, none⟩ = some (.int .i64 p.ecn))
theorem vz_at {W0 W W' : World} {V : Nat} {vs : Array Value} {t : TypeId} (h : Lies W0 V vs t) (hb : Below W.heap.size W W') (e : W.heap = W0.heap) : Lies W' V vs t ∧ V < W.heap.size := by
  have h' : Lies W V vs t := by
    show W.heap[V]? = _
    rw [e]
    exact h
  exact ⟨h'.below hb h'.lt, h'.lt⟩
/-- The list lies in blocks of its own, and the box beside them. -/
def GZ (L5 : Nat) (w : World) (V : Nat) (x : Option Addr) (N : Nat) (G : Nat → Pk) : Prop := ∃ Lg Ug : Nat, ZI Lg Ug w x (N * 6) (flat G) ∧ (V < Lg ∨ Ug ≤ V) ∧ L5 ≤ Lg ∧ Lg ≤ w.heap.size
theorem GZ.new {L5 base : Nat} {w : World} {x : Option Addr} {N c : Nat} {G : Nat → Pk} (h : PO base w x N c G) (h5 : L5 ≤ base) (hb : base ≤ w.heap.size) (o : Obj) : GZ L5 (w.alloc o) w.heap.size x N G :=
  ⟨base, w.heap.size, h.zi.below ((Below.refl _ _).alloc (Nat.le_refl _) _), .inr (Nat.le_refl _), h5, by simp; omega⟩
theorem GZ.set {L5 base V : Nat} {w : World} {x : Option Addr} {N c : Nat} {G : Nat → Pk} (h : PO base w x N c G) (hV : V < base) (h5 : L5 ≤ base) (hb : base ≤ w.heap.size) (a b : Value) : GZ L5 ((w.setCell ⟨V, 0, none⟩ a).setCell ⟨V, 1, none⟩ b) V x N G :=
  ⟨base, _, ((h.far hV 0 a).far hV 1 b).zi, .inl hV, h5, by simp; omega⟩

end Go.Proofs.Ytfjdlfoonjnllak
