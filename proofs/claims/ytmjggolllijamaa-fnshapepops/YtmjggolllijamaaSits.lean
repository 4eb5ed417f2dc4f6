/-
  A BLOCK OF CELLS THAT LIES IN MEMORY, and what is known of it behind stores, new blocks and calls.
-/
import Derived.Test.YtmjggolllijamaaBase
namespace Go.Proofs.Ytmjggolllijamaa
open Go.RowKit
set_option linter.unusedVariables false

/-- Block B holds these cells. -/
def Sits (W : World) (B : Nat) (vs : Array Value) (t : TypeId) : Prop := W.heap[B]? = some (.cells vs t)
theorem Sits.lt {W : World} {B : Nat} {vs : Array Value} {t : TypeId} (h : Sits W B vs t) : B < W.heap.size := (Array.getElem?_eq_some_iff.1 h).1
theorem Sits.new (W : World) (vs : Array Value) (t : TypeId) : Sits (W.alloc (.cells vs t)) W.heap.size vs t := by show (W.heap.push _)[W.heap.size]? = _; simp
theorem Sits.new' {W : World} {vs : Array Value} {t : TypeId} {n : Nat} (h : W.heap.size = n) : Sits (W.alloc (.cells vs t)) n vs t := h ▸ Sits.new W vs t
theorem Sits.alloc {W : World} {B : Nat} {vs : Array Value} {t : TypeId} (h : Sits W B vs t) (o : Obj) : Sits (W.alloc o) B vs t := (Below.heap_alloc W o B h.lt).trans h
theorem Sits.drew {W : World} {B : Nat} {vs : Array Value} {t : TypeId} (h : Sits W B vs t) : Sits W.drew B vs t := h
theorem Sits.below {W W' : World} {B : Nat} {vs : Array Value} {t : TypeId} (h : Sits W B vs t) {n : Nat} (hb : Below n W W') (hn : B < n) : Sits W' B vs t := (hb.block B hn).trans h
theorem Sits.kept {W W' : World} {B : Nat} {vs : Array Value} {t : TypeId} (h : Sits W B vs t) (hb : Kept W W') : Sits W' B vs t := h.below hb.1 h.lt
theorem Sits.cell {W : World} {B : Nat} {vs : Array Value} {t : TypeId} (h : Sits W B vs t) (k : Nat) : W.cell? ⟨B, k, none⟩ = vs[k]? := by simp [World.cell?, show W.heap[B]? = _ from h]
theorem Sits.frozen {W : World} {B : Nat} {vs : Array Value} {t : TypeId} (h : Sits W B vs t) (k : Nat) : W.frozen? ⟨B, k, none⟩ = false := by simp [World.frozen?, show W.heap[B]? = _ from h]
theorem Sits.other {W : World} {B : Nat} {vs : Array Value} {t : TypeId} (h : Sits W B vs t) {B' k : Nat} (hne : B ≠ B') (u : Value) : Sits (W.setCell ⟨B', k, none⟩ u) B vs t := (Below.heap_setCell W ⟨B', k, none⟩ u B hne).trans h
theorem Sits.set {W : World} {B : Nat} {vs : Array Value} {t : TypeId} (h : Sits W B vs t) (k : Nat) (v : Value) : Sits (W.setCell ⟨B, k, none⟩ v) B (vs.setIfInBounds k v) t := by
  have h' : W.heap[B]? = some (.cells vs t) := h
  show (W.heap.modify B _)[B]? = _
  rw [Array.getElem?_modify]
  simp [h']

end Go.Proofs.Ytmjggolllijamaa
