/-
  lineOk: WHICH LISTS OF PACKETS ARE A LINE: each a packet, none ahead of one with a lesser time, no two with one number.
-/
import Derived.Test.YtcfkmkkgeoaaeaaDoorTold
import Derived.Scope
namespace Go.Proofs.YtcfkmkkgeoaaeaaDoor
open Go.RowKit Go.Shelf
set_option linter.unusedVariables false
attribute [local go_sem] Oper.semAt_some

/-- k, ahead of j, bears with it. -/
def pairP (f : Nat → Pk) (k j : Nat) : Prop := (f k).tm ≤ (f j).tm ∧ (f k).id ≠ (f j).id
/-- j bears with all ahead of it. -/
def atP (f : Nat → Pk) (j : Nat) : Prop := (f j).good = true ∧ ∀ k, k < j → pairP f k j
def lineP (f : Nat → Pk) (n : Nat) : Prop := ∀ j, j < n → atP f j
instance (f : Nat → Pk) (k j : Nat) : Decidable (pairP f k j) := by unfold pairP; infer_instance
instance (f : Nat → Pk) (j : Nat) : Decidable (atP f j) := by unfold atP; infer_instance
instance (f : Nat → Pk) (n : Nat) : Decidable (lineP f n) := by unfold lineP; infer_instance
def lineB (f : Nat → Pk) (n : Nat) : Bool := decide (lineP f n)
def okPairs (f : Nat → Pk) (len j : Nat) (pre : List (Upto len)) : Prop := ∀ y ∈ pre, pairP f y.1 j
def badPairs (f : Nat → Pk) (len j : Nat) (pre : List (Upto len)) : Prop := ∃ y ∈ pre, ¬ pairP f y.1 j

/-- A block that is some cells. -/
def Lies (W : World) (B : Nat) (vs : Array Value) (t : TypeId) : Prop := W.heap[B]? = some (.cells vs t)
theorem Lies.lt {W : World} {B : Nat} {vs : Array Value} {t : TypeId} (h : Lies W B vs t) : B < W.heap.size := (Array.getElem?_eq_some_iff.1 h).1
theorem Lies.new (W : World) (vs : Array Value) (t : TypeId) : Lies (W.alloc (.cells vs t)) W.heap.size vs t := World.alloc_heap_new W _
theorem Lies.kept {W W' : World} {row : Option Nat} {B : Nat} {vs : Array Value} {t : TypeId} (h : Lies W B vs t) (hg : W.grownBy W' row) (hne : some B ≠ row) : Lies W' B vs t := (hg.block B h.lt hne).trans h
theorem Lies.alloc {W : World} {B : Nat} {vs : Array Value} {t : TypeId} (h : Lies W B vs t) (o : Obj) : Lies (W.alloc o) B vs t := h.kept (World.grownBy_alloc W o none) (by simp)
theorem Lies.below {W W' : World} {B : Nat} {vs : Array Value} {t : TypeId} (h : Lies W B vs t) {n : Nat} (hb : Below n W W') (hn : B < n) : Lies W' B vs t := (hb.block B hn).trans h
theorem Lies.other {W : World} {B B' : Nat} {vs : Array Value} {t : TypeId} (h : Lies W B vs t) (hne : B ≠ B') (u : Value) : Lies (W.setCell ⟨B', 0, none⟩ u) B vs t := h.kept (grownBy_setCell' W B' u) (fun e => hne (by cases e; rfl))
theorem lies_own {β : Type} (B : Nat) (vs : Array Value) (t : TypeId) : Own (fun (_ : β) W => Lies W B vs t) := fun s X Y row hs hg hrow =>
  hs.kept hg (fun e' => by obtain ⟨o, ho, hc⟩ := hrow B e'.symm; rw [show X.heap[B]? = _ from hs] at ho; cases ho; cases hc)
theorem Lies.pk {W : World} {B : Nat} {p : Pk} {t : TypeId} (h : Lies W B (pkCells p) t) : PAt W B 0 p := by
  refine ⟨?_, ?_, ?_, ?_, ?_, ?_⟩ <;> simp [World.cell?, show W.heap[B]? = _ from h]
theorem boxed_below {W W' : World} {B : Nat} {t : TypeId} {v : Value} (h : Boxed W B t v) {n : Nat} (hb : Below n W W') (hn : B < n) : Boxed W' B t v := (hb.block B hn).trans h
/-- What keeps all that lay keeps whatever is no cells. -/
theorem keepsFrom_below {B : Nat} {W W' : World} (h : Below W.heap.size W W') : KeepsFrom B W W' := ⟨h.size, fun k o _ hk _ => (h.block k (Array.getElem?_eq_some_iff.1 hk).1).trans hk⟩

/-- A scope through which the run goes without a goto, at the wide fence. -/
theorem wpIn_scope_wide {n : Nat} {P : Program} {c : Code} {Q : Exit → Act → World → Prop} {a : Act} {w : World} (h : c.wpIn Fence.wide n P (Exit.noGoto Q) a w) : (Code.scope c).wpIn Fence.wide n P Q a w := wpIn_wide.2 (wp_scope_straight (wpIn_wide.1 h))

end Go.Proofs.YtcfkmkkgeoaaeaaDoor
