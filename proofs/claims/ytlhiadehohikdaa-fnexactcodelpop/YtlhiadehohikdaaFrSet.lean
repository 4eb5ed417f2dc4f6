/-
  A FRAME WITH SOME OF ITS SLOTS SET.
-/
import Derived.Test.YtlhiadehohikdaaRegInv
namespace Go.Proofs.Ytlhiadehohikdaa
open Go.RowKit
set_option linter.unusedVariables false

/-- The frame with these slots set. -/
def setAll (a : Act) : List (Nat × Value) → Act
  | [] => a
  | (s, v) :: r => setAll { a with tmps := a.tmps.setIfInBounds s v } r
theorem setAll_self (a : Act) : ∀ (l : List (Nat × Value)), (∀ x ∈ l, x.2 = a.tmps.getD x.1 undef) → setAll a l = a
  | [], _ => rfl
  | (s, v) :: r, h => by
    have hv : v = a.tmps.getD s undef := h (s, v) (by simp)
    have e : a.tmps.setIfInBounds s v = a.tmps := by
      subst hv
      apply Array.ext
      · simp
      · intro i h1 h2
        rw [Array.getElem_setIfInBounds]
        split
        · rename_i he
          subst he
          simp [Array.getD_eq_getD_getElem?, h2]
        · rfl
    show setAll { a with tmps := a.tmps.setIfInBounds s v } r = a
    rw [e]
    exact setAll_self a r fun x hx => h x (by simp [hx])

/-- Three boxes: the first, the second, the third is laid, is there, is written. -/
theorem WS.alloc0 {v w : World} {zs : List ZoneL} {b c : List Box} {cs : Array Value} {t : TypeId} (h : WS v zs ([] ++ (b ++ c)) w) : WS v zs ([(w.heap.size, cs, t)] ++ (b ++ c)) (w.alloc (.cells cs t)) := WS.alloc (A := []) (C := b ++ c) h cs t
theorem WS.alloc1 {v w : World} {zs : List ZoneL} {a c : List Box} {cs : Array Value} {t : TypeId} (h : WS v zs (a ++ ([] ++ c)) w) : WS v zs (a ++ ([(w.heap.size, cs, t)] ++ c)) (w.alloc (.cells cs t)) := WS.alloc (A := a) (C := c) h cs t
theorem WS.alloc2 {v w : World} {zs : List ZoneL} {a b : List Box} {cs : Array Value} {t : TypeId} (h : WS v zs (a ++ (b ++ [])) w) : WS v zs (a ++ (b ++ [(w.heap.size, cs, t)])) (w.alloc (.cells cs t)) := by
  have := WS.alloc (A := a ++ b) (C := []) (by simpa using h) cs t
  simpa using this
theorem WS.at0 {v w : World} {zs : List ZoneL} {b c : List Box} {V : Nat} {cs : Array Value} {t : TypeId} (h : WS v zs ([(V, cs, t)] ++ (b ++ c)) w) : Sits w V cs t := (h.box (V, cs, t) (by simp)).2
theorem WS.at1 {v w : World} {zs : List ZoneL} {a c : List Box} {V : Nat} {cs : Array Value} {t : TypeId} (h : WS v zs (a ++ ([(V, cs, t)] ++ c)) w) : Sits w V cs t := (h.box (V, cs, t) (by simp)).2
theorem WS.at2 {v w : World} {zs : List ZoneL} {a b : List Box} {V : Nat} {cs : Array Value} {t : TypeId} (h : WS v zs (a ++ (b ++ [(V, cs, t)])) w) : Sits w V cs t := (h.box (V, cs, t) (by simp)).2
theorem WS.store0 {v w : World} {zs : List ZoneL} {b c : List Box} {V : Nat} {cs : Array Value} {t : TypeId} (h : WS v zs ([(V, cs, t)] ++ (b ++ c)) w) (k : Nat) (u : Value) : WS v zs ([(V, cs.setIfInBounds k u, t)] ++ (b ++ c)) (w.setCell ⟨V, k, none⟩ u) := WS.store (A := []) (C := b ++ c) h k u
theorem WS.store1 {v w : World} {zs : List ZoneL} {a c : List Box} {V : Nat} {cs : Array Value} {t : TypeId} (h : WS v zs (a ++ ([(V, cs, t)] ++ c)) w) (k : Nat) (u : Value) : WS v zs (a ++ ([(V, cs.setIfInBounds k u, t)] ++ c)) (w.setCell ⟨V, k, none⟩ u) := WS.store (A := a) (C := c) h k u
theorem WS.store2 {v w : World} {zs : List ZoneL} {a b : List Box} {V : Nat} {cs : Array Value} {t : TypeId} (h : WS v zs (a ++ (b ++ [(V, cs, t)])) w) (k : Nat) (u : Value) : WS v zs (a ++ (b ++ [(V, cs.setIfInBounds k u, t)])) (w.setCell ⟨V, k, none⟩ u) := by
  have := WS.store (A := a ++ b) (C := []) (V := V) (cs := cs) (t := t) (by simpa using h) k u
  simpa using this

/-- A region by an invariant that may speak of the frame and the world at its entry. -/
theorem wp_region_inv0 {P : Program} {id : Nat} {ops : Array Oper} {Q : Exit → Act → World → Prop} {a : Act} {w : World} (hm : P.follows .mixedOrders = true) (Inv : Act → World → Array Bool → Act → World → Prop)
    (start : Inv a w (Array.replicate ops.size false) a w.drew)
    (step : ∀ listed a' w' i, Inv a w listed a' w' → i ∈ Region.ready .any ops listed → wpOp P ops Q i (Inv a w (listed.setIfInBounds i true)) a' w')
    (fin : ∀ listed a' w', Inv a w listed a' w' → Region.ready .any ops listed = [] → Q .normal a' w') : (Code.region id ops true).wp P Q a w :=
  wp_region_inv hm (Inv := Inv a w) start step fin

end Go.Proofs.Ytlhiadehohikdaa
