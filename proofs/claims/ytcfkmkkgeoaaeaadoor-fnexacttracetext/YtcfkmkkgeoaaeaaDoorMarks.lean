/-
  THE MARKS THAT RANGES OVER FUNCTIONS LEAVE, shut at the way out; a struct's cells through a range over a function.
-/
import Derived.Test.YtcfkmkkgeoaaeaaDoorLine
import Derived.Test.YtcfkmkkgeoaaeaaDoorSits
namespace Go.Proofs.YtcfkmkkgeoaaeaaDoor
open Go.RowKit Go.Shelf
set_option linter.unusedVariables false

/-- The mark that a range over a function leaves. -/
def mrk (D : Nat) : Deferred := { target := .collected D, args := #[] }
theorem putObj_ne (w : World) (D k : Nat) (o : Obj) (h : k ≠ D) : (w.putObj D o).heap[k]? = w.heap[k]? := by
  simp only [World.putObj]
  exact Array.getElem?_setIfInBounds_ne (fun e => h e.symm)
/-- All marks are shut at the way out. -/
theorem leaves_marks {fn : Func} {tmps : Array Value} {R : Ending → World → Prop} {B : Nat} (n : Nat) : ∀ (Ds : List Nat) (w : World), (∀ D ∈ Ds, w.heap[D]? = some (.deferred (some []))) → Ds.Nodup → (∀ D ∈ Ds, B ≤ D) →
    (∀ w', Below B w w' → LeavesInM Fence.wide n Tryd.prog fn tmps R [] .returning w') → LeavesInM Fence.wide n Tryd.prog fn tmps R (Ds.map mrk) .returning w
  | [], w, _, _, _, h => h w (Below.refl _ _)
  | D :: Ds, w, h1, h2, h3, h => by
    have hl := (Array.getElem?_eq_some_iff.1 (h1 D (by simp))).1
    have h3' := h3 D (by simp)
    have hb : Below B w (w.putObj D (.deferred none)) := (Below.refl B w).grown (grownBy_putObj' w D _) (by omega) (fun k e => by cases e; exact h3')
    refine ⟨by simp, .inl ⟨D, _, rfl, run_takeDeferred (h1 D (by simp)), ?_⟩⟩
    refine leaves_marks n Ds _ (fun E hE => ?_) (List.nodup_cons.1 h2).2 (fun E hE => h3 E (by simp [hE])) (fun w' hw' => h w' (hb.trans hw'))
    rw [putObj_ne _ _ _ _ (fun e => (List.nodup_cons.1 h2).1 (by rw [← e]; exact hE))]
    exact h1 E (by simp [hE])

/-- All but block R is as it lay. -/
def KeptB (V : World) (R : Nat) (W : World) : Prop := V.heap.size ≤ W.heap.size ∧ ∀ j, j < V.heap.size → j ≠ R → W.heap[j]? = V.heap[j]?
theorem KeptB.own {β : Type} {V : World} {R B : Nat} (hB : V.heap.size ≤ B) : OwnFrom B (fun (_ : β) W => KeptB V R W) := fun _ X Y row hs hg hr =>
  ⟨Nat.le_trans hs.1 hg.size, fun j hj hne => (hg.block j (by have := hs.1; omega) (fun e => by have := (hr j e.symm).1; omega)).trans (hs.2 j hj hne)⟩
theorem ret_b1 {fn : Func} {tmps : Array Value} {W : World} {i B : Nat} {b : Bool} {t : TypeId} (hr : fn.results = #[.cell i 4]) (hi : tmps[i]?.getD undef = .pointer (some ⟨B, 0, none⟩)) (hs : Boxed W B t (.bool b)) : (results fn tmps).run Tryd.prog W = .ok (.bool b) W := by
  have c0 := hs.cell
  simp [results, hr, hi, go_sem, c0]

end Go.Proofs.YtcfkmkkgeoaaeaaDoor
