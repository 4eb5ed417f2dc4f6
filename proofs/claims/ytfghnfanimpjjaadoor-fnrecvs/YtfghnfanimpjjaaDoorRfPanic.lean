/-
  A RANGE OVER A FUNCTION THAT MAY PANIC IN ITS OWN BODY, the loop's body being empty: the statement is left by that panic, or goes on.
-/
import Derived.Test.YtfghnfanimpjjaaDoorBase
import Derived.RangeFuncNested
import Derived.RangeFuncBound
import Derived.RangeFuncCalls
import Derived.RangeFuncLeaves
import Derived.Shelf.Abstract
import Derived.Shelf.RegionOpen
import Derived.OwnWalkIn
import Derived.TacticsInMore
import Derived.LoopNIn
import Derived.LoopIn
import Derived.RecoverIn
namespace Go.Proofs.YtfghnfanimpjjaaDoor
open Go.RowKit Go.Shelf
set_option linter.unusedVariables false

theorem below_putObj {B : Nat} {w W : World} (h : Below B w W) {l : Nat} (hl : B ≤ l) (hs : B ≤ W.heap.size) (o : Obj) : Below B w (W.putObj l o) :=
  h.trans ((Below.refl B W).grown (grownBy_putObj' W l o) hs (fun k e => by cases e; exact hl))

/-- All cells that lay stay. -/
def KeepsCl (V V' : World) : Prop := ∀ (k : Nat) (c : Array Value) (t : TypeId), V.heap[k]? = some (.cells c t) → V'.heap[k]? = some (.cells c t)

theorem wpIn_range_bare {F : Fence} {n : Nat} {P : Program} {α : Type} {g : Operand} {ps : Array Tmp} {id : Nat} {Q : Exit → Act → World → Prop} {a : Act} {w : World} {chain : List PanicEntry} {E : Ending → Prop}
    (hro : F.round = none) (h1 : 1 ≤ n) {gf : Nat} {lb : Array Value} (hg : a.eval g = .func (.func gf) #[] lb) (hFg : F.fn gf) (eg : ∀ args w, (callFunc gf args).run P w = .ok (.enter gf args) w)
    {encs : α → Array Value} (hps : ∀ x, (encs x).size = ps.size)
    (hseq : ∀ (l : Nat) (J : World → Prop) (W : World), Below w.heap.size w W → (∀ V c t, J V → J (V.alloc (.cells c t))) →
      (∀ x V, J V → YieldAt F (n - 1 - 1) P l (encs x) V fun e V' => e = .returned (.bool true) ∧ J V' ∧ Below w.heap.size V V' ∧ KeepsCl V V') → J W →
      CallsIn F (n - 1) P gf (#[.func (.yield l) #[] #[]] ++ lb) W fun e W' => E e ∧ J W')
    (hE : ∀ e, E e → e = .panicked chain ∨ ∃ v, e = .returned v)
    (hQn : ∀ (D : Nat) (W : World) (v : Value), E (.returned v) → w.heap.size ≤ D → Below w.heap.size w W → W.heap[D]? = some (.deferred (some [])) → Q .normal { a with defers := { target := .collected D, args := #[] } :: a.defers } W)
    (hQ : ∀ (D : Nat) (W : World), E (.panicked chain) → w.heap.size ≤ D → Below w.heap.size w W → W.heap[D]? = some (.deferred (some [])) → Q (.panic chain) { a with defers := { target := .collected D, args := #[] } :: a.defers } W) :
    (Code.rangeFunc g ps .skip (.block id .skip)).wpIn F n P Q a w := by
  refine wpIn_rangeFunc ?_
  intro fn hfn
  rw [hro]
  obtain ⟨rec, hrec⟩ : ∃ rec : LoopState → Option Code → Loop, rec = fun st pe => { state := st, pending := pe, fn, tmps := a.tmps, params := ps, assign := .skip, body := .block id .skip, defers := w.heap.size } := ⟨_, rfl⟩
  obtain ⟨W1, hW1⟩ : ∃ W1, (w.alloc (.deferred (some []))).alloc (.loop (rec .ready none)) = W1 := ⟨_, rfl⟩
  have hL1 : W1.heap[w.heap.size + 1]? = some (.loop (rec .ready none)) := by
    rw [← hW1]; have := World.alloc_heap_new (w.alloc (.deferred (some []))) (.loop (rec .ready none)); rwa [World.size_alloc] at this
  have hK1 : W1.heap[w.heap.size]? = some (.deferred (some [])) := by
    rw [← hW1]; exact (Below.heap_alloc _ _ _ (by simp)).trans (World.alloc_heap_new w _)
  have hb1 : Below w.heap.size w W1 := by
    rw [← hW1]; exact ((Below.refl _ w).alloc (Nat.le_refl _) _).alloc (by simp) _
  refine ⟨w.heap.size + 1, [{ target := .collected w.heap.size, args := #[] }], W1, { target := .fn (.func gf) lb, args := #[.func (.yield (w.heap.size + 1)) #[] #[]] }, W1, gf,
    #[.func (.yield (w.heap.size + 1)) #[] #[]] ++ lb, W1, ?_, ?_, ?_, ?_, fun _ => h1, ?_⟩
  · rw [← hW1, hrec]; exact run_enterLoop_outer _ _ _ _ _
  · simp only [resolve, hg]
    simp [go_sem]
  · intro f' hf'; simp [Target.leads] at hf'; subst hf'; exact hFg
  · simp [invoke, go_sem, eg]
  · refine (hseq (w.heap.size + 1) (fun V => Below w.heap.size w V ∧ V.heap[w.heap.size + 1]? = some (.loop (rec .ready none)) ∧ V.heap[w.heap.size]? = some (.deferred (some [])))
      W1 hb1 (fun V c t ⟨h, hl, hk⟩ => ?_) (fun x V ⟨h, hl, hk⟩ => ?_) ⟨hb1, hL1, hK1⟩).mono ?_
    · have l1 := (Array.getElem?_eq_some_iff.1 hl).1
      exact ⟨h.alloc h.size _, (Below.heap_alloc _ _ _ (by omega)).trans hl, (Below.heap_alloc _ _ _ (by omega)).trans hk⟩
    · have hlt : w.heap.size + 1 < V.heap.size := (Array.getElem?_eq_some_iff.1 hl).1
      have hy := run_yield (P := P) (args := encs x) hl (by rw [hrec]; exact hps x)
      rw [hrec] at hy
      refine ⟨fn, _, .skip, .block id .skip, hy, roundIn_of_wpIn hfn (wpIn_skip ?_)⟩
      refine ⟨_, run_beginRound hl (by rw [hrec]), wpIn_block (wpIn_skip ?_)⟩
      have hl2 : (V.putObj (w.heap.size + 1) (.loop { rec .ready none with state := .busy })).heap[w.heap.size + 1]? = some (.loop { rec .ready none with state := .busy }) := World.putObj_heap_same hlt
      have hk2 : (V.putObj (w.heap.size + 1) (.loop { rec .ready none with state := .busy })).heap[w.heap.size]? = some (.deferred (some [])) := (World.putObj_heap_other (by omega)).trans hk
      have hr := run_endRound (P := P) none hl2
      have hs2 : w.heap.size ≤ (V.putObj (w.heap.size + 1) (.loop { rec .ready none with state := .busy })).heap.size := by simp [World.putObj]; omega
      refine ⟨_, _, hr, by simp, ⟨?_, ?_, ?_⟩, ?_, ?_⟩
      · exact below_putObj (below_putObj h (by omega) (by omega) _) (by omega) hs2 _
      · rw [World.putObj_heap_same (Array.getElem?_eq_some_iff.1 hl2).1, hrec]; rfl
      · exact (World.putObj_heap_other (by omega)).trans hk2
      · exact below_putObj (below_putObj (Below.refl _ _) (by omega) (by omega) _) (by omega) hs2 _
      · intro k c t hc
        have hne : k ≠ w.heap.size + 1 := fun e => by rw [e, hl] at hc; cases hc
        exact (World.putObj_heap_other hne).trans ((World.putObj_heap_other hne).trans hc)
    · rintro e W2 ⟨he, hb, hl, hk⟩
      rcases hE e he with rfl | ⟨v, rfl⟩
      · exact hQ _ _ he (Nat.le_refl _) hb hk
      · refine ⟨none, _, by have := run_endLoop (P := P) hl (by rw [hrec]; simp); rw [hrec] at this; exact this, hQn _ _ v he (Nat.le_refl _) (below_putObj hb (by omega) hb.size _) ((World.putObj_heap_other (by omega)).trans hk)⟩

end Go.Proofs.YtfghnfanimpjjaaDoor
