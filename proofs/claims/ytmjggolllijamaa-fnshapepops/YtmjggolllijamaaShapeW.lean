/-
  A SHAPE AT WORK: its own cells, its lines and its turns in memory, all apart; what stores and new lists make of it.
-/
import Derived.Test.YtmjggolllijamaaPushShT
import Derived.Test.YtmjggolllijamaaPassN
namespace Go.Proofs.Ytmjggolllijamaa
open Go.RowKit
set_option linter.unusedVariables false

/-- A line's packets put, which lie apart from all. -/
theorem put_two {base : Nat} {W : World} {B n1 cy1 : Nat} {A : Nat → Option Addr} {C : Nat → Nat} {L : Nat → Ln} {y1 : Option Addr} {tn1 : Nat → Int} {h : Nat} (h4 : h < 4) (lq : LQ base W B 4 A C L) (tq : TQ base W y1 n1 cy1 tn1 B 4 A)
    {x : Option Addr} {m cx : Nat} {f : Nat → Pk} (po : PO base W x m cx f) (hxB : ∀ g, x = some g → g.block ≠ B) (hxA : ∀ i, i < 4 → Off (A i) x) (hxy : Off x y1) :
    LQ base (W.setCell ⟨B, h * 9, none⟩ (.slice x m cx)) B 4 (fun i => if i = h then x else A i) (fun i => if i = h then cx else C i) (fun i => if i = h then ⟨m, f, (L h).sh, (L h).cd⟩ else L i) ∧
    TQ base (W.setCell ⟨B, h * 9, none⟩ (.slice x m cx)) y1 n1 cy1 tn1 B 4 (fun i => if i = h then x else A i) := by
  obtain ⟨vs, t, hs, h1, h2⟩ := lq.sits
  refine ⟨⟨lq.lo, ⟨_, t, hs.set (h * 9) _, by simpa using h1, lv_set0 h1 h4 h2 x cx m f⟩, fun i hi => ?_, fun i hi g hg => ?_, fun i k hi hk' hne => ?_⟩, tq.1.keep (set_keep _ _ tq.2.1), tq.2.1, fun i hi => ?_⟩ <;> (try dsimp only at *)
  · by_cases e : i = h
    · subst e
      simp only [if_true]
      exact po.keep (set_keep _ _ hxB)
    · rw [if_neg e, if_neg e, if_neg e]
      exact (lq.own i hi).keep (set_keep _ _ fun g hg => lq.off i hi g hg)
  · by_cases e : i = h
    · rw [if_pos e] at hg; exact hxB g hg
    · rw [if_neg e] at hg; exact lq.off i hi g hg
  · by_cases e1 : i = h
    · by_cases e2 : k = h
      · omega
      · rw [if_pos e1, if_neg e2]; exact (hxA k hk').symm
    · by_cases e2 : k = h
      · rw [if_neg e1, if_pos e2]; exact hxA i hi
      · rw [if_neg e1, if_neg e2]; exact lq.apart i k hi hk' hne
  · by_cases e : i = h
    · rw [if_pos e]; exact hxy
    · rw [if_neg e]; exact tq.2.2 i hi
/-- A Shape at work: its own cells in block V, its lines in block B. -/
structure SW (base : Nat) (w : World) (V B cl : Nat) (s : Sh) (A : Nat → Option Addr) (C : Nat → Nat) (L : Nat → Ln) (y : Option Addr) (n cy : Nat) (tn : Nat → Int) : Prop where
  sv : Sits w V (shCells s (some ⟨B, 0, none⟩) 4 cl y n cy) 29
  bV : base ≤ V
  VB : V ≠ B
  VA : ∀ i, i < 4 → ∀ g, A i = some g → g.block ≠ V
  Vy : ∀ g, y = some g → g.block ≠ V
  lq : LQ base w B 4 A C L
  tq : TQ base w y n cy tn B 4 A
theorem SW.keep {base : Nat} {w w' : World} {V B cl : Nat} {s : Sh} {A : Nat → Option Addr} {C : Nat → Nat} {L : Nat → Ln} {y : Option Addr} {n cy : Nat} {tn : Nat → Int} (h : SW base w V B cl s A C L y n cy tn)
    (hV : w'.heap[V]? = w.heap[V]?) (hB : w'.heap[B]? = w.heap[B]?) (hA : ∀ i, i < 4 → ∀ g, A i = some g → w'.heap[g.block]? = w.heap[g.block]?) (hy : ∀ g, y = some g → w'.heap[g.block]? = w.heap[g.block]?) : SW base w' V B cl s A C L y n cy tn :=
  ⟨hV.trans h.sv, h.bV, h.VB, h.VA, h.Vy, h.lq.keep hB hA, h.tq.1.keep hy, h.tq.2⟩
theorem SW.below {base : Nat} {w w' : World} {V B cl : Nat} {s : Sh} {A : Nat → Option Addr} {C : Nat → Nat} {L : Nat → Ln} {y : Option Addr} {n cy : Nat} {tn : Nat → Int} (h : SW base w V B cl s A C L y n cy tn) (hb : Below w.heap.size w w') : SW base w' V B cl s A C L y n cy tn :=
  h.keep (hb.block V h.sv.lt) (hb.block B h.lq.lt) (fun i hi => below_keep hb (h.lq.own i hi).under) (below_keep hb h.tq.1.undr)
theorem SW.drew {base : Nat} {w : World} {V B cl : Nat} {s : Sh} {A : Nat → Option Addr} {C : Nat → Nat} {L : Nat → Ln} {y : Option Addr} {n cy : Nat} {tn : Nat → Int} (h : SW base w V B cl s A C L y n cy tn) : SW base w.drew V B cl s A C L y n cy tn := h.keep rfl rfl (fun _ _ _ _ => rfl) (fun _ _ => rfl)
/-- A store elsewhere. -/
theorem SW.other {base : Nat} {w : World} {V B cl : Nat} {s : Sh} {A : Nat → Option Addr} {C : Nat → Nat} {L : Nat → Ln} {y : Option Addr} {n cy : Nat} {tn : Nat → Int} (h : SW base w V B cl s A C L y n cy tn) {H : Nat} (hV : V ≠ H) (hB : B ≠ H) (hA : ∀ i, i < 4 → ∀ g, A i = some g → g.block ≠ H) (hy : ∀ g, y = some g → g.block ≠ H) (o : Nat) (v : Value) : SW base (w.setCell ⟨H, o, none⟩ v) V B cl s A C L y n cy tn :=
  h.keep (Below.heap_setCell _ _ _ V hV) (Below.heap_setCell _ _ _ B hB) (fun i hi => set_keep o v (hA i hi)) (set_keep o v hy)
theorem SW.mono {base base' : Nat} {w : World} {V B cl : Nat} {s : Sh} {A : Nat → Option Addr} {C : Nat → Nat} {L : Nat → Ln} {y : Option Addr} {n cy : Nat} {tn : Nat → Int} (h : SW base w V B cl s A C L y n cy tn) (hb : base' ≤ base) : SW base' w V B cl s A C L y n cy tn :=
  ⟨h.sv, Nat.le_trans hb h.bV, h.VB, h.VA, h.Vy, h.lq.mono hb, h.tq.mono hb⟩
theorem SW.congr {base : Nat} {w : World} {V B cl : Nat} {s : Sh} {A : Nat → Option Addr} {C : Nat → Nat} {L L' : Nat → Ln} {y : Option Addr} {n cy : Nat} {tn : Nat → Int} (h : SW base w V B cl s A C L y n cy tn) (e : L = L') : SW base w V B cl s A C L' y n cy tn := e ▸ h
theorem SW.tcongr {base : Nat} {w : World} {V B cl : Nat} {s : Sh} {A : Nat → Option Addr} {C : Nat → Nat} {L : Nat → Ln} {y : Option Addr} {n cy : Nat} {tn tn' : Nat → Int} (h : SW base w V B cl s A C L y n cy tn) (e : ∀ i, i < n → tn i = tn' i) : SW base w V B cl s A C L y n cy tn' :=
  ⟨h.sv, h.bV, h.VB, h.VA, h.Vy, h.lq, h.tq.1.congr e, h.tq.2⟩
/-- A line's shortage set. -/
theorem SW.short {base : Nat} {w : World} {V B cl : Nat} {s : Sh} {A : Nat → Option Addr} {C : Nat → Nat} {L : Nat → Ln} {y : Option Addr} {n cy : Nat} {tn : Nat → Int} (h : SW base w V B cl s A C L y n cy tn) {j : Nat} (hj : j < 4) (sh : Int) :
    SW base (w.setCell ⟨B, j * 9 + 1, none⟩ (.int .i64 sh)) V B cl s A C (fun i => if i = j then ⟨(L j).n, (L j).f, sh, (L j).cd⟩ else L i) y n cy tn :=
  ⟨h.sv.other (by have := h.VB; omega) _, h.bV, h.VB, h.VA, h.Vy, h.lq.short hj sh, h.tq.1.keep (set_keep _ _ h.tq.2.1), h.tq.2⟩
/-- The next moment set. -/
theorem SW.next {base : Nat} {w : World} {V B cl : Nat} {s : Sh} {A : Nat → Option Addr} {C : Nat → Nat} {L : Nat → Ln} {y : Option Addr} {n cy : Nat} {tn : Nat → Int} (h : SW base w V B cl s A C L y n cy tn) (v : Int) :
    SW base (w.setCell ⟨V, 2, none⟩ (.int .i64 v)) V B cl ⟨s.rt, s.ov, v, s.qt, s.lim⟩ A C L y n cy tn :=
  ⟨h.sv.set 2 _, h.bV, h.VB, h.VA, h.Vy, h.lq.keep (Below.heap_setCell _ _ _ B (by show B ≠ V; have := h.VB; omega)) (fun i hi => set_keep _ _ (h.VA i hi)), h.tq.1.keep (set_keep _ _ h.Vy), h.tq.2⟩
/-- New turns set. -/
theorem SW.turn {base : Nat} {w w1 : World} {V B cl : Nat} {s : Sh} {A : Nat → Option Addr} {C : Nat → Nat} {L : Nat → Ln} {y : Option Addr} {n cy : Nat} {tn : Nat → Int} (h : SW base w V B cl s A C L y n cy tn) (hb : Below w.heap.size w w1)
    {y' : Option Addr} {n' cy' : Nat} {tn' : Nat → Int} (hj : JO w.heap.size w1 y' n' cy' tn') :
    SW base (w1.setCell ⟨V, 6, none⟩ (.slice y' n' cy')) V B cl s A C L y' n' cy' tn' := by
  have h1 := h.below hb
  have lV := h.sv.lt
  have lB := h.lq.lt
  have ab := hj.abov
  have yV : ∀ g, y' = some g → g.block ≠ V := fun g hg => by have := ab g hg; omega
  refine ⟨h1.sv.set 6 _, h.bV, h.VB, h.VA, yV, h1.lq.keep (Below.heap_setCell _ _ _ B (by show B ≠ V; have := h.VB; omega)) (fun i hi => set_keep _ _ (h.VA i hi)), (hj.mono (by have := h.bV; omega)).keep (set_keep _ _ yV), fun g hg => by have := ab g hg; omega, fun i hi => off_of (h.lq.own i hi).under ab⟩
/-- A line's packets set anew. -/
theorem SW.put {base : Nat} {w w1 : World} {V B cl : Nat} {s : Sh} {A : Nat → Option Addr} {C : Nat → Nat} {L : Nat → Ln} {y : Option Addr} {n cy : Nat} {tn : Nat → Int} (h : SW base w V B cl s A C L y n cy tn) (hb : Below w.heap.size w w1) {j : Nat} (hj : j < 4)
    {x : Option Addr} {m cx : Nat} {f : Nat → Pk} (hx : PO w.heap.size w1 x m cx f) :
    SW base (w1.setCell ⟨B, j * 9, none⟩ (.slice x m cx)) V B cl s (fun i => if i = j then x else A i) (fun i => if i = j then cx else C i) (fun i => if i = j then ⟨m, f, (L j).sh, (L j).cd⟩ else L i) y n cy tn := by
  have h1 := h.below hb
  have ab := hx.above
  have lB := h.lq.lt
  have lV := h.sv.lt
  have hbw : base ≤ w.heap.size := by have := h.bV; omega
  obtain ⟨l2, t2⟩ := put_two hj h1.lq h1.tq (hx.mono hbw) (fun g hg => by have := ab g hg; omega) (fun i hi => off_of (h.lq.own i hi).under ab) (off_of h.tq.1.undr ab).symm
  refine ⟨h1.sv.other (by have := h.VB; omega) _, h.bV, h.VB, fun i hi g hg => ?_, h.Vy, l2, t2⟩
  by_cases e : i = j
  · rw [if_pos e] at hg; have := ab g hg; omega
  · rw [if_neg e] at hg; exact h.VA i hi g hg
theorem SW.at {base : Nat} {w : World} {V B cl : Nat} {s : Sh} {A : Nat → Option Addr} {C : Nat → Nat} {L : Nat → Ln} {y : Option Addr} {n cy : Nat} {tn : Nat → Int} (h : SW base w V B cl s A C L y n cy tn) {j : Nat} (hj : j < 4) : w.cell? ⟨B, j * 9, none⟩ = some (.slice (A j) (L j).n (C j)) ∧ w.cell? ⟨B, j * 9 + 1, none⟩ = some (.int .i64 (L j).sh) := ⟨(h.lq.at hj).1, (h.lq.at hj).2.1⟩
theorem SW.row {base : Nat} {w : World} {V B cl : Nat} {s : Sh} {A : Nat → Option Addr} {C : Nat → Nat} {L : Nat → Ln} {y : Option Addr} {n cy : Nat} {tn : Nat → Int} (h : SW base w V B cl s A C L y n cy tn) : Row .i64 w y n tn := h.tq.1.row
theorem SW.bw {base : Nat} {w : World} {V B cl : Nat} {s : Sh} {A : Nat → Option Addr} {C : Nat → Nat} {L : Nat → Ln} {y : Option Addr} {n cy : Nat} {tn : Nat → Int} (h : SW base w V B cl s A C L y n cy tn) : base ≤ w.heap.size := by have := h.bV; have := h.sv.lt; omega

end Go.Proofs.Ytmjggolllijamaa
