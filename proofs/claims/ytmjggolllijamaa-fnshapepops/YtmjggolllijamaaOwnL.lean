/-
  LINES AT WORK: a list of lines that is one's own, the packets of each, too, no two of these in one block; one line's packets turned.
-/
import Derived.Test.YtmjggolllijamaaAppLn
import Derived.Test.YtmjggolllijamaaAppIn
namespace Go.Proofs.Ytmjggolllijamaa
open Go.RowKit
set_option linter.unusedVariables false

/-- No two in one block. -/
def Off (x y : Option Addr) : Prop := ∀ g h, x = some g → y = some h → g.block ≠ h.block
theorem Off.symm {x y : Option Addr} (h : Off x y) : Off y x := fun g k h1 h2 e => h k g h2 h1 e.symm
theorem Off.none_left (y : Option Addr) : Off none y := fun g h e => by cases e
theorem Off.none_right (x : Option Addr) : Off x none := fun g h _ e => by cases e
/-- All of x's lie below n. -/
def Undr (n : Nat) (x : Option Addr) : Prop := ∀ g, x = some g → g.block < n
def Above (n : Nat) (x : Option Addr) : Prop := ∀ g, x = some g → n ≤ g.block
theorem off_of {n : Nat} {x y : Option Addr} (h1 : Undr n x) (h2 : Above n y) : Off x y := fun g h e1 e2 e => by have := h1 g e1; have := h2 h e2; omega
theorem PO.under {base : Nat} {w : World} {x : Option Addr} {m cap : Nat} {f : Nat → Pk} (h : PO base w x m cap f) : Undr w.heap.size x := fun g e => (h.own_lt g.block (by rw [e]; rfl)).2
theorem PO.above {base : Nat} {w : World} {x : Option Addr} {m cap : Nat} {f : Nat → Pk} (h : PO base w x m cap f) : Above base x := fun g e => (h.own_lt g.block (by rw [e]; rfl)).1
theorem JO.undr {base : Nat} {w : World} {x : Option Addr} {m cap : Nat} {f : Nat → Int} (h : JO base w x m cap f) : Undr w.heap.size x := fun g e => (h.own_lt g.block (by rw [e]; rfl)).2
theorem JO.abov {base : Nat} {w : World} {x : Option Addr} {m cap : Nat} {f : Nat → Int} (h : JO base w x m cap f) : Above base x := fun g e => (h.own_lt g.block (by rw [e]; rfl)).1
theorem LP.undr {base : Nat} {w : World} {x : Option Addr} {m cap : Nat} {A : Nat → Option Addr} {C : Nat → Nat} {L : Nat → Ln} (h : LP base w x m cap A C L) : Undr w.heap.size x := fun g e => (World.ownsRow.lt h g.block (by rw [e]; rfl)).2
theorem LP.abov {base : Nat} {w : World} {x : Option Addr} {m cap : Nat} {A : Nat → Option Addr} {C : Nat → Nat} {L : Nat → Ln} (h : LP base w x m cap A C L) : Above base x := fun g e => (World.ownsRow.lt h g.block (by rw [e]; rfl)).1
theorem Undr.mono {n m : Nat} {x : Option Addr} (h : Undr n x) (hm : n ≤ m) : Undr m x := fun g e => Nat.lt_of_lt_of_le (h g e) hm
/-- What is one's own stays so where its own block stays. -/
theorem row_keep {base : Nat} {w w' : World} {e sz m cap : Nat} {x : Option Addr} {xs : List Value} (h : w.ownsRow base e sz (.slice x m cap) m xs) (hk : ∀ g, x = some g → w'.heap[g.block]? = w.heap[g.block]?) : w'.ownsRow base e sz (.slice x m cap) m xs := by
  obtain ⟨hl, ⟨hv, h0⟩ | ⟨g, cp, cur, hv, hbs, hh, h1, h2, h3, h4⟩⟩ := h
  · exact ⟨hl, .inl ⟨hv, h0⟩⟩
  · refine ⟨hl, .inr ⟨g, cp, cur, hv, hbs, ?_, h1, h2, h3, h4⟩⟩
    simp only [Value.slice.injEq] at hv
    exact (hk _ hv.1).trans hh
theorem PO.keep {base : Nat} {w w' : World} {x : Option Addr} {m cap : Nat} {f : Nat → Pk} (h : PO base w x m cap f) (hk : ∀ g, x = some g → w'.heap[g.block]? = w.heap[g.block]?) : PO base w' x m cap f := row_keep h hk
theorem JO.keep {base : Nat} {w w' : World} {x : Option Addr} {m cap : Nat} {f : Nat → Int} (h : JO base w x m cap f) (hk : ∀ g, x = some g → w'.heap[g.block]? = w.heap[g.block]?) : JO base w' x m cap f := row_keep h hk
theorem LP.keep {base : Nat} {w w' : World} {x : Option Addr} {m cap : Nat} {A : Nat → Option Addr} {C : Nat → Nat} {L : Nat → Ln} (h : LP base w x m cap A C L) (hk : ∀ g, x = some g → w'.heap[g.block]? = w.heap[g.block]?) : LP base w' x m cap A C L := row_keep h hk
/-- What is grown elsewhere keeps it. -/
theorem grown_keep {w w' : World} {v : Value} {x y : Option Addr} (hg : w.grownBy w' v.ownBlock) (hv : ∀ k, v.ownBlock = some k → ∃ h, y = some h ∧ h.block = k) (hu : Undr w.heap.size x) (ho : Off x y) : ∀ g, x = some g → w'.heap[g.block]? = w.heap[g.block]? := fun g e => hg.block g.block (hu g e) (fun h => by
  obtain ⟨k, h1, h2⟩ := hv g.block h.symm
  exact ho g k e h1 h2.symm)
theorem set_keep {w : World} {H : Nat} {x : Option Addr} (o : Nat) (v : Value) (h : ∀ g, x = some g → g.block ≠ H) : ∀ g, x = some g → (w.setCell ⟨H, o, none⟩ v).heap[g.block]? = w.heap[g.block]? := fun g e => Below.heap_setCell _ _ _ _ (h g e)
theorem below_keep {w w' : World} {x : Option Addr} (hb : Below w.heap.size w w') (hu : Undr w.heap.size x) : ∀ g, x = some g → w'.heap[g.block]? = w.heap[g.block]? := fun g e => hb.block _ (hu g e)

/-- N lines in block B at work. -/
structure LQ (base : Nat) (w : World) (B N : Nat) (A : Nat → Option Addr) (C : Nat → Nat) (L : Nat → Ln) : Prop where
  lo : base ≤ B
  sits : ∃ vs t, Sits w B vs t ∧ N * 9 ≤ vs.size ∧ ∀ i, i < N → LV vs (i * 9) (A i) (C i) (L i)
  own : ∀ i, i < N → PO base w (A i) (L i).n (C i) (L i).f
  off : ∀ i, i < N → ∀ g, A i = some g → g.block ≠ B
  apart : ∀ i j, i < N → j < N → i ≠ j → Off (A i) (A j)
theorem LQ.lt {base : Nat} {w : World} {B N : Nat} {A : Nat → Option Addr} {C : Nat → Nat} {L : Nat → Ln} (h : LQ base w B N A C L) : B < w.heap.size := by
  obtain ⟨vs, t, hs, _⟩ := h.sits
  exact hs.lt
theorem LQ.keep {base : Nat} {w w' : World} {B N : Nat} {A : Nat → Option Addr} {C : Nat → Nat} {L : Nat → Ln} (h : LQ base w B N A C L) (hB : w'.heap[B]? = w.heap[B]?) (hk : ∀ i, i < N → ∀ g, A i = some g → w'.heap[g.block]? = w.heap[g.block]?) : LQ base w' B N A C L := by
  obtain ⟨h0, ⟨vs, t, hs, h1, h2⟩, h3, h4, h5⟩ := h
  exact ⟨h0, ⟨vs, t, hB.trans hs, h1, h2⟩, fun i hi => (h3 i hi).keep (hk i hi), h4, h5⟩
theorem LQ.below {base : Nat} {w w' : World} {B N : Nat} {A : Nat → Option Addr} {C : Nat → Nat} {L : Nat → Ln} (h : LQ base w B N A C L) (hb : Below w.heap.size w w') : LQ base w' B N A C L :=
  h.keep (hb.block B h.lt) fun i hi => below_keep hb (h.own i hi).under
theorem LQ.mono {base base' : Nat} {w : World} {B N : Nat} {A : Nat → Option Addr} {C : Nat → Nat} {L : Nat → Ln} (h : LQ base w B N A C L) (hb : base' ≤ base) : LQ base' w B N A C L :=
  ⟨Nat.le_trans hb h.lo, h.sits, fun i hi => (h.own i hi).mono hb, h.off, h.apart⟩
theorem PO.pr {base : Nat} {w : World} {x : Option Addr} {m cap : Nat} {f : Nat → Pk} (h : PO base w x m cap f) : PR w.heap.size w x m f := by
  rcases h.zi with e | ⟨g, ha, _, h2, ho⟩
  · exact .inl (by omega)
  · exact .inr ⟨g, 0, ha, h2, fun k hk => by rw [Nat.zero_add]; exact pat_of ho hk⟩
theorem LQ.lr {base : Nat} {w : World} {B N : Nat} {A : Nat → Option Addr} {C : Nat → Nat} {L : Nat → Ln} (h : LQ base w B N A C L) : LR w.heap.size w (some ⟨B, 0, none⟩) N L := by
  obtain ⟨vs, t, hs, _, hv⟩ := h.sits
  exact .inr ⟨B, 0, rfl, hs.lt, fun i hi => ⟨A i, C i, by rw [Nat.zero_add]; exact (hv i hi).at hs, (h.own i hi).cap, (h.own i hi).pr⟩⟩
theorem LQ.at {base : Nat} {w : World} {B N : Nat} {A : Nat → Option Addr} {C : Nat → Nat} {L : Nat → Ln} (h : LQ base w B N A C L) {j : Nat} (hj : j < N) : LAt w B (j * 9) (A j) (C j) (L j) := by
  obtain ⟨vs, t, hS, _, h2⟩ := h.sits
  exact (h2 j hj).at hS
theorem LQ.frozen {base : Nat} {w : World} {B N : Nat} {A : Nat → Option Addr} {C : Nat → Nat} {L : Nat → Ln} (h : LQ base w B N A C L) (k : Nat) : w.frozen? ⟨B, k, none⟩ = false := by
  obtain ⟨vs, t, hS, _, _⟩ := h.sits
  exact hS.frozen k
theorem LP.lq {base : Nat} {w : World} {x : Option Addr} {N cap : Nat} {A : Nat → Option Addr} {C : Nat → Nat} {L : Nat → Ln} (h : LP base w x N cap A C L) (hN : N ≠ 0)
    (h3 : ∀ i, i < N → PO base w (A i) (L i).n (C i) (L i).f) (h4 : ∀ i, i < N → Off (A i) x) (h5 : ∀ i j, i < N → j < N → i ≠ j → Off (A i) (A j)) : ∃ B : Nat, x = some ⟨B, 0, none⟩ ∧ LQ base w B N A C L := by
  obtain ⟨hl, ⟨hv, h0⟩ | ⟨g, cp, cur, hv, hbs, hh, e1, e2, e3, e4⟩⟩ := h
  · exact absurd h0 hN
  · simp only [Value.slice.injEq] at hv
    obtain ⟨rfl, _, rfl⟩ := hv
    refine ⟨g, rfl, hbs, ⟨cur, _, hh, by rw [e3]; omega, fun i hi => ?_⟩, h3, fun i hi a ha e => h4 i hi a _ ha rfl e, h5⟩
    have c : ∀ t, t < 9 → cur[i * 9 + t]? = (lnCells (A i) (C i) (L i))[t]? := fun t ht => by
      rw [← lnL_get A C L i t ht N hi, ← e4, List.getElem?_take_of_lt (by omega), Array.getElem?_toList]
    exact ⟨c 0 (by omega), c 1 (by omega), c 2 (by omega), c 3 (by omega), c 4 (by omega), c 5 (by omega), c 6 (by omega), c 7 (by omega), c 8 (by omega)⟩

/-- The first cell of a line set. -/
theorem lv_set0 {vs : Array Value} {N j : Nat} {A : Nat → Option Addr} {C : Nat → Nat} {L : Nat → Ln} (h1 : N * 9 ≤ vs.size) (hj : j < N) (h2 : ∀ i, i < N → LV vs (i * 9) (A i) (C i) (L i)) (x : Option Addr) (c n : Nat) (f : Nat → Pk) :
    ∀ i, i < N → LV (vs.setIfInBounds (j * 9) (.slice x n c)) (i * 9) (if i = j then x else A i) (if i = j then c else C i) (if i = j then ⟨n, f, (L j).sh, (L j).cd⟩ else L i) := fun i hi => by
  obtain ⟨e0, e1, e2, e3, e4, e5, e6, e7, e8⟩ := h2 i hi
  by_cases e : i = j
  · subst e
    rw [if_pos rfl, if_pos rfl, if_pos rfl]
    exact ⟨by rw [Array.getElem?_setIfInBounds_self_of_lt (by omega)], (Array.getElem?_setIfInBounds_ne (by omega)).trans e1, (Array.getElem?_setIfInBounds_ne (by omega)).trans e2, (Array.getElem?_setIfInBounds_ne (by omega)).trans e3, (Array.getElem?_setIfInBounds_ne (by omega)).trans e4, (Array.getElem?_setIfInBounds_ne (by omega)).trans e5, (Array.getElem?_setIfInBounds_ne (by omega)).trans e6, (Array.getElem?_setIfInBounds_ne (by omega)).trans e7, (Array.getElem?_setIfInBounds_ne (by omega)).trans e8⟩
  · rw [if_neg e, if_neg e, if_neg e]
    exact ⟨(Array.getElem?_setIfInBounds_ne (by omega)).trans e0, (Array.getElem?_setIfInBounds_ne (by omega)).trans e1, (Array.getElem?_setIfInBounds_ne (by omega)).trans e2, (Array.getElem?_setIfInBounds_ne (by omega)).trans e3, (Array.getElem?_setIfInBounds_ne (by omega)).trans e4, (Array.getElem?_setIfInBounds_ne (by omega)).trans e5, (Array.getElem?_setIfInBounds_ne (by omega)).trans e6, (Array.getElem?_setIfInBounds_ne (by omega)).trans e7, (Array.getElem?_setIfInBounds_ne (by omega)).trans e8⟩
/-- Its second cell set. -/
theorem lv_set1 {vs : Array Value} {N j : Nat} {A : Nat → Option Addr} {C : Nat → Nat} {L : Nat → Ln} (h1 : N * 9 ≤ vs.size) (hj : j < N) (h2 : ∀ i, i < N → LV vs (i * 9) (A i) (C i) (L i)) (sh : Int) :
    ∀ i, i < N → LV (vs.setIfInBounds (j * 9 + 1) (.int .i64 sh)) (i * 9) (A i) (C i) (if i = j then ⟨(L j).n, (L j).f, sh, (L j).cd⟩ else L i) := fun i hi => by
  obtain ⟨e0, e1, e2, e3, e4, e5, e6, e7, e8⟩ := h2 i hi
  by_cases e : i = j
  · subst e
    rw [if_pos rfl]
    exact ⟨(Array.getElem?_setIfInBounds_ne (by omega)).trans e0, by rw [Array.getElem?_setIfInBounds_self_of_lt (by omega)], (Array.getElem?_setIfInBounds_ne (by omega)).trans e2, (Array.getElem?_setIfInBounds_ne (by omega)).trans e3, (Array.getElem?_setIfInBounds_ne (by omega)).trans e4, (Array.getElem?_setIfInBounds_ne (by omega)).trans e5, (Array.getElem?_setIfInBounds_ne (by omega)).trans e6, (Array.getElem?_setIfInBounds_ne (by omega)).trans e7, (Array.getElem?_setIfInBounds_ne (by omega)).trans e8⟩
  · rw [if_neg e]
    exact ⟨(Array.getElem?_setIfInBounds_ne (by omega)).trans e0, (Array.getElem?_setIfInBounds_ne (by omega)).trans e1, (Array.getElem?_setIfInBounds_ne (by omega)).trans e2, (Array.getElem?_setIfInBounds_ne (by omega)).trans e3, (Array.getElem?_setIfInBounds_ne (by omega)).trans e4, (Array.getElem?_setIfInBounds_ne (by omega)).trans e5, (Array.getElem?_setIfInBounds_ne (by omega)).trans e6, (Array.getElem?_setIfInBounds_ne (by omega)).trans e7, (Array.getElem?_setIfInBounds_ne (by omega)).trans e8⟩

/-- A line's packets turned: w1 is w but for that line's own block and what is new; x is where they are now. -/
theorem LQ.put {base : Nat} {w w1 : World} {B N : Nat} {A : Nat → Option Addr} {C : Nat → Nat} {L : Nat → Ln} (h : LQ base w B N A C L) {j : Nat} (hj : j < N)
    (hk : ∀ k, k < w.heap.size → (∀ g, A j = some g → k ≠ g.block) → w1.heap[k]? = w.heap[k]?)
    {x : Option Addr} {n c : Nat} {f : Nat → Pk} (hx : PO base w1 x n c f) (hn : ∀ g, x = some g → (∃ a, A j = some a ∧ a.block = g.block) ∨ w.heap.size ≤ g.block) :
    LQ base (w1.setCell ⟨B, j * 9, none⟩ (.slice x n c)) B N (fun i => if i = j then x else A i) (fun i => if i = j then c else C i) (fun i => if i = j then ⟨n, f, (L j).sh, (L j).cd⟩ else L i) := by
  have hB1 : w1.heap[B]? = w.heap[B]? := hk B h.lt fun g hg e => h.off j hj g hg e.symm
  obtain ⟨vs, t, hs, h1, h2⟩ := h.sits
  have hs1 : Sits w1 B vs t := hB1.trans hs
  have hxB : ∀ g, x = some g → g.block ≠ B := fun g hg e => by
    rcases hn g hg with ⟨a, ha, e2⟩ | e2
    · exact h.off j hj a ha (e2.trans e)
    · have := h.lt; omega
  refine ⟨h.lo, ⟨_, t, hs1.set (j * 9) _, by simpa using h1, lv_set0 h1 hj h2 x c n f⟩, fun i hi => ?_, fun i hi g hg => ?_, fun i k hi hk' hne => ?_⟩ <;> (try dsimp only at *)
  · by_cases e : i = j
    · subst e
      simp only [if_true]
      exact hx.keep (set_keep _ _ hxB)
    · rw [if_neg e, if_neg e, if_neg e]
      refine ((h.own i hi).keep fun g hg => hk g.block ((h.own i hi).under g hg) fun a ha e2 => h.apart i j hi hj e g a hg ha e2).keep (set_keep _ _ fun g hg => h.off i hi g hg)
  · by_cases e : i = j
    · rw [if_pos e] at hg; exact hxB g hg
    · rw [if_neg e] at hg; exact h.off i hi g hg
  · have nw : ∀ i, i < N → i ≠ j → Off (A i) x := fun i hi e g a hg ha e2 => by
      rcases hn a ha with ⟨b, hb, e3⟩ | e3
      · exact h.apart i j hi hj e g b hg hb (by omega)
      · have := (h.own i hi).under g hg; omega
    by_cases e1 : i = j
    · by_cases e2 : k = j
      · omega
      · rw [if_pos e1, if_neg e2]; exact (nw k hk' e2).symm
    · by_cases e2 : k = j
      · rw [if_neg e1, if_pos e2]; exact nw i hi e1
      · rw [if_neg e1, if_neg e2]; exact h.apart i k hi hk' hne
/-- A line's shortage set. -/
theorem LQ.short {base : Nat} {w : World} {B N : Nat} {A : Nat → Option Addr} {C : Nat → Nat} {L : Nat → Ln} (h : LQ base w B N A C L) {j : Nat} (hj : j < N) (sh : Int) :
    LQ base (w.setCell ⟨B, j * 9 + 1, none⟩ (.int .i64 sh)) B N A C (fun i => if i = j then ⟨(L j).n, (L j).f, sh, (L j).cd⟩ else L i) := by
  obtain ⟨vs, t, hs, h1, h2⟩ := h.sits
  refine ⟨h.lo, ⟨_, t, hs.set (j * 9 + 1) _, by simpa using h1, lv_set1 h1 hj h2 sh⟩, fun i hi => ?_, h.off, h.apart⟩
  by_cases e : i = j
  · subst e
    simp only [if_true]
    exact (h.own i hi).keep (set_keep _ _ fun g hg => h.off i hi g hg)
  · rw [if_neg e]
    exact (h.own i hi).keep (set_keep _ _ fun g hg => h.off i hi g hg)

/-- Numbers beside lines at work. -/
def TQ (base : Nat) (w : World) (y : Option Addr) (n c : Nat) (tn : Nat → Int) (B N : Nat) (A : Nat → Option Addr) : Prop := JO base w y n c tn ∧ (∀ g, y = some g → g.block ≠ B) ∧ ∀ i, i < N → Off (A i) y
theorem TQ.below {base : Nat} {w w' : World} {y : Option Addr} {n c : Nat} {tn : Nat → Int} {B N : Nat} {A : Nat → Option Addr} (h : TQ base w y n c tn B N A) (hb : Below w.heap.size w w') : TQ base w' y n c tn B N A := ⟨h.1.below hb, h.2⟩
theorem TQ.mono {base base' : Nat} {w : World} {y : Option Addr} {n c : Nat} {tn : Nat → Int} {B N : Nat} {A : Nat → Option Addr} (h : TQ base w y n c tn B N A) (hb : base' ≤ base) : TQ base' w y n c tn B N A := ⟨h.1.mono hb, h.2⟩

theorem LQ.chg {base lo up : Nat} {w w' : World} {B N : Nat} {A : Nat → Option Addr} {C : Nat → Nat} {L : Nat → Ln} (h : LQ base w B N A C L) (hc : Chg lo up w w') (hd : up ≤ base) : LQ base w' B N A C L :=
  h.keep (hc.block B h.lt (by have := h.lo; omega)) fun i hi g hg => hc.block _ ((h.own i hi).under g hg) (by have := (h.own i hi).above g hg; omega)
theorem TQ.chg {base lo up : Nat} {w w' : World} {y : Option Addr} {n c : Nat} {tn : Nat → Int} {B N : Nat} {A : Nat → Option Addr} (h : TQ base w y n c tn B N A) (hc : Chg lo up w w') (hd : up ≤ base) : TQ base w' y n c tn B N A :=
  ⟨h.1.keep fun g hg => hc.block _ (h.1.undr g hg) (by have := h.1.abov g hg; omega), h.2⟩

end Go.Proofs.Ytmjggolllijamaa
