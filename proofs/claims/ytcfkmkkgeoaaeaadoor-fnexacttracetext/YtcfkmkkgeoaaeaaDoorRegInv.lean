/-
  A REGION THAT DRAWS ITS ORDER AND LAYS BOXES BESIDE ITS CALLS: what is known of the world whatever the order: boxes that were laid, each with its cells, and lists that a call made, each in its zone.
-/
import Derived.Test.YtcfkmkkgeoaaeaaDoorAnyInv
import Derived.Test.YtcfkmkkgeoaaeaaDoorSits
import Derived.Test.YtcfkmkkgeoaaeaaDoorPkS
namespace Go.Proofs.YtcfkmkkgeoaaeaaDoor
open Go.RowKit
set_option linter.unusedVariables false

theorem wpOp_of_list {P : Program} {ops : Array Oper} {Q : Exit → Act → World → Prop} {i : Nat} {K : Act → World → Prop} {a : Act} {w : World} (o : Oper) (ho : ops[i]? = some o) (h : wpList P ops (Exit.then K Q) [o] a w) : wpOp P ops Q i K a w := by
  unfold wpOp
  rw [ho]
  simp only [wpList] at h ⊢
  have hw : ∀ {w : World}, o.wp P a w (fun a w => Exit.then K Q .normal a w) (Exit.then K Q) → o.wp P a w K Q := by
    intro w hh
    unfold Oper.wp at *
    generalize (execOp a.eval o).run P w = r at *
    cases r with
    | ok n w' =>
      cases n <;> simp only [Oper.upon] at hh ⊢ <;>
        first
          | exact hh
          | exact Calls.mono hh (fun e w'' he => by cases e <;> exact he)
          | exact Rows.mono hh (fun _ _ he => he)
    | halt x w' => cases x <;> simp only [Oper.upon] at hh ⊢ <;> exact hh
  split
  · rename_i hq
    rw [if_pos hq] at h
    exact h.imp hw id
  · rename_i hq
    rw [if_neg hq] at h
    exact h

theorem wpOp_of_at {P : Program} {ops : Array Oper} {Q : Exit → Act → World → Prop} {i : Nat} {K : Act → World → Prop} {a : Act} {w : World} (h : ∃ o, ops[i]? = some o ∧ wpList P ops (Exit.then K Q) [o] a w) : wpOp P ops Q i K a w := by
  obtain ⟨o, ho, h⟩ := h
  exact wpOp_of_list o ho h

theorem wpOp_of_k {P : Program} {ops : Array Oper} {Q : Exit → Act → World → Prop} {i : Nat} {K : Act → World → Prop} {a : Act} {w : World} (h : ∀ K' : Act → World → Prop, Hid (∀ a w, K a w → K' a w) → ∃ o, ops[i]? = some o ∧ wpList P ops (Exit.then K' Q) [o] a w) : wpOp P ops Q i K a w :=
  wpOp_of_at (h K fun _ _ h => h)

theorem ready_dep {ops : Array Oper} {listed : Array Bool} {i : Nat} (h : i ∈ Region.ready .any ops listed) (o : Oper) (ho : ops[i]? = some o) : listed.getD i true = false ∧ (o.after.all fun e => !Region.binds .any e || listed.getD e.on false) = true := by
  unfold Region.ready at h
  simp only [List.mem_filter, ho, Option.map_some, Option.getD_some, Bool.and_eq_true, Bool.not_eq_true'] at h
  exact h.2

theorem ready_none {ops : Array Oper} {listed : Array Bool} (h : Region.ready .any ops listed = []) (i : Nat) (o : Oper) (ho : ops[i]? = some o) (hd : (o.after.all fun e => !Region.binds .any e || listed.getD e.on false) = true) : listed.getD i true = true := by
  unfold Region.ready at h
  have hi : i < ops.size := (Array.getElem?_eq_some_iff.1 ho).1
  have := List.filter_eq_nil_iff.1 h i (List.mem_range.2 hi)
  simp only [ho, Option.map_some, Option.getD_some, hd, Bool.and_true, Bool.not_eq_true', Bool.not_eq_false] at this
  exact this

/-- A box: its block, its cells, its type. -/
abbrev Box := Nat × Array Value × TypeId
/-- A list's zone: from, to, where it lies, how many numbers, which. -/
abbrev ZoneL := Nat × Nat × Option Addr × Nat × (Nat → Int)

/-- What is known of the world behind v: boxes and zones. -/
structure WS (v : World) (zs : List ZoneL) (bs : List Box) (w : World) : Prop where
  bel : Below v.heap.size v w
  box : ∀ b ∈ bs, v.heap.size ≤ b.1 ∧ Sits w b.1 b.2.1 b.2.2
  apart : bs.Pairwise fun b c => b.1 ≠ c.1
  zone : ∀ z ∈ zs, v.heap.size ≤ z.1 ∧ z.2.1 ≤ w.heap.size ∧ ZI z.1 z.2.1 w z.2.2.1 z.2.2.2.1 z.2.2.2.2
  off : ∀ z ∈ zs, ∀ b ∈ bs, b.1 < z.1 ∨ z.2.1 ≤ b.1

theorem WS.start (v : World) : WS v [] [] v.drew := ⟨(Below.refl _ _).drew, fun _ h => absurd h (by simp), .nil, fun _ h => absurd h (by simp), fun _ h => absurd h (by simp)⟩
theorem WS.size {v w : World} {zs : List ZoneL} {bs : List Box} (h : WS v zs bs w) : v.heap.size ≤ w.heap.size := h.bel.size

/-- Nothing that lay has turned. -/
theorem WS.below {v w w' : World} {zs : List ZoneL} {bs : List Box} (h : WS v zs bs w) (hb : Below w.heap.size w w') : WS v zs bs w' :=
  ⟨h.bel.trans (hb.mono h.size), fun b hm => ⟨(h.box b hm).1, (h.box b hm).2.below hb (h.box b hm).2.lt⟩, h.apart, fun z hz => ⟨(h.zone z hz).1, Nat.le_trans (h.zone z hz).2.1 hb.size, (h.zone z hz).2.2.below hb⟩, h.off⟩

/-- A box is laid. -/
theorem WS.alloc {v w : World} {zs : List ZoneL} {A C : List Box} (h : WS v zs (A ++ C) w) (cs : Array Value) (t : TypeId) : WS v zs (A ++ (w.heap.size, cs, t) :: C) (w.alloc (.cells cs t)) := by
  have hb : Below w.heap.size w (w.alloc (.cells cs t)) := (Below.refl _ _).alloc (Nat.le_refl _) _
  have h' := h.below hb
  have hne : ∀ b ∈ A ++ C, b.1 < w.heap.size := fun b hm => (h.box b hm).2.lt
  refine ⟨h'.bel, fun b hm => ?_, ?_, h'.zone, fun z hz b hm => ?_⟩
  · rcases List.mem_append.1 hm with hm | hm
    · exact h'.box b (List.mem_append.2 (.inl hm))
    · rcases List.mem_cons.1 hm with rfl | hm
      · exact ⟨h.size, Sits.new _ _ _⟩
      · exact h'.box b (List.mem_append.2 (.inr hm))
  · obtain ⟨p1, p2, p3⟩ := List.pairwise_append.1 h.apart
    refine List.pairwise_append.2 ⟨p1, List.pairwise_cons.2 ⟨fun c hc => ?_, p2⟩, fun b hb' c hc => ?_⟩
    · exact fun e => absurd (hne c (List.mem_append.2 (.inr hc))) (by have e' : w.heap.size = c.1 := e; omega)
    · rcases List.mem_cons.1 hc with rfl | hc
      · exact fun e => absurd (hne b (List.mem_append.2 (.inl hb'))) (by have e' : b.1 = w.heap.size := e; omega)
      · exact p3 b hb' c hc
  · rcases List.mem_append.1 hm with hm | hm
    · exact h.off z hz b (List.mem_append.2 (.inl hm))
    · rcases List.mem_cons.1 hm with rfl | hm
      · exact .inr (h.zone z hz).2.1
      · exact h.off z hz b (List.mem_append.2 (.inr hm))

/-- A call made lists. -/
theorem WS.call {v w w' : World} {zs ys : List ZoneL} {bs : List Box} (h : WS v zs bs w) (hb : Below w.heap.size w w') (hz : ∀ z ∈ ys, w.heap.size ≤ z.1 ∧ z.2.1 ≤ w'.heap.size ∧ ZI z.1 z.2.1 w' z.2.2.1 z.2.2.2.1 z.2.2.2.2) : WS v (zs ++ ys) bs w' := by
  have h' := h.below hb
  refine ⟨h'.bel, h'.box, h'.apart, fun z hm => ?_, fun z hm b hb' => ?_⟩
  · rcases List.mem_append.1 hm with hm | hm
    · exact h'.zone z hm
    · obtain ⟨e1, e2, e3⟩ := hz z hm
      exact ⟨Nat.le_trans h.size e1, e2, e3⟩
  · rcases List.mem_append.1 hm with hm | hm
    · exact h.off z hm b hb'
    · obtain ⟨e1, _, _⟩ := hz z hm
      exact .inl (Nat.lt_of_lt_of_le (h.box b hb').2.lt e1)

theorem own_far {k : IntKind} {w : World} {B n : Nat} {f : Nat → Int} (h : Own k w B n f) {V : Nat} (hne : V ≠ B) (o : Nat) (u : Value) : Own k (w.setCell ⟨V, o, none⟩ u) B n f := by
  have e := Below.heap_setCell w ⟨V, o, none⟩ u B (fun h => hne h.symm)
  refine ⟨by simpa [World.setCell] using h.1, fun i hi => ⟨(World.cell?_of_block (w := w) e).trans (h.2 i hi).1, (World.frozen?_of_block (w := w) e).trans (h.2 i hi).2⟩⟩

/-- A cell of a box is stored. -/
theorem WS.store {v w : World} {zs : List ZoneL} {A C : List Box} {V : Nat} {cs : Array Value} {t : TypeId} (h : WS v zs (A ++ (V, cs, t) :: C) w) (k : Nat) (u : Value) : WS v zs (A ++ (V, cs.setIfInBounds k u, t) :: C) (w.setCell ⟨V, k, none⟩ u) := by
  have hV := h.box (V, cs, t) (by simp)
  obtain ⟨p1, p2, p3⟩ := List.pairwise_append.1 h.apart
  have p2' := List.pairwise_cons.1 p2
  have hs : (w.setCell ⟨V, k, none⟩ u).heap.size = w.heap.size := by simp [World.setCell]
  refine ⟨h.bel.setCell hV.1 u, fun b hm => ?_, ?_, fun z hz => ?_, fun z hz b hm => ?_⟩
  · rcases List.mem_append.1 hm with hm | hm
    · have h1 := h.box b (List.mem_append.2 (.inl hm))
      exact ⟨h1.1, h1.2.other (p3 b hm (V, cs, t) (by simp)) u⟩
    · rcases List.mem_cons.1 hm with rfl | hm
      · exact ⟨hV.1, Sits.set hV.2 k u⟩
      · have h1 := h.box b (List.mem_append.2 (.inr (List.mem_cons.2 (.inr hm))))
        exact ⟨h1.1, h1.2.other (fun e => p2'.1 b hm e.symm) u⟩
  · refine List.pairwise_append.2 ⟨p1, List.pairwise_cons.2 ⟨fun c hc => p2'.1 c hc, p2'.2⟩, fun b hb' c hc => ?_⟩
    rcases List.mem_cons.1 hc with rfl | hc
    · exact p3 b hb' (V, cs, t) (by simp)
    · exact p3 b hb' c (List.mem_cons.2 (.inr hc))
  · obtain ⟨z1, z2, z3⟩ := h.zone z hz
    refine ⟨z1, by rw [hs]; exact z2, ?_⟩
    rcases z3 with z3 | ⟨B, ha, l1, l2, ho⟩
    · exact .inl z3
    · refine .inr ⟨B, ha, l1, l2, ?_⟩
      have hne : V ≠ B := by have := h.off z hz (V, cs, t) (by simp); omega
      exact own_far ho hne k u
  · rcases List.mem_append.1 hm with hm | hm
    · exact h.off z hz b (List.mem_append.2 (.inl hm))
    · rcases List.mem_cons.1 hm with rfl | hm
      · exact h.off z hz (V, cs, t) (by simp)
      · exact h.off z hz b (List.mem_append.2 (.inr (List.mem_cons.2 (.inr hm))))

end Go.Proofs.YtcfkmkkgeoaaeaaDoor
