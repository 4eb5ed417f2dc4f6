/-
  ONE MORE LINE ONTO A LIST OF LINES THAT IS ONE'S OWN.
-/
import Derived.Test.YtmjggolllijamaaFair0
import Derived.Test.YtmjggolllijamaaAppPk
namespace Go.Proofs.Ytmjggolllijamaa
open Go.RowKit
set_option linter.unusedVariables false

/-- The cells of m lines. -/
def lnL (A : Nat → Option Addr) (C : Nat → Nat) (L : Nat → Ln) (m : Nat) : List Value := ((List.range m).map fun i => (lnCells (A i) (C i) (L i)).toList).flatten
theorem lnL_succ (A : Nat → Option Addr) (C : Nat → Nat) (L : Nat → Ln) (m : Nat) : lnL A C L (m + 1) = lnL A C L m ++ (lnCells (A m) (C m) (L m)).toList := by
  unfold lnL
  rw [List.range_succ, List.map_append, List.flatten_append]
  simp
theorem lnL_len (A : Nat → Option Addr) (C : Nat → Nat) (L : Nat → Ln) : ∀ m, (lnL A C L m).length = m * 9
  | 0 => rfl
  | m + 1 => by rw [lnL_succ, List.length_append, lnL_len A C L m]; simp; omega
theorem lnL_get (A : Nat → Option Addr) (C : Nat → Nat) (L : Nat → Ln) (i t : Nat) (ht : t < 9) : ∀ m, i < m → (lnL A C L m)[i * 9 + t]? = (lnCells (A i) (C i) (L i))[t]?
  | 0, h => absurd h (Nat.not_lt_zero _)
  | m + 1, h => by
    rw [lnL_succ]
    by_cases e : i = m
    · subst e
      rw [List.getElem?_append_right (by rw [lnL_len]; omega), lnL_len, show i * 9 + t - i * 9 = t by omega, Array.getElem?_toList]
    · rw [List.getElem?_append_left (by rw [lnL_len]; omega)]
      exact lnL_get A C L i t ht m (by omega)
theorem lnL_congr {A A' : Nat → Option Addr} {C C' : Nat → Nat} {L L' : Nat → Ln} {m : Nat} (h : ∀ i, i < m → A i = A' i ∧ C i = C' i ∧ L i = L' i) : lnL A C L m = lnL A' C' L' m := by
  unfold lnL
  congr 1
  refine List.map_congr_left fun i hi => ?_
  obtain ⟨h1, h2, h3⟩ := h i (by simpa using hi)
  rw [h1, h2, h3]
/-- m lines that are one's own, in a row from base on. -/
def LP (base : Nat) (w : World) (x : Option Addr) (m cap : Nat) (A : Nat → Option Addr) (C : Nat → Nat) (L : Nat → Ln) : Prop := w.ownsRow base 53 9 (.slice x m cap) m (lnL A C L m)
theorem LP.nil (base : Nat) (w : World) (A : Nat → Option Addr) (C : Nat → Nat) (L : Nat → Ln) : LP base w none 0 0 A C L := World.ownsRow_nil w base _ 9
theorem LP.below {base : Nat} {w w' : World} {x : Option Addr} {m cap : Nat} {A : Nat → Option Addr} {C : Nat → Nat} {L : Nat → Ln} (h : LP base w x m cap A C L) (hb : Below w.heap.size w w') : LP base w' x m cap A C L := by
  obtain ⟨hl, ⟨hv, h0⟩ | ⟨g, cp, cur, hv, hbs, hh, h1, h2, h3, h4⟩⟩ := h
  · exact ⟨hl, .inl ⟨hv, h0⟩⟩
  · exact ⟨hl, .inr ⟨g, cp, cur, hv, hbs, (hb.block g (Array.getElem?_eq_some_iff.1 hh).1).trans hh, h1, h2, h3, h4⟩⟩
theorem LP.far {base : Nat} {w : World} {x : Option Addr} {m cap : Nat} {A : Nat → Option Addr} {C : Nat → Nat} {L : Nat → Ln} (h : LP base w x m cap A C L) {H : Nat} (hH : H < base) (o : Nat) (v : Value) : LP base (w.setCell ⟨H, o, none⟩ v) x m cap A C L := by
  obtain ⟨hl, ⟨hv, h0⟩ | ⟨g, cp, cur, hv, hbs, hh, h1, h2, h3, h4⟩⟩ := h
  · exact ⟨hl, .inl ⟨hv, h0⟩⟩
  · exact ⟨hl, .inr ⟨g, cp, cur, hv, hbs, (Below.heap_setCell _ _ _ g (by show g ≠ H; omega)).trans hh, h1, h2, h3, h4⟩⟩
theorem LP.mono {base base' : Nat} {w : World} {x : Option Addr} {m cap : Nat} {A : Nat → Option Addr} {C : Nat → Nat} {L : Nat → Ln} (h : LP base w x m cap A C L) (hb : base' ≤ base) : LP base' w x m cap A C L := by
  obtain ⟨hl, ⟨hv, h0⟩ | ⟨g, cp, cur, hv, hbs, hh, h1, h2, h3, h4⟩⟩ := h
  · exact ⟨hl, .inl ⟨hv, h0⟩⟩
  · exact ⟨hl, .inr ⟨g, cp, cur, hv, Nat.le_trans hb hbs, hh, h1, h2, h3, h4⟩⟩
theorem LP.at {base : Nat} {w : World} {x : Option Addr} {m cap : Nat} {A : Nat → Option Addr} {C : Nat → Nat} {L : Nat → Ln} (h : LP base w x m cap A C L) (hm : m ≠ 0) : ∃ g : Nat, x = some ⟨g, 0, none⟩ ∧ base ≤ g ∧ g < w.heap.size ∧ ∀ i, i < m → LAt w g (i * 9) (A i) (C i) (L i) := by
  have h' := h
  obtain ⟨hl, ⟨hv, h0⟩ | ⟨g, cp, cur, hv, hb, hh, h1, h2, h3, h4⟩⟩ := h
  · exact absurd h0 hm
  · simp only [Value.slice.injEq] at hv
    obtain ⟨rfl, _, rfl⟩ := hv
    have hl' := World.ownsRow.lt h' g rfl
    refine ⟨g, rfl, hb, hl'.2, fun i hi => ?_⟩
    have c : ∀ t, t < 9 → w.cell? ⟨g, i * 9 + t, none⟩ = (lnCells (A i) (C i) (L i))[t]? := fun t ht => by
      rw [World.ownsRow.cellAt h' (i * 9 + t) (by omega), lnL_get A C L i t ht m hi]
    exact ⟨c 0 (by omega), c 1 (by omega), c 2 (by omega), c 3 (by omega), c 4 (by omega), c 5 (by omega), c 6 (by omega), c 7 (by omega), c 8 (by omega)⟩

theorem infoLine_parts : ∃ i, Try.prog.info? 53 = some i ∧ i.zero = some (.agg lnZero) ∧ i.size = 9 ∧ i.bytes = 88 := by
  obtain ⟨i, hi, hzz⟩ := Option.map_eq_some_iff.1 infoLine
  simp only [Prod.mk.injEq] at hzz
  exact ⟨i, hi, hzz.1, hzz.2.1, hzz.2.2⟩

theorem wp_append_ln1 {w : World} {o : Oper} {a : Act} {K : Act → World → Prop} {Q : Exit → Act → World → Prop} (s x : Operand)
    (ho : o.op = .call { callee := .builtin .append, args := #[s, x], argTypes := #[27, 27] })
    (base : Nat) (y : Option Addr) (m cap : Nat) (A : Nat → Option Addr) (C : Nat → Nat) (L : Nat → Ln) (hs : a.eval s = .slice y m cap) (hown : LP base w y m cap A C L)
    (B : Nat) (hx : a.eval x = .slice (some ⟨B, 0, none⟩) 1 1) (hB : LAt w B 0 (A m) (C m) (L m)) (hm : m ≤ 1048576) (hbase : base ≤ w.heap.size)
    (h : ∀ g cap' w', LP base w' (some ⟨g, 0, none⟩) (m + 1) cap' A C L → w.grownBy w' (Value.slice y m cap).ownBlock → ((Value.slice y m cap).ownBlock = some g ∨ g = w.heap.size) → g < w'.heap.size → K (a.put o.dst (.slice (some ⟨g, 0, none⟩) (m + 1) cap')) w') : o.wp Try.prog a w K Q := by
  obtain ⟨i0, hi0, hz0, hz1, hz2⟩ := infoLine_parts
  refine wp_append_lies w s x 27 ho base 53 i0 _ 9 88 Try.underlying27 hi0 hz0 hz1 hz2 rfl (by omega) _ m (lnL A C L m) hs hown ⟨B, 0, none⟩ 1 1 (lnCells (A m) (C m) (L m)).toList hx (by simp) ?_ (by simp [Value.oneCell']) (by omega) (by unfold maxLen; omega) (by omega) hbase _ rfl ?_
  · intro j u hu
    have hj : j < 9 := by simpa using (List.getElem?_eq_some_iff.1 hu).1
    rw [WideShapes.add_plain, Nat.zero_add]
    obtain ⟨h0, h1, h2, h3, h4, h5, h6, h7, h8⟩ := hB
    have hc : j = 0 ∨ j = 1 ∨ j = 2 ∨ j = 3 ∨ j = 4 ∨ j = 5 ∨ j = 6 ∨ j = 7 ∨ j = 8 := by omega
    rcases hc with rfl | rfl | rfl | rfl | rfl | rfl | rfl | rfl | rfl <;> (simp at hu; subst hu; simpa using ‹_›)
  · intro g cp w' h1 h2 h3 h4
    rw [← lnL_succ] at h1
    exact h _ cp w' h1 h2 h3 h4

theorem wpList_append_ln1 {w : World} {ops : Array Oper} {rest : List Oper} {o : Oper} {a : Act} {Q : Exit → Act → World → Prop} (hgd : o.guard = none) (s x : Operand)
    (ho : o.op = .call { callee := .builtin .append, args := #[s, x], argTypes := #[27, 27] })
    (base : Nat) (y : Option Addr) (m cap : Nat) (A : Nat → Option Addr) (C : Nat → Nat) (L : Nat → Ln) (hs : a.eval s = .slice y m cap) (hown : LP base w y m cap A C L)
    (B : Nat) (hx : a.eval x = .slice (some ⟨B, 0, none⟩) 1 1) (hB : LAt w B 0 (A m) (C m) (L m)) (hm : m ≤ 1048576) (hbase : base ≤ w.heap.size)
    (h : ∀ g cap' w', LP base w' (some ⟨g, 0, none⟩) (m + 1) cap' A C L → w.grownBy w' (Value.slice y m cap).ownBlock → ((Value.slice y m cap).ownBlock = some g ∨ g = w.heap.size) → g < w'.heap.size → wpList Try.prog ops Q rest (a.put o.dst (.slice (some ⟨g, 0, none⟩) (m + 1) cap')) w') : wpList Try.prog ops Q (o :: rest) a w :=
  wpList_plain hgd fun _ hK => wp_append_ln1 s x ho base y m cap A C L hs hown B hx hB hm hbase fun g cap w' h2 h3 h4 h5 => hK _ _ (h g cap w' h2 h3 h4 h5)

end Go.Proofs.Ytmjggolllijamaa
