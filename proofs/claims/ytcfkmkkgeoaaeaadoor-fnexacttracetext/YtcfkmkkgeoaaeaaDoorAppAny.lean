/-
  append OF ANY NUMBER OF BYTES, NONE TOO, ONTO A LIST OF NONE THAT IS ONE'S OWN: the new list is fresh.
-/
import Derived.Test.YtcfkmkkgeoaaeaaDoorParse
import Derived.Laws.OwnMore
namespace Go.Proofs.YtcfkmkkgeoaaeaaDoor
open Go.RowKit
set_option linter.unusedVariables false

/-- A list of bytes that nobody else has: none at all, or at the head of a block from H on. -/
def Fresh (H : Nat) (w : World) (a : Option Addr) (n : Nat) (f : Nat → Int) : Prop := n = 0 ∨ ∃ B : Nat, a = some ⟨B, 0, none⟩ ∧ H ≤ B ∧ Own .u8 w B n f
theorem Fresh.row {H : Nat} {w : World} {a : Option Addr} {n : Nat} {f : Nat → Int} (h : Fresh H w a n f) : Row .u8 w a n f := by
  rcases h with h | ⟨B, rfl, _, ho⟩
  · exact .inl h
  · exact ho.row
theorem Fresh.below {H : Nat} {w w' : World} {a : Option Addr} {n : Nat} {f : Nat → Int} (h : Fresh H w a n f) (hb : Below w.heap.size w w') : Fresh H w' a n f := by
  rcases h with h | ⟨B, rfl, hB, ho⟩
  · exact .inl h
  · exact .inr ⟨B, rfl, hB, ho.below hb⟩
theorem Fresh.mono {H H' : Nat} {w : World} {a : Option Addr} {n : Nat} {f : Nat → Int} (h : Fresh H w a n f) (hb : H' ≤ H) : Fresh H' w a n f := by
  rcases h with h | ⟨B, rfl, hB, ho⟩
  · exact .inl h
  · exact .inr ⟨B, rfl, by omega, ho⟩
theorem Fresh.congr {H : Nat} {w : World} {a : Option Addr} {n : Nat} {f g : Nat → Int} (h : Fresh H w a n f) (e : ∀ i, i < n → f i = g i) : Fresh H w a n g := by
  rcases h with h | ⟨B, rfl, hB, ho⟩
  · exact .inl h
  · exact .inr ⟨B, rfl, hB, ho.congr e⟩

theorem own_of_row {w : World} {base e g m cd : Nat} {f : Nat → Int} (h : w.ownsRow base e 1 (.slice (some ⟨g, 0, none⟩) m cd) m ((List.range m).map fun j => Value.int .u8 (f j))) : base ≤ g ∧ Own .u8 w g m f := by
  have hl := h.lt g rfl
  refine ⟨hl.1, hl.2, fun i hi => ⟨?_, h.frozenAt i⟩⟩
  rw [h.cellAt i (by omega)]
  simp [hi]

theorem append_none (P : Program) (w : World) (t ty e : TypeId) (i : TypeInfo) (ht : P.underlying t = some (.slice e)) (hi : P.info? e = some i) (base : Option Addr) (sLen sCap : Nat) (hle : sLen ≤ sCap) (x : Option Addr) (c : Nat) :
    (Builtin.append_ #[t, t] ty #[.slice base sLen sCap, .slice x 0 c]).run P w = .ok (.slice base sLen sCap) w := by
  cases base <;> cases x <;> simp [Builtin.append_, run_underlying ht, sizeOf, typeInfo, hi, hle, storeCells, loadCells, loadCellsFrom, Builtin.lenOf, Builtin.firstCells]

theorem wp_append_any {w : World} {o : Oper} {a : Act} {K : Act → World → Prop} {Q : Exit → Act → World → Prop} (s x : Operand)
    (ho : o.op = .call { callee := .builtin .append, args := #[s, x], argTypes := #[27, 27] })
    (base : Nat) (v : Value) (hs : a.eval s = v) (hown : w.ownsRow base 5 1 v 0 [])
    (ad : Option Addr) (m c : Nat) (f : Nat → Int) (hx : a.eval x = .slice ad m c) (hr : Row .u8 w ad m f) (hm : m ≤ 1048576) (hbase : base ≤ w.heap.size)
    (h : ∀ a' cap w', Fresh base w' a' m f → w.grownBy w' v.ownBlock → K (a.put o.dst (.slice a' m cap)) w') : o.wp Tryd.prog a w K Q := by
  obtain ⟨i0, hi0, hz0, hz1, hz2⟩ := info_parts infoU8
  by_cases h0 : m = 0
  · subst h0
    unfold Oper.wp execOp
    rcases hown.2 with ⟨rfl, _⟩ | ⟨g, cap, cur, rfl, _, _, _, _, _, _⟩
    · simp only [ho, resolve, invoke, builtin, Sem.run_bind, Sem.run_pure, Result.andThen_ok, List.map_toArray, List.map_cons, List.map_nil, hs, hx, append_none Tryd.prog w 27 o.type 5 i0 Tryd.underlying27 hi0 none 0 0 (Nat.le_refl _) ad c]
      exact h none 0 w (.inl rfl) (World.grownBy.refl _ _)
    · simp only [ho, resolve, invoke, builtin, Sem.run_bind, Sem.run_pure, Result.andThen_ok, List.map_toArray, List.map_cons, List.map_nil, hs, hx, append_none Tryd.prog w 27 o.type 5 i0 Tryd.underlying27 hi0 (some ⟨g, 0, none⟩) 0 cap (Nat.zero_le _) ad c]
      exact h _ cap w (.inl rfl) (World.grownBy.refl _ _)
  · obtain ⟨b, off, rfl, hb, hc⟩ := Row.at hr (j := 0) (by omega)
    have hone : ∀ u ∈ ((List.range m).map fun j => Value.int .u8 (f j)), u.oneCell' = true := by
      intro u hu
      obtain ⟨j, _, rfl⟩ := List.mem_map.1 hu
      rfl
    refine wp_append_lies w s x 27 ho base 5 i0 (.int .u8 0) 1 1 Tryd.underlying27 hi0 hz0 hz1 hz2 rfl (by omega) v 0 [] hs hown ⟨b, off, none⟩ m c ((List.range m).map fun j => Value.int .u8 (f j)) hx (by simp) ?_ hone (by omega) (by unfold maxLen; omega) (by omega) hbase _ rfl ?_
    · intro j u hu
      by_cases hj : j < m
      · simp [hj] at hu
        subst hu
        rw [WideShapes.add_plain]
        exact hc j hj
      · simp [hj] at hu
    · intro g cap w' h1 h2 h3 h4
      rw [Nat.zero_add] at h1 ⊢
      obtain ⟨hg, ho⟩ := own_of_row (by simpa using h1)
      exact h _ cap w' (.inr ⟨g, rfl, hg, ho⟩) h2

theorem wpList_append_any {w : World} {ops : Array Oper} {rest : List Oper} {o : Oper} {a : Act} {Q : Exit → Act → World → Prop} (hgd : o.guard = none) (s x : Operand)
    (ho : o.op = .call { callee := .builtin .append, args := #[s, x], argTypes := #[27, 27] })
    (base : Nat) (v : Value) (hs : a.eval s = v) (hown : w.ownsRow base 5 1 v 0 [])
    (ad : Option Addr) (m c : Nat) (f : Nat → Int) (hx : a.eval x = .slice ad m c) (hr : Row .u8 w ad m f) (hm : m ≤ 1048576) (hbase : base ≤ w.heap.size)
    (h : ∀ a' cap w', Fresh base w' a' m f → w.grownBy w' v.ownBlock → wpList Tryd.prog ops Q rest (a.put o.dst (.slice a' m cap)) w') : wpList Tryd.prog ops Q (o :: rest) a w :=
  wpList_plain hgd fun _ hK => wp_append_any s x ho base v hs hown ad m c f hx hr hm hbase fun a' cap w' h2 h3 => hK _ _ (h a' cap w' h2 h3)

theorem step_append_any {w : World} {ops : Array Oper} {o : Oper} {a : Act} {K : Act → World → Prop} {Q : Exit → Act → World → Prop} {E : Prop} (hgd : o.guard = none) (s x : Operand)
    (ho : o.op = .call { callee := .builtin .append, args := #[s, x], argTypes := #[27, 27] })
    (base : Nat) (v : Value) (hs : a.eval s = v) (hown : w.ownsRow base 5 1 v 0 [])
    (ad : Option Addr) (m c : Nat) (f : Nat → Int) (hx : a.eval x = .slice ad m c) (hr : Row .u8 w ad m f) (hm : m ≤ 1048576) (hbase : base ≤ w.heap.size)
    (h : ∀ a' cap w', Fresh base w' a' m f → w.grownBy w' v.ownBlock → K (a.put o.dst (.slice a' m cap)) w') :
    if Region.wanted o (yielded ops a.tmps) = true then Oper.wp Tryd.prog o a w K Q else E := by
  have hw : Region.wanted o (yielded ops a.tmps) = true := by simp [Region.wanted, hgd]
  rw [if_pos hw]
  exact wp_append_any s x ho base v hs hown ad m c f hx hr hm hbase h

end Go.Proofs.YtcfkmkkgeoaaeaaDoor
