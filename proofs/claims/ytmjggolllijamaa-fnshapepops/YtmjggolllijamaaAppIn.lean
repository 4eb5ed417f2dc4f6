/-
  NUMBERS ONTO A LIST OF NUMBERS THAT IS ONE'S OWN: one more, any number more.
-/
import Derived.Test.YtmjggolllijamaaIntS
import Derived.Test.YtmjggolllijamaaAppPk
namespace Go.Proofs.Ytmjggolllijamaa
open Go.RowKit
set_option linter.unusedVariables false

def inL (f : Nat → Int) (m : Nat) : List Value := (List.range m).map fun j => Value.int .i64 (f j)
theorem inL_len (f : Nat → Int) (m : Nat) : (inL f m).length = m := by simp [inL]
theorem inL_snoc (f : Nat → Int) (m : Nat) (v : Int) : inL f m ++ [Value.int .i64 v] = inL (fun i => if i = m then v else f i) (m + 1) := by
  unfold inL
  rw [List.range_succ, List.map_append]
  congr 1
  · refine List.map_congr_left fun j hj => ?_
    have : j < m := by simpa using hj
    dsimp only
    rw [if_neg (by omega)]
  · simp
theorem inL_congr {f g : Nat → Int} {m : Nat} (h : ∀ i, i < m → f i = g i) : inL f m = inL g m := List.map_congr_left fun j hj => by rw [h j (by simpa using hj)]
/-- m numbers that are one's own, in a block from base on. -/
def JO (base : Nat) (w : World) (x : Option Addr) (m cap : Nat) (f : Nat → Int) : Prop := w.ownsRow base 3 1 (.slice x m cap) m (inL f m)
theorem JO.nil (base : Nat) (w : World) (f : Nat → Int) : JO base w none 0 0 f := World.ownsRow_nil w base _ 1
theorem JO.congr {base : Nat} {w : World} {x : Option Addr} {m cap : Nat} {f g : Nat → Int} (h : JO base w x m cap f) (e : ∀ i, i < m → f i = g i) : JO base w x m cap g := by unfold JO; rw [← inL_congr e]; exact h
theorem JO.below {base : Nat} {w w' : World} {x : Option Addr} {m cap : Nat} {f : Nat → Int} (h : JO base w x m cap f) (hb : Below w.heap.size w w') : JO base w' x m cap f := by
  obtain ⟨hl, ⟨hv, h0⟩ | ⟨g, cp, cur, hv, hbs, hh, h1, h2, h3, h4⟩⟩ := h
  · exact ⟨hl, .inl ⟨hv, h0⟩⟩
  · exact ⟨hl, .inr ⟨g, cp, cur, hv, hbs, (hb.block g (Array.getElem?_eq_some_iff.1 hh).1).trans hh, h1, h2, h3, h4⟩⟩
theorem JO.mono {base base' : Nat} {w : World} {x : Option Addr} {m cap : Nat} {f : Nat → Int} (h : JO base w x m cap f) (hb : base' ≤ base) : JO base' w x m cap f := by
  obtain ⟨hl, ⟨hv, h0⟩ | ⟨g, cp, cur, hv, hbs, hh, h1, h2, h3, h4⟩⟩ := h
  · exact ⟨hl, .inl ⟨hv, h0⟩⟩
  · exact ⟨hl, .inr ⟨g, cp, cur, hv, Nat.le_trans hb hbs, hh, h1, h2, h3, h4⟩⟩
theorem JO.far {base : Nat} {w : World} {x : Option Addr} {m cap : Nat} {f : Nat → Int} (h : JO base w x m cap f) {H : Nat} (hH : H < base) (o : Nat) (v : Value) : JO base (w.setCell ⟨H, o, none⟩ v) x m cap f := by
  obtain ⟨hl, ⟨hv, h0⟩ | ⟨g, cp, cur, hv, hbs, hh, h1, h2, h3, h4⟩⟩ := h
  · exact ⟨hl, .inl ⟨hv, h0⟩⟩
  · exact ⟨hl, .inr ⟨g, cp, cur, hv, hbs, (Below.heap_setCell _ _ _ g (by show g ≠ H; omega)).trans hh, h1, h2, h3, h4⟩⟩
theorem JO.drew {base : Nat} {w : World} {x : Option Addr} {m cap : Nat} {f : Nat → Int} (h : JO base w x m cap f) : JO base w.drew x m cap f := h
theorem JO.alloc {base : Nat} {w : World} {x : Option Addr} {m cap : Nat} {f : Nat → Int} (h : JO base w x m cap f) (o : Obj) : JO base (w.alloc o) x m cap f := h.below ((Below.refl _ _).alloc (Nat.le_refl _) _)
theorem JO.own_lt {base : Nat} {w : World} {x : Option Addr} {m cap : Nat} {f : Nat → Int} (h : JO base w x m cap f) : ∀ k, (Value.slice x m cap).ownBlock = some k → base ≤ k ∧ k < w.heap.size := World.ownsRow.lt h
theorem JO.cap {base : Nat} {w : World} {x : Option Addr} {m cap : Nat} {f : Nat → Int} (h : JO base w x m cap f) : m ≤ cap := by
  obtain ⟨hl, ⟨hv, h0⟩ | ⟨g, cp, cur, hv, hb, hh, h1, h2, h3, h4⟩⟩ := h
  · omega
  · simp only [Value.slice.injEq] at hv
    obtain ⟨rfl, _, rfl⟩ := hv
    exact h1

theorem JO.own {base : Nat} {w : World} {x : Option Addr} {m cap : Nat} {f : Nat → Int} (h : JO base w x m cap f) : m = 0 ∨ ∃ g : Nat, x = some ⟨g, 0, none⟩ ∧ base ≤ g ∧ Own .i64 w g m f := by
  have h' := h
  obtain ⟨hl, ⟨hv, h0⟩ | ⟨g, cp, cur, hv, hb, hh, h1, h2, h3, h4⟩⟩ := h
  · exact .inl h0
  · simp only [Value.slice.injEq] at hv
    obtain ⟨rfl, _, rfl⟩ := hv
    have hl' := World.ownsRow.lt h' g rfl
    refine .inr ⟨g, rfl, hb, hl'.2, fun i hi => ⟨?_, World.ownsRow.frozenAt h' i⟩⟩
    rw [World.ownsRow.cellAt h' i (by omega)]
    simp [inL, hi]
theorem JO.zi {base : Nat} {w : World} {x : Option Addr} {m cap : Nat} {f : Nat → Int} (h : JO base w x m cap f) : ZI base w.heap.size w x m f := by
  rcases h.own with h | ⟨g, ha, hb, ho⟩
  · exact .inl h
  · exact .inr ⟨g, ha, hb, ho.1, ho⟩
theorem JO.row {base : Nat} {w : World} {x : Option Addr} {m cap : Nat} {f : Nat → Int} (h : JO base w x m cap f) : Row .i64 w x m f := h.zi.row

theorem wp_append_in1 {w : World} {o : Oper} {a : Act} {K : Act → World → Prop} {Q : Exit → Act → World → Prop} (s x : Operand)
    (ho : o.op = .call { callee := .builtin .append, args := #[s, x], argTypes := #[23, 23] })
    (base : Nat) (y : Option Addr) (m cap : Nat) (f : Nat → Int) (hs : a.eval s = .slice y m cap) (hown : JO base w y m cap f)
    (B : Nat) (v : Int) (hx : a.eval x = .slice (some ⟨B, 0, none⟩) 1 1) (hB : w.cell? ⟨B, 0, none⟩ = some (.int .i64 v)) (hm : m ≤ 1048576) (hbase : base ≤ w.heap.size)
    (h : ∀ g cap' w', JO base w' (some ⟨g, 0, none⟩) (m + 1) cap' (fun i => if i = m then v else f i) → w.grownBy w' (Value.slice y m cap).ownBlock → ((Value.slice y m cap).ownBlock = some g ∨ g = w.heap.size) → g < w'.heap.size → K (a.put o.dst (.slice (some ⟨g, 0, none⟩) (m + 1) cap')) w') : o.wp Try.prog a w K Q := by
  obtain ⟨i0, hi0, hz0, hz1, hz2⟩ := info_parts infoInt
  refine wp_append_lies w s x 23 ho base 3 i0 (.int .i64 0) 1 8 Try.underlying23 hi0 hz0 hz1 hz2 rfl (by omega) _ m (inL f m) hs hown ⟨B, 0, none⟩ 1 1 [.int .i64 v] hx (by simp) ?_ (by simp [Value.oneCell']) (by omega) (by unfold maxLen; omega) (by omega) hbase _ rfl ?_
  · intro j u hu
    have hj : j = 0 := by
      have := (List.getElem?_eq_some_iff.1 hu).1
      simp at this; exact this
    subst hj
    simp at hu
    subst hu
    rw [WideShapes.add_plain, Nat.zero_add]
    exact hB
  · intro g cp w' h1 h2 h3 h4
    rw [inL_snoc] at h1
    exact h _ cp w' h1 h2 h3 h4

theorem step_append_in1 {w : World} {ops : Array Oper} {o : Oper} {a : Act} {K : Act → World → Prop} {Q : Exit → Act → World → Prop} {E : Prop} (hgd : o.guard = none) (s x : Operand)
    (ho : o.op = .call { callee := .builtin .append, args := #[s, x], argTypes := #[23, 23] })
    (base : Nat) (y : Option Addr) (m cap : Nat) (f : Nat → Int) (hs : a.eval s = .slice y m cap) (hown : JO base w y m cap f)
    (B : Nat) (v : Int) (hx : a.eval x = .slice (some ⟨B, 0, none⟩) 1 1) (hB : w.cell? ⟨B, 0, none⟩ = some (.int .i64 v)) (hm : m ≤ 1048576) (hbase : base ≤ w.heap.size)
    (h : ∀ g cap' w', JO base w' (some ⟨g, 0, none⟩) (m + 1) cap' (fun i => if i = m then v else f i) → w.grownBy w' (Value.slice y m cap).ownBlock → ((Value.slice y m cap).ownBlock = some g ∨ g = w.heap.size) → g < w'.heap.size → K (a.put o.dst (.slice (some ⟨g, 0, none⟩) (m + 1) cap')) w') :
    if Region.wanted o (yielded ops a.tmps) = true then Oper.wp Try.prog o a w K Q else E := by
  have hw : Region.wanted o (yielded ops a.tmps) = true := by simp [Region.wanted, hgd]
  rw [if_pos hw]
  exact wp_append_in1 s x ho base y m cap f hs hown B v hx hB hm hbase h

/-- f, and g behind it. -/
def joinI (f : Nat → Int) (m : Nat) (g : Nat → Int) (i : Nat) : Int := if i < m then f i else g (i - m)
theorem inL_get (f : Nat → Int) (m j : Nat) (hj : j < m) : (inL f m)[j]? = some (.int .i64 (f j)) := by simp [inL, hj]
theorem inL_join (f : Nat → Int) (m : Nat) (g : Nat → Int) (k : Nat) : inL f m ++ inL g k = inL (joinI f m g) (m + k) := by
  apply List.ext_getElem?
  intro j
  by_cases h1 : j < m
  · rw [List.getElem?_append_left (by rw [inL_len]; exact h1), inL_get _ _ _ h1, inL_get _ _ _ (by omega)]
    unfold joinI
    rw [if_pos h1]
  · rw [List.getElem?_append_right (by rw [inL_len]; omega), inL_len]
    by_cases h2 : j < m + k
    · rw [inL_get _ _ _ (by omega), inL_get _ _ _ h2]
      unfold joinI
      rw [if_neg h1]
    · rw [List.getElem?_eq_none (by rw [inL_len]; omega), List.getElem?_eq_none (by rw [inL_len]; omega)]

theorem wp_append_inN {w : World} {o : Oper} {a : Act} {K : Act → World → Prop} {Q : Exit → Act → World → Prop} (s x : Operand)
    (ho : o.op = .call { callee := .builtin .append, args := #[s, x], argTypes := #[23, 23] })
    (base : Nat) (y : Option Addr) (m cap : Nat) (f : Nat → Int) (hs : a.eval s = .slice y m cap) (hown : JO base w y m cap f)
    (ad : Option Addr) (k c : Nat) (g : Nat → Int) (hx : a.eval x = .slice ad k c) (hr : Row .i64 w ad k g) (hm : m + k ≤ 1048576) (hbase : base ≤ w.heap.size)
    (h : ∀ a' cap' w', JO base w' a' (m + k) cap' (joinI f m g) → w.grownBy w' (Value.slice y m cap).ownBlock → K (a.put o.dst (.slice a' (m + k) cap')) w') : o.wp Try.prog a w K Q := by
  obtain ⟨i0, hi0, hz0, hz1, hz2⟩ := info_parts infoInt
  by_cases h0 : k = 0
  · subst h0
    unfold Oper.wp execOp
    simp only [ho, resolve, invoke, builtin, Sem.run_bind, Sem.run_pure, Result.andThen_ok, List.map_toArray, List.map_cons, List.map_nil, hs, hx, append_none Try.prog w 23 o.type 3 i0 Try.underlying23 hi0 y m cap hown.cap ad c]
    exact h y cap w (hown.congr fun i hi => by unfold joinI; rw [if_pos hi]) (World.grownBy.refl _ _)
  · obtain ⟨b, off, rfl, hb, hc⟩ := Row.at hr (j := 0) (by omega)
    have hone : ∀ u ∈ inL g k, u.oneCell' = true := by
      intro u hu
      obtain ⟨j, _, rfl⟩ := List.mem_map.1 hu
      rfl
    refine wp_append_lies w s x 23 ho base 3 i0 (.int .i64 0) 1 8 Try.underlying23 hi0 hz0 hz1 hz2 rfl (by omega) _ m (inL f m) hs hown ⟨b, off, none⟩ k c (inL g k) hx (by rw [inL_len]; omega) ?_ hone (by omega) (by unfold maxLen; omega) (by omega) hbase _ rfl ?_
    · intro j u hu
      have hj : j < k := by
        have := (List.getElem?_eq_some_iff.1 hu).1
        rw [inL_len] at this
        exact this
      rw [inL_get _ _ _ hj] at hu
      cases hu
      rw [WideShapes.add_plain]
      exact hc j hj
    · intro g' cp w' h1 h2 h3 h4
      rw [inL_join] at h1
      exact h _ cp w' h1 h2

theorem wpList_append_inN {w : World} {ops : Array Oper} {rest : List Oper} {o : Oper} {a : Act} {Q : Exit → Act → World → Prop} (hgd : o.guard = none) (s x : Operand)
    (ho : o.op = .call { callee := .builtin .append, args := #[s, x], argTypes := #[23, 23] })
    (base : Nat) (y : Option Addr) (m cap : Nat) (f : Nat → Int) (hs : a.eval s = .slice y m cap) (hown : JO base w y m cap f)
    (ad : Option Addr) (k c : Nat) (g : Nat → Int) (hx : a.eval x = .slice ad k c) (hr : Row .i64 w ad k g) (hm : m + k ≤ 1048576) (hbase : base ≤ w.heap.size)
    (h : ∀ a' cap' w', JO base w' a' (m + k) cap' (joinI f m g) → w.grownBy w' (Value.slice y m cap).ownBlock → wpList Try.prog ops Q rest (a.put o.dst (.slice a' (m + k) cap')) w') : wpList Try.prog ops Q (o :: rest) a w :=
  wpList_plain hgd fun _ hK => wp_append_inN s x ho base y m cap f hs hown ad k c g hx hr hm hbase fun a' cap w' h2 h3 => hK _ _ (h a' cap w' h2 h3)

end Go.Proofs.Ytmjggolllijamaa
