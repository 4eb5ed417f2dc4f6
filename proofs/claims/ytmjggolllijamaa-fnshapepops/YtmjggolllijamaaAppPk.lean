/-
  append OF PACKETS: any number of them, none too, onto a list that is one's own; one more onto such a list. copied, l3own.
-/
import Derived.Test.YtmjggolllijamaaPkS
import Derived.Laws.OwnMore
import Derived.Deep.AppendLies
import Derived.Deep.RegionHeldLaw
import Derived.Deep.RegionHeld3
namespace Go.Proofs.Ytmjggolllijamaa
open Go.RowKit
set_option linter.unusedVariables false

/-- The cells of m packets. -/
def cellsL (f : Nat → Pk) (m : Nat) : List Value := (List.range (m * 6)).map fun o => Value.int .i64 (flat f o)
theorem cellsL_len (f : Nat → Pk) (m : Nat) : (cellsL f m).length = m * 6 := by simp [cellsL]
theorem cellsL_get (f : Nat → Pk) (m j : Nat) (hj : j < m * 6) : (cellsL f m)[j]? = some (.int .i64 (flat f j)) := by simp [cellsL, hj]
theorem cellsL_one (f : Nat → Pk) (m : Nat) : ∀ u ∈ cellsL f m, u.oneCell' = true := by
  intro u hu
  obtain ⟨j, _, rfl⟩ := List.mem_map.1 hu
  rfl
/-- .. and one more. -/
theorem cellsL_snoc (f : Nat → Pk) (m : Nat) (p : Pk) : cellsL f m ++ (pkCells p).toList = cellsL (fun i => if i = m then p else f i) (m + 1) := by
  apply List.ext_getElem?
  intro j
  by_cases h1 : j < m * 6
  · rw [List.getElem?_append_left (by rw [cellsL_len]; exact h1), cellsL_get _ _ _ h1, cellsL_get _ _ _ (by omega)]
    unfold flat
    dsimp only
    rw [if_neg (by omega)]
  · rw [List.getElem?_append_right (by rw [cellsL_len]; omega), cellsL_len]
    by_cases h2 : j < (m + 1) * 6
    · rw [cellsL_get _ _ _ h2]
      unfold flat
      dsimp only
      rw [if_pos (by omega), show j % 6 = j - m * 6 by omega]
      generalize ht : j - m * 6 = t
      have hc : t = 0 ∨ t = 1 ∨ t = 2 ∨ t = 3 ∨ t = 4 ∨ t = 5 := by omega
      rcases hc with rfl | rfl | rfl | rfl | rfl | rfl <;> rfl
    · rw [List.getElem?_eq_none (by simp; omega), List.getElem?_eq_none (by rw [cellsL_len]; omega)]
/-- m packets that are one's own, in a row from base on. -/
def PO (base : Nat) (w : World) (x : Option Addr) (m cap : Nat) (f : Nat → Pk) : Prop := w.ownsRow base 31 6 (.slice x m cap) m (cellsL f m)
theorem PO.zi {base : Nat} {w : World} {x : Option Addr} {m cap : Nat} {f : Nat → Pk} (h : PO base w x m cap f) : ZI base w.heap.size w x (m * 6) (flat f) := by
  obtain ⟨hl, ⟨hv, h0⟩ | ⟨g, cp, cur, hv, hb, hh, h1, h2, h3, h4⟩⟩ := h
  · exact .inl (by omega)
  · simp only [Value.slice.injEq] at hv
    obtain ⟨rfl, _, rfl⟩ := hv
    have h' : w.ownsRow base 31 6 (.slice (some ⟨g, 0, none⟩) m cap) m (cellsL f m) := ⟨hl, .inr ⟨g, cap, cur, rfl, hb, hh, h1, h2, h3, h4⟩⟩
    refine .inr ⟨g, rfl, hb, (Array.getElem?_eq_some_iff.1 hh).1, (Array.getElem?_eq_some_iff.1 hh).1, fun i hi => ⟨?_, h'.frozenAt i⟩⟩
    rw [h'.cellAt i (by omega), cellsL_get _ _ _ hi]
theorem PO.cap {base : Nat} {w : World} {x : Option Addr} {m cap : Nat} {f : Nat → Pk} (h : PO base w x m cap f) : m ≤ cap := by
  obtain ⟨hl, ⟨hv, h0⟩ | ⟨g, cp, cur, hv, hb, hh, h1, h2, h3, h4⟩⟩ := h
  · omega
  · simp only [Value.slice.injEq] at hv
    obtain ⟨rfl, _, rfl⟩ := hv
    exact h1
theorem PO.nil (base : Nat) (w : World) (f : Nat → Pk) : PO base w none 0 0 f := World.ownsRow_nil w base _ 6
theorem PO.below {base : Nat} {w w' : World} {x : Option Addr} {m cap : Nat} {f : Nat → Pk} (h : PO base w x m cap f) (hb : Below w.heap.size w w') : PO base w' x m cap f := by
  obtain ⟨hl, ⟨hv, h0⟩ | ⟨g, cp, cur, hv, hbs, hh, h1, h2, h3, h4⟩⟩ := h
  · exact ⟨hl, .inl ⟨hv, h0⟩⟩
  · exact ⟨hl, .inr ⟨g, cp, cur, hv, hbs, (hb.block g (Array.getElem?_eq_some_iff.1 hh).1).trans hh, h1, h2, h3, h4⟩⟩
theorem PO.mono {base base' : Nat} {w : World} {x : Option Addr} {m cap : Nat} {f : Nat → Pk} (h : PO base w x m cap f) (hb : base' ≤ base) : PO base' w x m cap f := by
  obtain ⟨hl, ⟨hv, h0⟩ | ⟨g, cp, cur, hv, hbs, hh, h1, h2, h3, h4⟩⟩ := h
  · exact ⟨hl, .inl ⟨hv, h0⟩⟩
  · exact ⟨hl, .inr ⟨g, cp, cur, hv, Nat.le_trans hb hbs, hh, h1, h2, h3, h4⟩⟩

theorem append_none (P : Program) (w : World) (t ty e : TypeId) (i : TypeInfo) (ht : P.underlying t = some (.slice e)) (hi : P.info? e = some i) (base : Option Addr) (sLen sCap : Nat) (hle : sLen ≤ sCap) (x : Option Addr) (c : Nat) :
    (Builtin.append_ #[t, t] ty #[.slice base sLen sCap, .slice x 0 c]).run P w = .ok (.slice base sLen sCap) w := by
  cases base <;> cases x <;> simp [Builtin.append_, run_underlying ht, sizeOf, typeInfo, hi, hle, storeCells, loadCells, loadCellsFrom, Builtin.lenOf, Builtin.firstCells]

theorem infoPkt_parts : ∃ i, Try.prog.info? 31 = some i ∧ i.zero = some (.agg #[.int .i64 0, .int .i64 0, .int .i64 0, .int .i64 0, .int .i64 0, .int .i64 0]) ∧ i.size = 6 ∧ i.bytes = 48 := by
  obtain ⟨i, hi, hzz⟩ := Option.map_eq_some_iff.1 infoPkt
  simp only [Prod.mk.injEq] at hzz
  exact ⟨i, hi, hzz.1, hzz.2.1, hzz.2.2⟩

/-- Onto none of one's own. -/
theorem wp_append_pk {w : World} {o : Oper} {a : Act} {K : Act → World → Prop} {Q : Exit → Act → World → Prop} (s x : Operand)
    (ho : o.op = .call { callee := .builtin .append, args := #[s, x], argTypes := #[48, 48] })
    (base : Nat) (v : Value) (hs : a.eval s = v) (hown : w.ownsRow base 31 6 v 0 [])
    (ad : Option Addr) (m c : Nat) (f : Nat → Pk) (hx : a.eval x = .slice ad m c) (hr : PR w.heap.size w ad m f) (hm : m ≤ 1048576) (hbase : base ≤ w.heap.size)
    (h : ∀ a' cap w', PO base w' a' m cap f → w.grownBy w' v.ownBlock → K (a.put o.dst (.slice a' m cap)) w') : o.wp Try.prog a w K Q := by
  obtain ⟨i0, hi0, hz0, hz1, hz2⟩ := infoPkt_parts
  by_cases h0 : m = 0
  · subst h0
    unfold Oper.wp execOp
    have hown' := hown
    rcases hown.2 with ⟨rfl, _⟩ | ⟨g, cap, cur, rfl, _, _, _, _, _, _⟩
    · simp only [ho, resolve, invoke, builtin, Sem.run_bind, Sem.run_pure, Result.andThen_ok, List.map_toArray, List.map_cons, List.map_nil, hs, hx, append_none Try.prog w 48 o.type 31 i0 Try.underlying48 hi0 none 0 0 (Nat.le_refl _) ad c]
      exact h none 0 w hown' (World.grownBy.refl _ _)
    · simp only [ho, resolve, invoke, builtin, Sem.run_bind, Sem.run_pure, Result.andThen_ok, List.map_toArray, List.map_cons, List.map_nil, hs, hx, append_none Try.prog w 48 o.type 31 i0 Try.underlying48 hi0 (some ⟨g, 0, none⟩) 0 cap (Nat.zero_le _) ad c]
      exact h _ cap w hown' (World.grownBy.refl _ _)
  · obtain ⟨b, off, rfl, hb, hc⟩ := PR.at hr (j := 0) (by omega)
    refine wp_append_lies w s x 48 ho base 31 i0 _ 6 48 Try.underlying48 hi0 hz0 hz1 hz2 rfl (by omega) v 0 [] hs hown ⟨b, off, none⟩ m c (cellsL f m) hx (cellsL_len f m) ?_ (cellsL_one f m) (by omega) (by unfold maxLen; omega) (by omega) hbase _ rfl ?_
    · intro j u hu
      have hj : j < m * 6 := by
        have := (List.getElem?_eq_some_iff.1 hu).1
        rw [cellsL_len] at this
        exact this
      rw [cellsL_get f m j hj] at hu
      cases hu
      rw [WideShapes.add_plain]
      have hp := hc (j / 6) (by omega)
      unfold flat
      have hm : j % 6 < 6 := Nat.mod_lt _ (by omega)
      have hj' : off + j = off + j / 6 * 6 + j % 6 := by omega
      rw [hj']
      generalize j % 6 = t at hm
      have hc : t = 0 ∨ t = 1 ∨ t = 2 ∨ t = 3 ∨ t = 4 ∨ t = 5 := by omega
      rcases hc with rfl | rfl | rfl | rfl | rfl | rfl
      · exact hp.1
      · exact hp.2.1
      · exact hp.2.2.1
      · exact hp.2.2.2.1
      · exact hp.2.2.2.2.1
      · exact hp.2.2.2.2.2
    · intro g cap w' h1 h2 h3 h4
      rw [Nat.zero_add] at h1 ⊢
      exact h _ cap w' (by simpa [PO] using h1) h2

theorem wpList_append_pk {w : World} {ops : Array Oper} {rest : List Oper} {o : Oper} {a : Act} {Q : Exit → Act → World → Prop} (hgd : o.guard = none) (s x : Operand)
    (ho : o.op = .call { callee := .builtin .append, args := #[s, x], argTypes := #[48, 48] })
    (base : Nat) (v : Value) (hs : a.eval s = v) (hown : w.ownsRow base 31 6 v 0 [])
    (ad : Option Addr) (m c : Nat) (f : Nat → Pk) (hx : a.eval x = .slice ad m c) (hr : PR w.heap.size w ad m f) (hm : m ≤ 1048576) (hbase : base ≤ w.heap.size)
    (h : ∀ a' cap w', PO base w' a' m cap f → w.grownBy w' v.ownBlock → wpList Try.prog ops Q rest (a.put o.dst (.slice a' m cap)) w') : wpList Try.prog ops Q (o :: rest) a w :=
  wpList_plain hgd fun _ hK => wp_append_pk s x ho base v hs hown ad m c f hx hr hm hbase fun a' cap w' h2 h3 => hK _ _ (h a' cap w' h2 h3)

theorem step_append_pk {w : World} {ops : Array Oper} {o : Oper} {a : Act} {K : Act → World → Prop} {Q : Exit → Act → World → Prop} {E : Prop} (hgd : o.guard = none) (s x : Operand)
    (ho : o.op = .call { callee := .builtin .append, args := #[s, x], argTypes := #[48, 48] })
    (base : Nat) (v : Value) (hs : a.eval s = v) (hown : w.ownsRow base 31 6 v 0 [])
    (ad : Option Addr) (m c : Nat) (f : Nat → Pk) (hx : a.eval x = .slice ad m c) (hr : PR w.heap.size w ad m f) (hm : m ≤ 1048576) (hbase : base ≤ w.heap.size)
    (h : ∀ a' cap w', PO base w' a' m cap f → w.grownBy w' v.ownBlock → K (a.put o.dst (.slice a' m cap)) w') :
    if Region.wanted o (yielded ops a.tmps) = true then Oper.wp Try.prog o a w K Q else E := by
  have hw : Region.wanted o (yielded ops a.tmps) = true := by simp [Region.wanted, hgd]
  rw [if_pos hw]
  exact wp_append_pk s x ho base v hs hown ad m c f hx hr hm hbase h

/-- One more onto a list that is one's own. -/
theorem wp_append_pk1 {w : World} {o : Oper} {a : Act} {K : Act → World → Prop} {Q : Exit → Act → World → Prop} (s x : Operand)
    (ho : o.op = .call { callee := .builtin .append, args := #[s, x], argTypes := #[48, 48] })
    (base : Nat) (y : Option Addr) (m cap : Nat) (f : Nat → Pk) (hs : a.eval s = .slice y m cap) (hown : PO base w y m cap f)
    (B : Nat) (p : Pk) (hx : a.eval x = .slice (some ⟨B, 0, none⟩) 1 1) (hB : PAt w B 0 p) (hm : m ≤ 1048576) (hbase : base ≤ w.heap.size)
    (h : ∀ g cap' w', PO base w' (some ⟨g, 0, none⟩) (m + 1) cap' (fun i => if i = m then p else f i) → w.grownBy w' (Value.slice y m cap).ownBlock → ((Value.slice y m cap).ownBlock = some g ∨ g = w.heap.size) → g < w'.heap.size → K (a.put o.dst (.slice (some ⟨g, 0, none⟩) (m + 1) cap')) w') : o.wp Try.prog a w K Q := by
  obtain ⟨i0, hi0, hz0, hz1, hz2⟩ := infoPkt_parts
  refine wp_append_lies w s x 48 ho base 31 i0 _ 6 48 Try.underlying48 hi0 hz0 hz1 hz2 rfl (by omega) _ m (cellsL f m) hs hown ⟨B, 0, none⟩ 1 1 (pkCells p).toList hx (by simp) ?_ (by simp [Value.oneCell']) (by omega) (by unfold maxLen; omega) (by omega) hbase _ rfl ?_
  · intro j u hu
    have hj : j < 6 := by simpa using (List.getElem?_eq_some_iff.1 hu).1
    rw [WideShapes.add_plain, Nat.zero_add]
    obtain ⟨h0, h1, h2, h3, h4, h5⟩ := hB
    have hc : j = 0 ∨ j = 1 ∨ j = 2 ∨ j = 3 ∨ j = 4 ∨ j = 5 := by omega
    rcases hc with rfl | rfl | rfl | rfl | rfl | rfl <;> (simp at hu; subst hu; simpa using ‹_›)
  · intro g cp w' h1 h2 h3 h4
    rw [cellsL_snoc] at h1
    exact h _ cp w' h1 h2 h3 h4

theorem wpList_append_pk1 {w : World} {ops : Array Oper} {rest : List Oper} {o : Oper} {a : Act} {Q : Exit → Act → World → Prop} (hgd : o.guard = none) (s x : Operand)
    (ho : o.op = .call { callee := .builtin .append, args := #[s, x], argTypes := #[48, 48] })
    (base : Nat) (y : Option Addr) (m cap : Nat) (f : Nat → Pk) (hs : a.eval s = .slice y m cap) (hown : PO base w y m cap f)
    (B : Nat) (p : Pk) (hx : a.eval x = .slice (some ⟨B, 0, none⟩) 1 1) (hB : PAt w B 0 p) (hm : m ≤ 1048576) (hbase : base ≤ w.heap.size)
    (h : ∀ g cap' w', PO base w' (some ⟨g, 0, none⟩) (m + 1) cap' (fun i => if i = m then p else f i) → w.grownBy w' (Value.slice y m cap).ownBlock → ((Value.slice y m cap).ownBlock = some g ∨ g = w.heap.size) → g < w'.heap.size → wpList Try.prog ops Q rest (a.put o.dst (.slice (some ⟨g, 0, none⟩) (m + 1) cap')) w') : wpList Try.prog ops Q (o :: rest) a w :=
  wpList_plain hgd fun _ hK => wp_append_pk1 s x ho base y m cap f hs hown B p hx hB hm hbase fun g cap w' h2 h3 h4 h5 => hK _ _ (h g cap w' h2 h3 h4 h5)

theorem step_append_pk1 {w : World} {ops : Array Oper} {o : Oper} {a : Act} {K : Act → World → Prop} {Q : Exit → Act → World → Prop} {E : Prop} (hgd : o.guard = none) (s x : Operand)
    (ho : o.op = .call { callee := .builtin .append, args := #[s, x], argTypes := #[48, 48] })
    (base : Nat) (y : Option Addr) (m cap : Nat) (f : Nat → Pk) (hs : a.eval s = .slice y m cap) (hown : PO base w y m cap f)
    (B : Nat) (p : Pk) (hx : a.eval x = .slice (some ⟨B, 0, none⟩) 1 1) (hB : PAt w B 0 p) (hm : m ≤ 1048576) (hbase : base ≤ w.heap.size)
    (h : ∀ g cap' w', PO base w' (some ⟨g, 0, none⟩) (m + 1) cap' (fun i => if i = m then p else f i) → w.grownBy w' (Value.slice y m cap).ownBlock → ((Value.slice y m cap).ownBlock = some g ∨ g = w.heap.size) → g < w'.heap.size → K (a.put o.dst (.slice (some ⟨g, 0, none⟩) (m + 1) cap')) w') :
    if Region.wanted o (yielded ops a.tmps) = true then Oper.wp Try.prog o a w K Q else E := by
  have hw : Region.wanted o (yielded ops a.tmps) = true := by simp [Region.wanted, hgd]
  rw [if_pos hw]
  exact wp_append_pk1 s x ho base y m cap f hs hown B p hx hB hm hbase h

theorem copied_any (a : Option Addr) (m c : Nat) (f : Nat → Pk) (w : World) (hP : PR w.heap.size w a m f) (hm : m ≤ 1048576) :
    Calls Try.prog 64 #[.slice a m c] w fun e w' => ∃ (x : Option Addr) (cap : Nat), e = .returned (.slice x m cap) ∧ PO w.heap.size w' x m cap f ∧ Below w.heap.size w w' := by
  have HP : Hid (PR w.heap.size w a m f) := hP
  clear hP
  go_enter Try.func64, Try.ntmps64
  go_wp2_with (at_builtin; refine wpList_append_pk rfl _ _ rfl w.heap.size _ rfl (World.ownsRow_nil _ _ _ _) a m c f rfl HP.out hm (Nat.le_refl _) ?_; intro x cap w1 hpo hgr)
  go_ret
  exact ⟨x, cap, rfl, hpo, (Below.refl _ _).grown hgr (Nat.le_refl _) (fun k e => by cases e)⟩

theorem Lies.frozen {W : World} {B : Nat} {vs : Array Value} {t : TypeId} (h : Lies W B vs t) (o : Nat) : W.frozen? ⟨B, o, none⟩ = false := by simp [World.frozen?, show W.heap[B]? = _ from h]
theorem Lies.set0 {W : World} {V : Nat} {a b : Value} {t : TypeId} (h : Lies W V #[a, b] t) (a' : Value) : Lies (W.setCell ⟨V, 0, none⟩ a') V #[a', b] t := by
  have h' : W.heap[V]? = some (.cells #[a, b] t) := h
  show (W.heap.modify V _)[V]? = _
  rw [Array.getElem?_modify]
  simp [h']
theorem PO.far {base : Nat} {w : World} {x : Option Addr} {m cap : Nat} {f : Nat → Pk} (h : PO base w x m cap f) {H : Nat} (hH : H < base) (o : Nat) (v : Value) : PO base (w.setCell ⟨H, o, none⟩ v) x m cap f := by
  obtain ⟨hl, ⟨hv, h0⟩ | ⟨g, cp, cur, hv, hbs, hh, h1, h2, h3, h4⟩⟩ := h
  · exact ⟨hl, .inl ⟨hv, h0⟩⟩
  · exact ⟨hl, .inr ⟨g, cp, cur, hv, hbs, (Below.heap_setCell _ _ _ g (by show g ≠ H; omega)).trans hh, h1, h2, h3, h4⟩⟩
theorem PO.set_ne {base : Nat} {w : World} {g m cap : Nat} {f : Nat → Pk} (h : PO base w (some ⟨g, 0, none⟩) m cap f) {H : Nat} (hH : g ≠ H) (o : Nat) (v : Value) : PO base (w.setCell ⟨H, o, none⟩ v) (some ⟨g, 0, none⟩) m cap f := by
  obtain ⟨hl, ⟨hv, h0⟩ | ⟨g', cp, cur, hv, hbs, hh, h1, h2, h3, h4⟩⟩ := h
  · cases hv
  · have e : g' = g := by simp only [Value.slice.injEq, Option.some.injEq, Addr.mk.injEq] at hv; exact hv.1.1.symm
    subst e
    exact ⟨hl, .inr ⟨g', cp, cur, hv, hbs, (Below.heap_setCell _ _ _ g' (by show g' ≠ H; exact hH)).trans hh, h1, h2, h3, h4⟩⟩
theorem PO.own_lt {base : Nat} {w : World} {x : Option Addr} {m cap : Nat} {f : Nat → Pk} (h : PO base w x m cap f) : ∀ k, (Value.slice x m cap).ownBlock = some k → base ≤ k ∧ k < w.heap.size := World.ownsRow.lt h
/-- A list of none that is one's own, where a literal of none was laid. -/
theorem pk_empty (w : World) (base g : Nat) (hg : base ≤ g) (h : w.heap[g]? = some (.cells #[] 31)) : w.ownsRow base 31 6 (.slice (some ⟨g, 0, none⟩) 0 0) 0 [] :=
  ⟨by simp, .inr ⟨g, 0, #[], rfl, hg, h, Nat.le_refl _, by unfold maxLen; omega, by simp, by simp⟩⟩
theorem pk_empty_new (W : World) (base g : Nat) (hg : W.heap.size = g) (hb : base ≤ g) : (W.alloc (.cells #[] 31)).drew.ownsRow base 31 6 (.slice (some ⟨g, 0, none⟩) 0 0) 0 [] := pk_empty _ _ _ hb (by subst hg; exact World.alloc_heap_new W _)
/-- What lay below H behind an append onto a block from H on. -/
theorem grown_cells {H : Nat} {w w' : World} {row : Option Nat} (hg : w.grownBy w' row) (hH : H ≤ w.heap.size) (hr : ∀ k, row = some k → H ≤ k) : (∀ b o, b < H → w'.cell? ⟨b, o, none⟩ = w.cell? ⟨b, o, none⟩) ∧ (∀ b o, b < H → w'.frozen? ⟨b, o, none⟩ = w.frozen? ⟨b, o, none⟩) := by
  have hb : Below H w w' := (Below.refl H w).grown hg hH (fun k e => hr k e)
  exact ⟨fun b o h => hb.cell (p := ⟨b, o, none⟩) h, fun b o h => hb.frozen (p := ⟨b, o, none⟩) h⟩

end Go.Proofs.Ytmjggolllijamaa
