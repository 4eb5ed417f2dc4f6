/-
  ONE MORE BYTE ONTO A LIST OF BYTES THAT IS ONE'S OWN; the program's put.
-/
import Derived.Test.YtcfkmkkgeoaaeaaDoorAppAny
import Derived.Test.YtcfkmkkgeoaaeaaDoorSits
import Derived.Deep.AppendLies
import Derived.Deep.RegionHeld3
import Derived.Deep.RegionLaw
namespace Go.Proofs.YtcfkmkkgeoaaeaaDoor
open Go.RowKit
set_option linter.unusedVariables false

def byL (f : Nat → Int) (m : Nat) : List Value := (List.range m).map fun j => Value.int .u8 (f j)
theorem byL_len (f : Nat → Int) (m : Nat) : (byL f m).length = m := by simp [byL]
theorem byL_snoc (f : Nat → Int) (m : Nat) (v : Int) : byL f m ++ [Value.int .u8 v] = byL (fun i => if i = m then v else f i) (m + 1) := by
  unfold byL
  rw [List.range_succ, List.map_append]
  congr 1
  · refine List.map_congr_left fun j hj => ?_
    have : j < m := by simpa using hj
    dsimp only
    rw [if_neg (by omega)]
  · simp
theorem byL_congr {f g : Nat → Int} {m : Nat} (h : ∀ i, i < m → f i = g i) : byL f m = byL g m := List.map_congr_left fun j hj => by rw [h j (by simpa using hj)]
/-- m bytes that are one's own, in a block from base on. -/
def BO (base : Nat) (w : World) (x : Option Addr) (m cap : Nat) (f : Nat → Int) : Prop := w.ownsRow base 5 1 (.slice x m cap) m (byL f m)
theorem BO.nil (base : Nat) (w : World) (f : Nat → Int) : BO base w none 0 0 f := World.ownsRow_nil w base _ 1
theorem BO.congr {base : Nat} {w : World} {x : Option Addr} {m cap : Nat} {f g : Nat → Int} (h : BO base w x m cap f) (e : ∀ i, i < m → f i = g i) : BO base w x m cap g := by unfold BO; rw [← byL_congr e]; exact h
theorem BO.below {base : Nat} {w w' : World} {x : Option Addr} {m cap : Nat} {f : Nat → Int} (h : BO base w x m cap f) (hb : Below w.heap.size w w') : BO base w' x m cap f := by
  obtain ⟨hl, ⟨hv, h0⟩ | ⟨g, cp, cur, hv, hbs, hh, h1, h2, h3, h4⟩⟩ := h
  · exact ⟨hl, .inl ⟨hv, h0⟩⟩
  · exact ⟨hl, .inr ⟨g, cp, cur, hv, hbs, (hb.block g (Array.getElem?_eq_some_iff.1 hh).1).trans hh, h1, h2, h3, h4⟩⟩
theorem BO.mono {base base' : Nat} {w : World} {x : Option Addr} {m cap : Nat} {f : Nat → Int} (h : BO base w x m cap f) (hb : base' ≤ base) : BO base' w x m cap f := by
  obtain ⟨hl, ⟨hv, h0⟩ | ⟨g, cp, cur, hv, hbs, hh, h1, h2, h3, h4⟩⟩ := h
  · exact ⟨hl, .inl ⟨hv, h0⟩⟩
  · exact ⟨hl, .inr ⟨g, cp, cur, hv, Nat.le_trans hb hbs, hh, h1, h2, h3, h4⟩⟩
theorem BO.far {base : Nat} {w : World} {x : Option Addr} {m cap : Nat} {f : Nat → Int} (h : BO base w x m cap f) {H : Nat} (hH : H < base) (o : Nat) (v : Value) : BO base (w.setCell ⟨H, o, none⟩ v) x m cap f := by
  obtain ⟨hl, ⟨hv, h0⟩ | ⟨g, cp, cur, hv, hbs, hh, h1, h2, h3, h4⟩⟩ := h
  · exact ⟨hl, .inl ⟨hv, h0⟩⟩
  · exact ⟨hl, .inr ⟨g, cp, cur, hv, hbs, (Below.heap_setCell _ _ _ g (by show g ≠ H; omega)).trans hh, h1, h2, h3, h4⟩⟩
theorem BO.drew {base : Nat} {w : World} {x : Option Addr} {m cap : Nat} {f : Nat → Int} (h : BO base w x m cap f) : BO base w.drew x m cap f := h
theorem BO.alloc {base : Nat} {w : World} {x : Option Addr} {m cap : Nat} {f : Nat → Int} (h : BO base w x m cap f) (o : Obj) : BO base (w.alloc o) x m cap f := h.below ((Below.refl _ _).alloc (Nat.le_refl _) _)
theorem BO.own_lt {base : Nat} {w : World} {x : Option Addr} {m cap : Nat} {f : Nat → Int} (h : BO base w x m cap f) : ∀ k, (Value.slice x m cap).ownBlock = some k → base ≤ k ∧ k < w.heap.size := World.ownsRow.lt h
theorem BO.fresh {base : Nat} {w : World} {x : Option Addr} {m cap : Nat} {f : Nat → Int} (h : BO base w x m cap f) : Fresh base w x m f := by
  have h' := h
  obtain ⟨hl, ⟨hv, h0⟩ | ⟨g, cp, cur, hv, hb, hh, h1, h2, h3, h4⟩⟩ := h
  · exact .inl h0
  · simp only [Value.slice.injEq] at hv
    obtain ⟨rfl, _, rfl⟩ := hv
    obtain ⟨k1, k2⟩ := own_of_row (f := f) (show w.ownsRow base 5 1 (.slice (some ⟨g, 0, none⟩) m cap) m ((List.range m).map fun j => Value.int .u8 (f j)) from h')
    exact .inr ⟨g, rfl, k1, k2⟩
theorem BO.cap {base : Nat} {w : World} {x : Option Addr} {m cap : Nat} {f : Nat → Int} (h : BO base w x m cap f) : m ≤ cap := by
  obtain ⟨hl, ⟨hv, h0⟩ | ⟨g, cp, cur, hv, hb, hh, h1, h2, h3, h4⟩⟩ := h
  · omega
  · simp only [Value.slice.injEq] at hv
    obtain ⟨rfl, _, rfl⟩ := hv
    exact h1

theorem wp_append_by1 {w : World} {o : Oper} {a : Act} {K : Act → World → Prop} {Q : Exit → Act → World → Prop} (s x : Operand)
    (ho : o.op = .call { callee := .builtin .append, args := #[s, x], argTypes := #[27, 27] })
    (base : Nat) (y : Option Addr) (m cap : Nat) (f : Nat → Int) (hs : a.eval s = .slice y m cap) (hown : BO base w y m cap f)
    (B : Nat) (v : Int) (hx : a.eval x = .slice (some ⟨B, 0, none⟩) 1 1) (hB : w.cell? ⟨B, 0, none⟩ = some (.int .u8 v)) (hm : m ≤ 1048576) (hbase : base ≤ w.heap.size)
    (h : ∀ g cap' w', BO base w' (some ⟨g, 0, none⟩) (m + 1) cap' (fun i => if i = m then v else f i) → w.grownBy w' (Value.slice y m cap).ownBlock → ((Value.slice y m cap).ownBlock = some g ∨ g = w.heap.size) → g < w'.heap.size → K (a.put o.dst (.slice (some ⟨g, 0, none⟩) (m + 1) cap')) w') : o.wp Tryd.prog a w K Q := by
  obtain ⟨i0, hi0, hz0, hz1, hz2⟩ := info_parts infoU8
  refine wp_append_lies w s x 27 ho base 5 i0 (.int .u8 0) 1 1 Tryd.underlying27 hi0 hz0 hz1 hz2 rfl (by omega) _ m (byL f m) hs hown ⟨B, 0, none⟩ 1 1 [.int .u8 v] hx (by simp) ?_ (by simp [Value.oneCell']) (by omega) (by unfold maxLen; omega) (by omega) hbase _ rfl ?_
  · intro j u hu
    have hj : j = 0 := by
      have := (List.getElem?_eq_some_iff.1 hu).1
      simp at this; exact this
    subst hj
    simp at hu
    subst hu
    rw [WideShapes.add_plain, Nat.zero_add]
    exact hB
  · intro g cp w' h1 h2 h3 h4
    rw [byL_snoc] at h1
    exact h _ cp w' h1 h2 h3 h4

theorem step_append_by1 {w : World} {ops : Array Oper} {o : Oper} {a : Act} {K : Act → World → Prop} {Q : Exit → Act → World → Prop} {E : Prop} (hgd : o.guard = none) (s x : Operand)
    (ho : o.op = .call { callee := .builtin .append, args := #[s, x], argTypes := #[27, 27] })
    (base : Nat) (y : Option Addr) (m cap : Nat) (f : Nat → Int) (hs : a.eval s = .slice y m cap) (hown : BO base w y m cap f)
    (B : Nat) (v : Int) (hx : a.eval x = .slice (some ⟨B, 0, none⟩) 1 1) (hB : w.cell? ⟨B, 0, none⟩ = some (.int .u8 v)) (hm : m ≤ 1048576) (hbase : base ≤ w.heap.size)
    (h : ∀ g cap' w', BO base w' (some ⟨g, 0, none⟩) (m + 1) cap' (fun i => if i = m then v else f i) → w.grownBy w' (Value.slice y m cap).ownBlock → ((Value.slice y m cap).ownBlock = some g ∨ g = w.heap.size) → g < w'.heap.size → K (a.put o.dst (.slice (some ⟨g, 0, none⟩) (m + 1) cap')) w') :
    if Region.wanted o (yielded ops a.tmps) = true then Oper.wp Tryd.prog o a w K Q else E := by
  have hw : Region.wanted o (yielded ops a.tmps) = true := by simp [Region.wanted, hgd]
  rw [if_pos hw]
  exact wp_append_by1 s x ho base y m cap f hs hown B v hx hB hm hbase h

/-- Below base nothing has turned but block P. -/
structure Bar (P base : Nat) (w w' : World) : Prop where
  os : w'.os = w.os
  tape : w'.tape = w.tape
  output : w'.output = w.output
  size : w.heap.size ≤ w'.heap.size
  block : ∀ k, k < base → k ≠ P → w'.heap[k]? = w.heap[k]?
theorem Bar.refl (P base : Nat) (w : World) : Bar P base w w := ⟨rfl, rfl, rfl, Nat.le_refl _, fun _ _ _ => rfl⟩
theorem Bar.trans {P base : Nat} {a b c : World} (h : Bar P base a b) (k : Bar P base b c) : Bar P base a c :=
  ⟨k.os.trans h.os, k.tape.trans h.tape, k.output.trans h.output, Nat.le_trans h.size k.size, fun i hi hn => (k.block i hi hn).trans (h.block i hi hn)⟩
theorem Bar.of_below {P base : Nat} {w w' : World} (h : Below base w w') : Bar P base w w' := ⟨h.os, h.tape, h.output, h.size, fun k hk _ => h.block k hk⟩
theorem Bar.set {P base : Nat} {a w : World} (h : Bar P base a w) (o : Nat) (u : Value) : Bar P base a (w.setCell ⟨P, o, none⟩ u) :=
  h.trans ⟨rfl, rfl, rfl, by simp [World.setCell], fun k hk hn => Below.heap_setCell _ _ _ _ hn⟩
theorem Bar.below {P base C : Nat} {w w' : World} (h : Bar P base w w') (hP : C ≤ P) (hb : C ≤ base) : Below C w w' :=
  ⟨h.os, h.tape, h.output, h.size, fun k hk => h.block k (by omega) (by omega)⟩

theorem cell_new1 (w : World) (u : Value) (t : TypeId) : (w.alloc (.cells #[u] t)).drew.cell? ⟨w.heap.size, 0, none⟩ = some u := by simp
/-- What lay below H behind an append onto a block from H on. -/
theorem grown_cells' {H : Nat} {w w' : World} {row : Option Nat} (hg : w.grownBy w' row) (hH : H ≤ w.heap.size) (hr : ∀ k, row = some k → H ≤ k) : (∀ b o, b < H → w'.cell? ⟨b, o, none⟩ = w.cell? ⟨b, o, none⟩) ∧ (∀ b o, b < H → w'.frozen? ⟨b, o, none⟩ = w.frozen? ⟨b, o, none⟩) ∧ Below H w w' := by
  have hb : Below H w w' := (Below.refl H w).grown hg hH (fun k e => hr k e)
  exact ⟨fun b o h => hb.cell (p := ⟨b, o, none⟩) h, fun b o h => hb.frozen (p := ⟨b, o, none⟩) h, hb⟩

end Go.Proofs.YtcfkmkkgeoaaeaaDoor
