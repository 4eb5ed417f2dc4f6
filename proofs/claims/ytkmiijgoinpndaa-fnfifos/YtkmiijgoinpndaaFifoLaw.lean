/-
  WHAT THE LAW FnFifos ASKS BESIDES: a queue that is popped to its end, by numbers; its calls in one form each.
-/
import Derived.Test.YtkmiijgoinpndaaFifosQ
import Derived.Test.YtkmiijgoinpndaaSamePk
namespace Go.Proofs.Ytkmiijgoinpndaa
open Go.RowKit
set_option linter.unusedVariables false

def shiftG (f : Nat → Pk) (i : Nat) : Nat → Pk := fun j => f (i + j)
theorem popF_shift (f : Nat → Pk) (i : Nat) : popF (shiftG f i) = shiftG f (i + 1) := by
  funext j
  show f (i + (j + 1)) = f (i + 1 + j)
  congr 1
  omega
theorem shift_zero (f : Nat → Pk) : shiftG f 0 = f := by
  funext j
  show f (0 + j) = f j
  rw [Nat.zero_add]
theorem shift_head (f : Nat → Pk) (i : Nat) : shiftG f i 0 = f i := rfl
theorem fifoB_of {f : Nat → Pk} {n : Nat} {lim : Int} (h1 : 1 ≤ lim) (h2 : lim ≤ 40) (h3 : (n : Int) ≤ lim) (h4 : lineP f n) : fifoB f n lim = true := by
  unfold fifoB inB lineB
  simp only [Bool.and_eq_true, decide_eq_true_eq]
  exact ⟨⟨h1, h2⟩, h3, h4⟩
theorem fifoB_shift {f : Nat → Pk} {n i m : Nat} {lim : Int} (h : fifoB f n lim = true) (hi : i + m = n) : fifoB (shiftG f i) m lim = true := by
  obtain ⟨h1, h2, h3, h4⟩ := fifo_nums h
  exact fifoB_of h1 h2 (by omega) fun j hj => ⟨(h4 (i + j) (by omega)).1, fun k hk => (h4 (i + j) (by omega)).2 (i + k) (by omega)⟩

theorem ipop_head (y : Option Addr) (G : Nat → Pk) (N i m cy : Nat) (lim : Int) (w : World) (h : fifoB G N lim = true) (hi : i + (m + 1) = N) (hc : m + 1 ≤ cy) (hP : PR w.heap.size w y (m + 1) (shiftG G i)) :
    Calls Try.prog 13 #[.agg #[.slice y (m + 1) cy, .int .i64 lim]] w fun e w' => ∃ (z : Option Addr) (cz : Nat), e = .returned (.tuple #[.agg #[.slice z m cz, .int .i64 lim], .agg #[.int .i64 (G i).id, .int .i64 (G i).flow, .int .i64 (G i).host, .int .i64 (G i).size, .int .i64 (G i).tm, .int .i64 (G i).ecn], .bool true]) ∧ PO w.heap.size w' z m cz (shiftG G (i + 1)) ∧ Below w.heap.size w w' := by
  have hf := fifoB_shift h hi
  have hm := fifo_lim hf
  have hb : popB (shiftG G i) (m + 1) lim = true := by unfold popB; rw [hf]; simp
  have hn : popN (shiftG G i) (m + 1) lim = m := by unfold popN; rw [if_pos hf]; omega
  have hL : popL (shiftG G i) (m + 1) lim = lim := by unfold popL; rw [if_pos hf]
  have hp : popP (shiftG G i) (m + 1) lim = G i := by unfold popP; rw [if_pos hb]; rfl
  have := ipop_any y (m + 1) cy (shiftG G i) lim w (by omega) hc hP
  rw [hb, hn, hL, hp, popF_shift] at this
  exact this
theorem ipop_none (y : Option Addr) (f : Nat → Pk) (cy : Nat) (lim : Int) (w : World) :
    Calls Try.prog 13 #[.agg #[.slice y 0 cy, .int .i64 lim]] w fun e w' => ∃ (z : Option Addr) (cz : Nat) (l : Int), e = .returned (.tuple #[.agg #[.slice z 0 cz, .int .i64 l], .agg #[.int .i64 0, .int .i64 0, .int .i64 0, .int .i64 0, .int .i64 0, .int .i64 0], .bool false]) ∧ Below w.heap.size w w' := by
  have hb : popB f 0 lim = false := by unfold popB; simp
  have hn : popN f 0 lim = 0 := by unfold popN; split <;> rfl
  have hp : popP f 0 lim = ⟨0, 0, 0, 0, 0, 0⟩ := by unfold popP; rw [hb]; rfl
  have := ipop_any y 0 cy f lim w (by omega) (by omega) (pr_none _ _ _ _)
  rw [hb, hn, hp] at this
  refine this.mono ?_
  rintro e w' ⟨z, cz, rfl, _, h⟩
  exact ⟨z, cz, _, rfl, h⟩

theorem ipush_bad (a : Option Addr) (n c : Nat) (f : Nat → Pk) (lim i1 i2 i3 i4 i5 i6 : Int) (w : World) (hn : n ≤ 1048576) (hnc : n ≤ c) (hP : PR w.heap.size w a n f) (h : (fifoB f n lim && (Pk.mk i1 i2 i3 i4 i5 i6).good) = false) :
    Calls Try.prog 5 #[.agg #[.slice a n c, .int .i64 lim], .agg #[.int .i64 i1, .int .i64 i2, .int .i64 i3, .int .i64 i4, .int .i64 i5, .int .i64 i6]] w fun e w' => ∃ (x : Option Addr) (cap : Nat), e = .returned (.tuple #[.agg #[.slice x 0 cap, .int .i64 0], .bool false]) ∧ Below w.heap.size w w' := by
  have h' : pushOk f n lim ⟨i1, i2, i3, i4, i5, i6⟩ = false := h
  have e1 : pushN f n lim ⟨i1, i2, i3, i4, i5, i6⟩ = 0 := by unfold pushN; rw [h']; rfl
  have e2 : pushL f n lim ⟨i1, i2, i3, i4, i5, i6⟩ = 0 := by unfold pushL; rw [h']; rfl
  have e3 : pushB f n lim ⟨i1, i2, i3, i4, i5, i6⟩ = false := by unfold pushB; rw [h']; rfl
  have := ipush_any a n c f lim ⟨i1, i2, i3, i4, i5, i6⟩ w hn hnc hP
  rw [e1, e2, e3] at this
  refine this.mono ?_
  rintro e w' ⟨x, cap, rfl, _, h⟩
  exact ⟨x, cap, rfl, h⟩
theorem ipush_full (a : Option Addr) (n c : Nat) (f : Nat → Pk) (lim i1 i2 i3 i4 i5 i6 : Int) (w : World) (hn : n ≤ 1048576) (hnc : n ≤ c) (hP : PR w.heap.size w a n f) (h : (fifoB f n lim && (Pk.mk i1 i2 i3 i4 i5 i6).good) = true) (hf : fifoB (pushF f n ⟨i1, i2, i3, i4, i5, i6⟩) (n + 1) lim = false) :
    Calls Try.prog 5 #[.agg #[.slice a n c, .int .i64 lim], .agg #[.int .i64 i1, .int .i64 i2, .int .i64 i3, .int .i64 i4, .int .i64 i5, .int .i64 i6]] w fun e w' => ∃ (x : Option Addr) (cap : Nat), e = .returned (.tuple #[.agg #[.slice x n cap, .int .i64 lim], .bool false]) ∧ PO w.heap.size w' x n cap f ∧ Below w.heap.size w w' := by
  have h' : pushOk f n lim ⟨i1, i2, i3, i4, i5, i6⟩ = true := h
  have e1 : pushN f n lim ⟨i1, i2, i3, i4, i5, i6⟩ = n := by unfold pushN; rw [h', hf]; rfl
  have e2 : pushL f n lim ⟨i1, i2, i3, i4, i5, i6⟩ = lim := by unfold pushL; rw [h']; rfl
  have e3 : pushB f n lim ⟨i1, i2, i3, i4, i5, i6⟩ = false := by unfold pushB; rw [h', hf]; rfl
  have := ipush_any a n c f lim ⟨i1, i2, i3, i4, i5, i6⟩ w hn hnc hP
  rw [e1, e2, e3] at this
  refine this.mono ?_
  rintro e w' ⟨x, cap, rfl, ho, h⟩
  exact ⟨x, cap, rfl, ho.congr fun i hi => by unfold pushF; rw [if_neg (by omega)], h⟩
theorem ipush_in (a : Option Addr) (n c : Nat) (f : Nat → Pk) (lim i1 i2 i3 i4 i5 i6 : Int) (w : World) (hn : n ≤ 1048576) (hnc : n ≤ c) (hP : PR w.heap.size w a n f) (h : (fifoB f n lim && (Pk.mk i1 i2 i3 i4 i5 i6).good) = true) (hf : fifoB (pushF f n ⟨i1, i2, i3, i4, i5, i6⟩) (n + 1) lim = true) :
    Calls Try.prog 5 #[.agg #[.slice a n c, .int .i64 lim], .agg #[.int .i64 i1, .int .i64 i2, .int .i64 i3, .int .i64 i4, .int .i64 i5, .int .i64 i6]] w fun e w' => ∃ (x : Option Addr) (cap : Nat), e = .returned (.tuple #[.agg #[.slice x (n + 1) cap, .int .i64 lim], .bool true]) ∧ PO w.heap.size w' x (n + 1) cap (pushF f n ⟨i1, i2, i3, i4, i5, i6⟩) ∧ Below w.heap.size w w' := by
  have h' : pushOk f n lim ⟨i1, i2, i3, i4, i5, i6⟩ = true := h
  have e1 : pushN f n lim ⟨i1, i2, i3, i4, i5, i6⟩ = n + 1 := by unfold pushN; rw [h', hf]; rfl
  have e2 : pushL f n lim ⟨i1, i2, i3, i4, i5, i6⟩ = lim := by unfold pushL; rw [h']; rfl
  have e3 : pushB f n lim ⟨i1, i2, i3, i4, i5, i6⟩ = true := by unfold pushB; rw [h', hf]; rfl
  have := ipush_any a n c f lim ⟨i1, i2, i3, i4, i5, i6⟩ w hn hnc hP
  rw [e1, e2, e3] at this
  exact this

theorem sum_pushed (f : Nat → Pk) (n : Nat) (p : Pk) : sumF (pushF f n p) (n + 1) = sumF f n + p.size := by
  rw [sumF_succ]
  have h1 : (pushF f n p n) = p := by unfold pushF; rw [if_pos rfl]
  rw [h1]
  congr 1
  unfold sumF
  congr 1
  refine List.map_congr_left fun j hj => ?_
  have := List.mem_range.1 hj
  unfold pushF
  rw [if_neg (by omega)]
theorem pushed_at {f : Nat → Pk} {n : Nat} {p : Pk} {i : Nat} (hi : i < n) : f i = pushF f n p i := by unfold pushF; rw [if_neg (by omega)]

/-- A list beside the block that an append has turned. -/
theorem zi_grown {L U : Nat} {w w' : World} {a : Option Addr} {n : Nat} {f : Nat → Int} {row : Option Nat} (h : ZI L U w a n f) (hg : w.grownBy w' row) (hr : ∀ k, row = some k → k < L ∨ U ≤ k) : ZI L U w' a n f := by
  rcases h with h | ⟨B, ha, l, u, ho⟩
  · exact .inl h
  · refine .inr ⟨B, ha, l, u, ?_⟩
    have hb : w'.heap[B]? = w.heap[B]? := hg.block B ho.1 (fun e => by have := hr B e.symm; omega)
    exact ⟨Nat.lt_of_lt_of_le ho.1 hg.size, fun i hi => ⟨(World.cell?_of_block (a := ⟨B, i, none⟩) hb).trans (ho.2 i hi).1, by rw [← (ho.2 i hi).2]; simp [World.frozen?, hb]⟩⟩
theorem drew_alloc_size (W : World) (o : Obj) : (W.alloc o).heap.size = W.heap.size + 1 := by
  show (W.heap.push o).size = _
  simp
theorem sits_grown {w w' : World} {B : Nat} {vs : Array Value} {t : TypeId} {row : Option Nat} (h : Sits w B vs t) (hg : w.grownBy w' row) (hr : some B ≠ row) : Sits w' B vs t := (hg.block B h.lt hr).trans h

/-- The append's steps at an operation whose guard is open. -/
theorem step_append_pkG {w : World} {ops : Array Oper} {o : Oper} {a : Act} {K : Act → World → Prop} {Q : Exit → Act → World → Prop} {E : Prop} (hw : Region.wanted o (yielded ops a.tmps) = true) (s x : Operand)
    (ho : o.op = .call { callee := .builtin .append, args := #[s, x], argTypes := #[23, 23] })
    (base : Nat) (v : Value) (hs : a.eval s = v) (hown : w.ownsRow base 27 6 v 0 [])
    (ad : Option Addr) (m c : Nat) (f : Nat → Pk) (hx : a.eval x = .slice ad m c) (hr : PR w.heap.size w ad m f) (hm : m ≤ 1048576) (hbase : base ≤ w.heap.size)
    (h : ∀ a' cap w', PO base w' a' m cap f → w.grownBy w' v.ownBlock → K (a.put o.dst (.slice a' m cap)) w') :
    if Region.wanted o (yielded ops a.tmps) = true then Oper.wp Try.prog o a w K Q else E := by
  rw [if_pos hw]
  exact wp_append_pk s x ho base v hs hown ad m c f hx hr hm hbase h
theorem step_append_pk1G {w : World} {ops : Array Oper} {o : Oper} {a : Act} {K : Act → World → Prop} {Q : Exit → Act → World → Prop} {E : Prop} (hw : Region.wanted o (yielded ops a.tmps) = true) (s x : Operand)
    (ho : o.op = .call { callee := .builtin .append, args := #[s, x], argTypes := #[23, 23] })
    (base : Nat) (y : Option Addr) (m cap : Nat) (f : Nat → Pk) (hs : a.eval s = .slice y m cap) (hown : PO base w y m cap f)
    (B : Nat) (p : Pk) (hx : a.eval x = .slice (some ⟨B, 0, none⟩) 1 1) (hB : PAt w B 0 p) (hm : m ≤ 1048576) (hbase : base ≤ w.heap.size)
    (h : ∀ g cap' w', PO base w' (some ⟨g, 0, none⟩) (m + 1) cap' (fun i => if i = m then p else f i) → w.grownBy w' (Value.slice y m cap).ownBlock → ((Value.slice y m cap).ownBlock = some g ∨ g = w.heap.size) → g < w'.heap.size → K (a.put o.dst (.slice (some ⟨g, 0, none⟩) (m + 1) cap')) w') :
    if Region.wanted o (yielded ops a.tmps) = true then Oper.wp Try.prog o a w K Q else E := by
  rw [if_pos hw]
  exact wp_append_pk1 s x ho base y m cap f hs hown B p hx hB hm hbase h

/-! What lies there behind one or two new blocks, in whatever order they are laid. -/
theorem bel0 (W : World) : Below W.heap.size W W.drew := (Below.refl _ _).drew
theorem bel1 (W : World) (o : Obj) : Below W.heap.size W (W.alloc o).drew := ((Below.refl _ W).alloc (Nat.le_refl _) o).drew
theorem bel2 (W : World) (o o' : Obj) : Below W.heap.size W ((W.alloc o).alloc o').drew := (((Below.refl _ W).alloc (Nat.le_refl _) o).alloc (bel1 W o).size o').drew
theorem mk1 (W : World) : (W.alloc (.cells #[] 27)).drew.ownsRow W.heap.size 27 6 (.slice (some ⟨W.heap.size, 0, none⟩) 0 0) 0 [] := pk_empty _ _ _ (Nat.le_refl _) (Sits.new' rfl)
theorem mk2 (W : World) (o : Obj) : ((W.alloc (.cells #[] 27)).alloc o).drew.ownsRow W.heap.size 27 6 (.slice (some ⟨W.heap.size, 0, none⟩) 0 0) 0 [] := pk_empty _ _ _ (Nat.le_refl _) (Sits.alloc (Sits.new' rfl) o)
theorem mk3 (W : World) (o : Obj) : ((W.alloc o).alloc (.cells #[] 27)).drew.ownsRow W.heap.size 27 6 (.slice (some ⟨W.heap.size + 1, 0, none⟩) 0 0) 0 [] := pk_empty _ _ _ (Nat.le_succ _) (Sits.new' (drew_alloc_size W o))
theorem own_at {g n c q : Nat} (e : (Value.slice (some ⟨g, 0, none⟩) n c).ownBlock = some q) : g = q := by simpa [Value.ownBlock] using e
theorem mk2q {W w6 : World} {p : Pk} {n c : Nat} (h : ((W.alloc (.cells #[] 27)).alloc (.cells (pkCells p) 27)).drew.grownBy w6 (Value.slice (some ⟨W.heap.size, 0, none⟩) n c).ownBlock) : PAt w6 (W.heap.size + 1) 0 p := by
  have hs : Sits ((W.alloc (.cells #[] 27)).alloc (.cells (pkCells p) 27)).drew (W.heap.size + 1) (pkCells p) 27 := Sits.new' (drew_alloc_size W _)
  exact Lies.pk (sits_grown hs h (fun e => by have := own_at e.symm; omega))
theorem mk3q {W w6 : World} {p : Pk} {n c : Nat} (h : ((W.alloc (.cells (pkCells p) 27)).alloc (.cells #[] 27)).drew.grownBy w6 (Value.slice (some ⟨W.heap.size + 1, 0, none⟩) n c).ownBlock) : PAt w6 W.heap.size 0 p := by
  have hs : Sits ((W.alloc (.cells (pkCells p) 27)).alloc (.cells #[] 27)).drew W.heap.size (pkCells p) 27 := Sits.alloc (Sits.new' rfl) _
  exact Lies.pk (sits_grown hs h (fun e => by have := own_at e.symm; omega))

end Go.Proofs.Ytkmiijgoinpndaa
