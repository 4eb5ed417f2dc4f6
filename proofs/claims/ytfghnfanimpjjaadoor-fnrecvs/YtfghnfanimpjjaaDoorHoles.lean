/-
  WHAT LACKS: Holes OF BOTH SIDES.
-/
import Derived.Test.YtfghnfanimpjjaaDoorRecvG
import Derived.Laws.OwnMore
import Derived.Deep.AppendLies
namespace Go.Proofs.YtfghnfanimpjjaaDoor
open Go.RowKit Go.Shelf
set_option linter.unusedVariables false
attribute [local go_sem] Oper.semAt_some

/-- Hole k: from where what is ahead ends up to span k. -/
def hoF (nx : Int) (f : Nat → Sp) (k : Nat) : Sp := ⟨endF nx f k, (f k).fr⟩
/-- The spans that lack. -/
def holesR (nx : Int) (f : Nat → Sp) (n : Nat) : List Sp := if recvB nx f n then (List.range n).map (hoF nx f) else []
/-- The cells of spans in a row. -/
def cellsP (l : List Sp) : List Value := l.flatMap fun p => [Value.int .i64 p.fr, Value.int .i64 p.to]
theorem cellsP_app (l : List Sp) (p : Sp) : cellsP (l ++ [p]) = cellsP l ++ [Value.int .i64 p.fr, Value.int .i64 p.to] := by simp [cellsP]
theorem cellsP_len (l : List Sp) : (cellsP l).length = l.length * 2 := by
  induction l with
  | nil => rfl
  | cons p l ih => simp [cellsP] at ih ⊢; omega
theorem cellsP_get (l : List Sp) : ∀ j, j < l.length * 2 → (cellsP l)[j]? = some (.int .i64 (flatS (fun i => l.getD i default) j)) := by
  induction l with
  | nil => intro j hj; simp at hj
  | cons p l ih =>
    intro j hj
    have hc : cellsP (p :: l) = Value.int .i64 p.fr :: Value.int .i64 p.to :: cellsP l := by simp [cellsP]
    rw [hc]
    match j with
    | 0 => rfl
    | 1 => rfl
    | j + 2 =>
      rw [List.getElem?_cons_succ, List.getElem?_cons_succ, ih j (by simp at hj; omega)]
      unfold flatS
      rw [show (j + 2) % 2 = j % 2 by omega, show (j + 2) / 2 = j / 2 + 1 by omega]
      simp
def holeL {n : Nat} (nx : Int) (f : Nat → Sp) (pre : List (UptoS n)) : List Sp := (pre.filter fun x => decide (aheadF nx f x.1 < (pieceF nx f x.1).fr)).map fun x => ⟨aheadF nx f x.1, (pieceF nx f x.1).fr⟩
theorem holeL_hit {n : Nat} (nx : Int) (f : Nat → Sp) (pre : List (UptoS n)) (x : UptoS n) (h : aheadF nx f x.1 < (pieceF nx f x.1).fr) : holeL nx f (pre ++ [x]) = holeL nx f pre ++ [⟨aheadF nx f x.1, (pieceF nx f x.1).fr⟩] := by
  unfold holeL; rw [List.filter_append]; simp [h]
theorem holeL_miss {n : Nat} (nx : Int) (f : Nat → Sp) (pre : List (UptoS n)) (x : UptoS n) (h : ¬ aheadF nx f x.1 < (pieceF nx f x.1).fr) : holeL nx f (pre ++ [x]) = holeL nx f pre := by
  unfold holeL; rw [List.filter_append]; simp [h]
theorem holeL_len {n : Nat} (nx : Int) (f : Nat → Sp) (pre : List (UptoS n)) : (holeL nx f pre).length ≤ pre.length := by
  unfold holeL; rw [List.length_map]; exact List.length_filter_le _ _
theorem holeL_all {n : Nat} (nx : Int) (f : Nat → Sp) (good : okS nx f n) (zs : List (UptoS (n + 1))) (h : zs.map (·.1) = List.range (n + 1)) : holeL nx f zs = (List.range n).map (hoF nx f) := by
  have e : holeL nx f zs = ((List.range (n + 1)).filter fun j => decide (aheadF nx f j < (pieceF nx f j).fr)).map fun j => (⟨aheadF nx f j, (pieceF nx f j).fr⟩ : Sp) := by
    unfold holeL; rw [← h, List.filter_map, List.map_map]; rfl
  rw [e, List.range_succ_eq_map]
  have h0 : decide (aheadF nx f 0 < (pieceF nx f 0).fr) = false := by simp [aheadF, pieceF]
  rw [List.filter_cons_of_neg (by rw [h0]; simp), List.filter_map]
  have hall : (List.range n).filter ((fun j => decide (aheadF nx f j < (pieceF nx f j).fr)) ∘ Nat.succ) = List.range n := by
    rw [List.filter_eq_self]
    intro j hj
    have := (good j (List.mem_range.1 hj)).1
    simp only [Function.comp, Nat.succ_eq_add_one, aheadF_succ, pieceF_succ]
    exact decide_eq_true this
  rw [hall, List.map_map]
  apply List.map_congr_left
  intro j _
  simp only [Function.comp, Nat.succ_eq_add_one, aheadF_succ, pieceF_succ]
  rfl

/-- Spans that are one's own. -/
def OS (base : Nat) (w : World) (x : Option Addr) (cap : Nat) (l : List Sp) : Prop := w.ownsRow base 34 2 (.slice x l.length cap) l.length (cellsP l)
theorem os_of {base : Nat} {w : World} {v : Value} {l : List Sp} (h : w.ownsRow base 34 2 v l.length (cellsP l)) : ∃ x cap, v = .slice x l.length cap ∧ OS base w x cap l := by
  rcases h.2 with ⟨hv, h0⟩ | ⟨g, cap, cur, hv, _⟩
  · refine ⟨none, 0, by rw [h0]; exact hv, ?_⟩
    unfold OS
    rw [h0, ← hv]
    exact h0 ▸ h
  · exact ⟨some ⟨g, 0, none⟩, cap, hv, by unfold OS; rw [← hv]; exact h⟩
theorem OS.zs {base : Nat} {w : World} {x : Option Addr} {cap : Nat} {l : List Sp} (h : OS base w x cap l) : ZS base w.heap.size w x (l.length * 2) (flatS (fun i => l.getD i default)) := by
  obtain ⟨hl, ⟨hv, h0⟩ | ⟨g, cp, cur, hv, hb, hh, h1, h2, h3, h4⟩⟩ := h
  · exact .inl (by omega)
  · simp only [Value.slice.injEq] at hv
    obtain ⟨rfl, _, rfl⟩ := hv
    have h' : w.ownsRow base 34 2 (.slice (some ⟨g, 0, none⟩) l.length cap) l.length (cellsP l) := ⟨hl, .inr ⟨g, cap, cur, rfl, hb, hh, h1, h2, h3, h4⟩⟩
    refine .inr ⟨g, rfl, hb, (Array.getElem?_eq_some_iff.1 hh).1, (Array.getElem?_eq_some_iff.1 hh).1, fun i hi => ⟨?_, h'.frozenAt i⟩⟩
    rw [h'.cellAt i (by omega), cellsP_get l i hi]

theorem OS.mono {base base' : Nat} {w : World} {x : Option Addr} {cap : Nat} {l : List Sp} (h : OS base w x cap l) (hb : base' ≤ base) : OS base' w x cap l := by
  obtain ⟨hl, ⟨hv, h0⟩ | ⟨g, cp, cur, hv, hbs, hh, h1, h2, h3, h4⟩⟩ := h
  · exact ⟨hl, .inl ⟨hv, h0⟩⟩
  · exact ⟨hl, .inr ⟨g, cp, cur, hv, Nat.le_trans hb hbs, hh, h1, h2, h3, h4⟩⟩

theorem infoSpan_parts : ∃ i, Tryd.prog.info? 34 = some i ∧ i.zero = some (.agg #[.int .i64 0, .int .i64 0]) ∧ i.size = 2 ∧ i.bytes = 16 := by
  obtain ⟨i, hi, hzz⟩ := Option.map_eq_some_iff.1 infoSpan
  simp only [Prod.mk.injEq] at hzz
  exact ⟨i, hi, hzz.1, hzz.2.1, hzz.2.2⟩

/-- append onto a list of one's own, within a fence; where the new list lies. -/
theorem wpListIn_append_lies {F : Fence} {n : Nat} {P : Program} (w : World) {ops : Array Oper} {rest : List Oper} {o : Oper} {a : Act} {Q : Exit → Act → World → Prop}
    (hg : o.guard = none) (s x : Operand) (t : TypeId) (hop : o.op = Op.call { callee := Callee.builtin Builtin.append, args := #[s, x], argTypes := #[t, t] })
    (base : Nat) (e : TypeId) (i : TypeInfo) (z : Value) (size bytes : Nat) (h1 : P.underlying t = some (.slice e)) (h2 : P.info? e = some i) (h3 : i.zero = some z) (h4 : i.size = size) (h5 : i.bytes = bytes) (h6 : z.cells.size = size) (h7 : 0 < size)
    (v : Value) (k : Nat) (xs : List Value) (hs : a.eval s = v) (hown : w.ownsRow base e size v k xs) (ad : Addr) (m c : Nat) (news : List Value) (hx : a.eval x = .slice (some ad) m c) (hn : news.length = m * size)
    (hc : ∀ j u, news[j]? = some u → w.cell? (ad.add j) = some u) (h1c : ∀ u ∈ news, u.oneCell' = true) (hm : 0 < m) (b1 : k + m ≤ maxLen) (b2 : (k + m) * bytes ≤ 140737488355328) (b3 : base ≤ w.heap.size)
    (hK : ∀ g cap w', w'.ownsRow base e size (.slice (some ⟨g, 0, none⟩) (k + m) cap) (k + m) (xs ++ news) → w.grownBy w' v.ownBlock → (v.ownBlock = some g ∨ g = w.heap.size) → g < w'.heap.size → wpListIn F n P ops Q rest (a.put o.dst (.slice (some ⟨g, 0, none⟩) (k + m) cap)) w') :
    wpListIn F n P ops Q (o :: rest) a w := by
  refine wpListIn_plain hg fun K hK' => ?_
  obtain ⟨g, cap, w', hrun, r1, r2, r3, r4⟩ := run_append_lies (P := P) w t o.type base e i z size bytes h1 h2 h3 h4 h5 h6 h7 v k xs hown ad m c news hn hc h1c hm b1 b2 b3 _ rfl
  unfold Oper.wpIn
  refine ⟨?_, ?_⟩
  · simp [Oper.about, hop, resolve, Target.leads, Sem.run_pure]
  · rw [Oper.semAt_plain F _ _ (by rw [hop]; intro c hc'; cases hc')]
    simp [execOp, hop, resolve, invoke, builtin, hs, hx, hrun, Result.andThen]
    exact hK' _ _ (hK g cap w' r1 r2 r3 r4)
theorem cells_two_new (W : World) (x y : Int) (t : TypeId) : ∀ j u, [Value.int .i64 x, Value.int .i64 y][j]? = some u → (W.alloc (.cells #[.int .i64 x, .int .i64 y] t)).cell? ((⟨W.heap.size, 0, none⟩ : Addr).add j) = some u := by
  intro j u h
  rw [WideShapes.add_plain, Nat.zero_add, World.cell?_alloc_new]
  match j with
  | 0 => simpa using h
  | 1 => simpa using h
  | j + 2 => simp at h

/-- What the loop's body owes behind 'holes = append(holes, ..)'. -/
theorem KpG.appended {W w2 : World} {n₀ m₀ H g k' cap : Nat} {t e : TypeId} {size k : Nat} {v : Value} {xs : List Value} {tmp : Obj}
    (hv : Boxed W H t v) (hrow : W.ownsRow n₀ e size v k xs) (hgrow : (W.alloc tmp).grownBy w2 v.ownBlock) (hlie : v.ownBlock = some g ∨ g = (W.alloc tmp).heap.size) (hlt : g < w2.heap.size)
    (hv2 : Boxed (w2.setCell ⟨H, 0, none⟩ (.slice (some ⟨g, 0, none⟩) k' cap)) H t (.slice (some ⟨g, 0, none⟩) k' cap)) (hb : Below n₀ W (w2.setCell ⟨H, 0, none⟩ (.slice (some ⟨g, 0, none⟩) k' cap))) :
    KpG [H] n₀ m₀ W (w2.setCell ⟨H, 0, none⟩ (.slice (some ⟨g, 0, none⟩) k' cap)) := by
  have hs := hgrow.size
  rw [World.size_alloc] at hs
  have form : ∀ j, v.ownBlock = some j → Owned [H] W j := fun j hj => by
    rcases hrow.2 with ⟨rfl, _⟩ | ⟨g0, cap0, cur, rfl, _⟩
    · simp [Value.ownBlock] at hj
    · have : g0 = j := by simpa [Value.ownBlock] using hj
      subst this
      exact ⟨H, by simp, k, cap0, hv.cell⟩
  have one : ∀ j, Owned [H] (w2.setCell ⟨H, 0, none⟩ (.slice (some ⟨g, 0, none⟩) k' cap)) j → j = g := fun j hj => by
    obtain ⟨H', hH, l, c, hc⟩ := hj
    have : H' = H := by simpa using hH
    subst this
    rw [hv2.cell] at hc
    simp at hc
    exact hc.1.symm
  refine ⟨hb, by simp [World.setCell]; omega, fun _ j hj => by rw [one j hj]; simpa [World.setCell] using hlt, fun j hj => ?_, fun j c t' _ ho hm hc => ?_⟩
  · rw [one j hj]
    rcases hlie with h | h
    · exact .inl (form g h)
    · exact .inr (by rw [h, World.size_alloc]; omega)
  · have hne : j ≠ H := fun e => hm (by simp [e])
    have hjl := (Array.getElem?_eq_some_iff.1 hc).1
    refine (heap_set_ne (p := ⟨H, 0, none⟩) hne _).trans ((hgrow.block j (by rw [World.size_alloc]; omega) (fun e => ho (form j e.symm))).trans ((Below.heap_alloc W tmp j hjl).trans hc))

end Go.Proofs.YtfghnfanimpjjaaDoor
