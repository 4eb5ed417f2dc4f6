/-
  append OF SPANS: any number of them, none too, onto a list that is one's own; l11own of the specification.
-/
import Derived.Test.YtfghnfanimpjjaaDoorSegN2
import Derived.Test.YtfghnfanimpjjaaDoorHoles
import Derived.Deep.RegionHeldLaw
import Derived.Deep.RegionHeld3
namespace Go.Proofs.YtfghnfanimpjjaaDoor
open Go.RowKit
set_option linter.unusedVariables false

theorem cellsP_cat (l r : List Sp) : cellsP (l ++ r) = cellsP l ++ cellsP r := by simp [cellsP]
theorem cellsP_one (l : List Sp) : ∀ u ∈ cellsP l, u.oneCell' = true := by
  intro u hu
  obtain ⟨p, _, hp⟩ := List.mem_flatMap.1 hu
  simp at hp
  rcases hp with rfl | rfl <;> rfl
theorem cellsP_spL (f : Nat → Sp) (m j : Nat) (hj : j < m * 2) : (cellsP (spL f m))[j]? = some (.int .i64 (flatS f j)) := by
  rw [cellsP_get _ _ (by rw [spL_len]; exact hj)]
  congr 2
  unfold flatS
  have : (spL f m).getD (j / 2) default = f (j / 2) := by
    simp [spL, show j / 2 < m by omega]
  dsimp only
  rw [this]
theorem os_le {base : Nat} {w : World} {x : Option Addr} {cap : Nat} {l : List Sp} (h : OS base w x cap l) : l.length ≤ cap := by
  obtain ⟨hl, ⟨hv, h0⟩ | ⟨g, cp, cur, hv, hb, hh, h1, h2, h3, h4⟩⟩ := h
  · omega
  · simp only [Value.slice.injEq] at hv
    obtain ⟨_, _, rfl⟩ := hv
    exact h1
theorem append_none (P : Program) (w : World) (t ty e : TypeId) (i : TypeInfo) (ht : P.underlying t = some (.slice e)) (hi : P.info? e = some i) (base : Option Addr) (sLen sCap : Nat) (hle : sLen ≤ sCap) (x : Option Addr) (c : Nat) :
    (Builtin.append_ #[t, t] ty #[.slice base sLen sCap, .slice x 0 c]).run P w = .ok (.slice base sLen sCap) w := by
  cases base <;> cases x <;> simp [Builtin.append_, run_underlying ht, sizeOf, typeInfo, hi, hle, storeCells, loadCells, loadCellsFrom, Builtin.lenOf, Builtin.firstCells]

/-- What append of a list of spans onto one of one's own gives. -/
theorem run_append_sp (w : World) (ty : TypeId) (base : Nat) (y : Option Addr) (cap : Nat) (l : List Sp) (hown : OS base w y cap l)
    (ad : Option Addr) (m c : Nat) (f : Nat → Sp) (hr : SR w.heap.size w ad m f) (hm : m ≤ 1048576) (hl : l.length ≤ 1048576) (hbase : base ≤ w.heap.size) :
    ∃ x cap' w', (Builtin.append_ #[23, 23] ty #[.slice y l.length cap, .slice ad m c]).run Tryd.prog w = .ok (.slice x (l.length + m) cap') w' ∧ OS base w' x cap' (l ++ spL f m) ∧ w.grownBy w' (Value.slice y l.length cap).ownBlock := by
  obtain ⟨i0, hi0, hz0, hz1, hz2⟩ := infoSpan_parts
  by_cases h0 : m = 0
  · subst h0
    refine ⟨y, cap, w, by rw [append_none Tryd.prog w 23 ty 34 i0 Tryd.underlying23 hi0 y l.length cap (os_le hown) ad c]; rfl, ?_, World.grownBy.refl _ _⟩
    simpa [spL] using hown
  · obtain ⟨b, off, rfl, hb, hc⟩ := SR.at hr (j := 0) (by omega)
    obtain ⟨g, cap', w', r0, r1, r2, r3, r4⟩ := run_append_lies (P := Tryd.prog) w 23 ty base 34 i0 _ 2 16 Tryd.underlying23 hi0 hz0 hz1 hz2 rfl (by omega) _ l.length (cellsP l) hown ⟨b, off, none⟩ m c (cellsP (spL f m)) (by rw [cellsP_len, spL_len]) (by
      intro j u hu
      have hj : j < m * 2 := by
        have := (List.getElem?_eq_some_iff.1 hu).1
        rw [cellsP_len, spL_len] at this
        exact this
      rw [cellsP_spL f m j hj] at hu
      cases hu
      rw [WideShapes.add_plain]
      have hp := hc (j / 2) (by omega)
      unfold flatS
      by_cases e : j % 2 = 0
      · rw [if_pos e, show off + j = off + j / 2 * 2 by omega]; exact hp.1
      · rw [if_neg e, show off + j = off + j / 2 * 2 + 1 by omega]; exact hp.2) (cellsP_one _) (by omega) (by unfold maxLen; omega) (by omega) hbase _ rfl
    refine ⟨_, cap', w', r0, ?_, r2⟩
    unfold OS
    rw [List.length_append, spL_len, cellsP_cat]
    exact r1
theorem wp_append_sp {w : World} {o : Oper} {a : Act} {K : Act → World → Prop} {Q : Exit → Act → World → Prop} (s x : Operand)
    (ho : o.op = .call { callee := .builtin .append, args := #[s, x], argTypes := #[23, 23] })
    (base : Nat) (y : Option Addr) (cap : Nat) (l : List Sp) (k : Nat) (hk : l.length = k) (hs : a.eval s = .slice y k cap) (hown : OS base w y cap l)
    (ad : Option Addr) (m c : Nat) (f : Nat → Sp) (hx : a.eval x = .slice ad m c) (hr : SR w.heap.size w ad m f) (hm : m ≤ 1048576) (hl : k ≤ 1048576) (hbase : base ≤ w.heap.size)
    (h : ∀ x' cap' w', OS base w' x' cap' (l ++ spL f m) → w.grownBy w' (Value.slice y k cap).ownBlock → K (a.put o.dst (.slice x' (k + m) cap')) w') : o.wp Tryd.prog a w K Q := by
  subst hk
  obtain ⟨x', cap', w', r0, r1, r2⟩ := run_append_sp w o.type base y cap l hown ad m c f hr hm hl hbase
  unfold Oper.wp execOp
  simp only [ho, resolve, invoke, builtin, Sem.run_bind, Sem.run_pure, Result.andThen_ok, List.map_toArray, List.map_cons, List.map_nil, hs, hx, r0]
  exact h _ cap' w' r1 r2
theorem wpList_append_sp {w : World} {ops : Array Oper} {rest : List Oper} {o : Oper} {a : Act} {Q : Exit → Act → World → Prop} (hgd : o.guard = none) (s x : Operand)
    (ho : o.op = .call { callee := .builtin .append, args := #[s, x], argTypes := #[23, 23] })
    (base : Nat) (y : Option Addr) (cap : Nat) (l : List Sp) (k : Nat) (hk : l.length = k) (hs : a.eval s = .slice y k cap) (hown : OS base w y cap l)
    (ad : Option Addr) (m c : Nat) (f : Nat → Sp) (hx : a.eval x = .slice ad m c) (hr : SR w.heap.size w ad m f) (hm : m ≤ 1048576) (hl : k ≤ 1048576) (hbase : base ≤ w.heap.size)
    (h : ∀ x' cap' w', OS base w' x' cap' (l ++ spL f m) → w.grownBy w' (Value.slice y k cap).ownBlock → wpList Tryd.prog ops Q rest (a.put o.dst (.slice x' (k + m) cap')) w') : wpList Tryd.prog ops Q (o :: rest) a w :=
  wpList_plain hgd fun _ hK => wp_append_sp s x ho base y cap l k hk hs hown ad m c f hx hr hm hl hbase fun x' cap' w' h2 h3 => hK _ _ (h x' cap' w' h2 h3)
theorem step_append_sp {w : World} {ops : Array Oper} {o : Oper} {a : Act} {K : Act → World → Prop} {Q : Exit → Act → World → Prop} {E : Prop} (hgd : o.guard = none) (s x : Operand)
    (ho : o.op = .call { callee := .builtin .append, args := #[s, x], argTypes := #[23, 23] })
    (base : Nat) (y : Option Addr) (cap : Nat) (l : List Sp) (k : Nat) (hk : l.length = k) (hs : a.eval s = .slice y k cap) (hown : OS base w y cap l)
    (ad : Option Addr) (m c : Nat) (f : Nat → Sp) (hx : a.eval x = .slice ad m c) (hr : SR w.heap.size w ad m f) (hm : m ≤ 1048576) (hl : k ≤ 1048576) (hbase : base ≤ w.heap.size)
    (h : ∀ x' cap' w', OS base w' x' cap' (l ++ spL f m) → w.grownBy w' (Value.slice y k cap).ownBlock → K (a.put o.dst (.slice x' (k + m) cap')) w') :
    if Region.wanted o (yielded ops a.tmps) = true then Oper.wp Tryd.prog o a w K Q else E := by
  have hw : Region.wanted o (yielded ops a.tmps) = true := by simp [Region.wanted, hgd]
  rw [if_pos hw]
  exact wp_append_sp s x ho base y cap l k hk hs hown ad m c f hx hr hm hl hbase h
theorem OS.far {base : Nat} {w : World} {x : Option Addr} {cap : Nat} {l : List Sp} (h : OS base w x cap l) {H : Nat} (hH : H < base) (o : Nat) (v : Value) : OS base (w.setCell ⟨H, o, none⟩ v) x cap l := by
  obtain ⟨hl, ⟨hv, h0⟩ | ⟨g, cp, cur, hv, hbs, hh, h1, h2, h3, h4⟩⟩ := h
  · exact ⟨hl, .inl ⟨hv, h0⟩⟩
  · exact ⟨hl, .inr ⟨g, cp, cur, hv, hbs, (Below.heap_setCell _ _ _ g (by show g ≠ H; omega)).trans hh, h1, h2, h3, h4⟩⟩
theorem OS.below {base : Nat} {w w' : World} {x : Option Addr} {cap : Nat} {l : List Sp} (h : OS base w x cap l) (hb : Below w.heap.size w w') : OS base w' x cap l := by
  obtain ⟨hl, ⟨hv, h0⟩ | ⟨g, cp, cur, hv, hbs, hh, h1, h2, h3, h4⟩⟩ := h
  · exact ⟨hl, .inl ⟨hv, h0⟩⟩
  · exact ⟨hl, .inr ⟨g, cp, cur, hv, hbs, (hb.block g (Array.getElem?_eq_some_iff.1 hh).1).trans hh, h1, h2, h3, h4⟩⟩
/-- A list of none that is one's own, where a literal of none was laid. -/
theorem sp_empty_new (W : World) (base g : Nat) (hg : W.heap.size = g) (hb : base ≤ g) : OS base (W.alloc (.cells #[] 34)) (some ⟨g, 0, none⟩) 0 [] :=
  ⟨by simp [cellsP], .inr ⟨g, 0, #[], rfl, hb, by subst hg; exact World.alloc_heap_new W _, Nat.le_refl _, by unfold maxLen; omega, by simp, by simp [cellsP]⟩⟩
theorem grown_cellsS {H : Nat} {w w' : World} {row : Option Nat} (hg : w.grownBy w' row) (hH : H ≤ w.heap.size) (hr : ∀ k, row = some k → H ≤ k) : (∀ b o, b < H → w'.cell? ⟨b, o, none⟩ = w.cell? ⟨b, o, none⟩) ∧ (∀ b o, b < H → w'.frozen? ⟨b, o, none⟩ = w.frozen? ⟨b, o, none⟩) := by
  have hb : Below H w w' := (Below.refl H w).grown hg hH (fun k e => hr k e)
  exact ⟨fun b o h => hb.cell (p := ⟨b, o, none⟩) h, fun b o h => hb.frozen (p := ⟨b, o, none⟩) h⟩

set_option maxRecDepth 100000 in
set_option maxHeartbeats 2000000 in
theorem l11own_any (nx : Int) (a : Option Addr) (m c : Nat) (f : Nat → Sp) (w : World) (hP : SR w.heap.size w a m f) (hm : m ≤ 1048576) :
    Calls Tryd.prog 24 #[rcVal nx a m c] w fun e w' => ∃ (x : Option Addr) (cap : Nat), e = .returned (rcVal nx x m cap) ∧ OS w.heap.size w' x cap (spL f m) ∧ Below w.heap.size w w' := by
  have HP : Hid (SR w.heap.size w a m f) := hP
  clear hP
  simp only [rcVal]
  go_enter Tryd.func24, Tryd.ntmps24
  go_wp2
  go_region_held3 (fun w' => w'.cell? ⟨w.heap.size, 0, none⟩ = some (.int .i64 nx) ∧ w'.cell? ⟨w.heap.size, 1, none⟩ = some (.slice a m c)) (first | go_keep | (refine ⟨(hcf _ 0 (by omega)).trans (by simp [go_sem]), (hcf _ 1 (by omega)).trans (by simp [go_sem])⟩))
    (first | (refine step_append_sp (by rfl) _ _ (by rfl) (w.heap.size + 2) (some ⟨w.heap.size + 2, 0, none⟩) 0 [] 0 (by rfl) (by rfl) (sp_empty_new _ _ _ (by simp) (by omega)) a m c f (by rfl) ((SR.below HP.out (by go_grown)).mono (by simp; omega)) hm (by omega) (by simp) ?_; intro x cap w1 hpo hgrow; obtain ⟨hcf, hff⟩ := grown_cellsS (H := w.heap.size + 2) hgrow (by simp) (fun k e => by simp [Value.ownBlock] at e; omega)))
  all_goals
    go_wp2
    have z0 : w1.cell? ⟨w.heap.size + 1, 0, none⟩ = some (.int .i64 0) := (hcf _ 0 (by omega)).trans (by simp [go_sem])
    have z1 : w1.cell? ⟨w.heap.size + 1, 1, none⟩ = some (.slice none 0 0) := (hcf _ 1 (by omega)).trans (by simp [go_sem])
    have hbel : Below w.heap.size w w1 := Below.grown (B := w.heap.size) (a := w) (by go_grown) hgrow (by simp; omega) (fun k e => by simp [Value.ownBlock] at e; omega)
    refine bodyPost_ret (v := .agg #[.int .i64 nx, .slice x m cap]) (by simp [results, Tryd.results24, go_sem, z0, z1]) rfl ⟨x, cap, rfl, ?_, ?_⟩
    · exact OS.mono ((OS.far (OS.far (by simpa using hpo) (by omega) _ _) (by omega) _ _)) (by omega)
    · exact (hbel.setCell (by show w.heap.size ≤ w.heap.size + 1; omega) _).setCell (by show w.heap.size ≤ w.heap.size + 1; omega) _

set_option maxRecDepth 100000 in
set_option maxHeartbeats 2000000 in
theorem listOfS_any (a : Option Addr) (m c : Nat) (f : Nat → Sp) (w : World) (hP : SR w.heap.size w a m f) (hm : m ≤ 1048576) :
    Calls Tryd.prog 15 #[.slice a m c] w fun e w' => ∃ (x : Option Addr) (cap : Nat), e = .returned (.agg #[.slice x m cap]) ∧ OS w.heap.size w' x cap (spL f m) ∧ Below w.heap.size w w' := by
  have HP : Hid (SR w.heap.size w a m f) := hP
  clear hP
  go_enter Tryd.func15, Tryd.ntmps15
  go_wp2_with (at_builtin; refine wpList_append_sp rfl _ _ rfl (w.heap.size + 1) none 0 [] 0 rfl rfl (World.ownsRow_nil _ _ _ _) a m c f rfl ((SR.below HP.out (by go_grown)).mono (by simp)) hm (by omega) (by simp) ?_; intro x cap w1 hpo hgr; obtain ⟨hcf, hff⟩ := grown_cellsS (H := w.heap.size + 1) hgr (by simp) (fun k e => by cases e); have z0 : w1.cell? ⟨w.heap.size, 0, none⟩ = some (.slice none 0 0) := (hcf _ 0 (by omega)).trans (by simp [go_sem]); have zf := fun o => (hff w.heap.size o (by omega)))
  have hbel : Below w.heap.size w w1 := Below.grown (B := w.heap.size) (a := w) (by go_grown) hgr (by simp) (fun k e => by cases e)
  refine bodyPost_ret (v := .agg #[.slice x m cap]) (by simp [results, Tryd.results15, go_sem, z0]) rfl ⟨x, cap, rfl, ?_, ?_⟩
  · exact OS.mono (OS.far (by simpa using hpo) (by omega) _ _) (by omega)
  · exact hbel.setCell (Nat.le_refl _) _

end Go.Proofs.YtfghnfanimpjjaaDoor
