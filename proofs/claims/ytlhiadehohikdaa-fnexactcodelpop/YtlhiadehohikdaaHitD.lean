/-
  A VISIT: hit, where the first one is dropped.
-/
import Derived.Test.YtlhiadehohikdaaHit
import Derived.Deep.RegionLaw
namespace Go.Proofs.Ytlhiadehohikdaa
open Go.RowKit
set_option linter.unusedVariables false

theorem pop_yes (a : Option Addr) (n c : Nat) (f : Nat → Pk) (lim : Int) (w : World) (hf : fifoB f n lim = true) (hz : 0 < n) (hnc : n ≤ c) (hP : PR w.heap.size w a n f) :
    Calls Try.prog 26 #[fiVal a n c lim] w fun e w' => ∃ (x : Option Addr) (cap : Nat), e = .returned (.tuple #[fiVal x (n - 1) cap lim, (f 0).val, .bool true]) ∧ PO w.heap.size w' x (n - 1) cap (popF f) ∧ Below w.heap.size w w' := by
  have hn : n ≤ 40 := by have := fifo_nums hf; omega
  refine (ipop_any a n c f lim w (by omega) hnc hP).mono ?_
  rintro e w' ⟨x, cap, rfl, h1, h2⟩
  have hB : popB f n lim = true := by unfold popB; rw [hf]; simp; omega
  have hN : popN f n lim = n - 1 := by unfold popN; rw [hf]; rfl
  have hL : popL f n lim = lim := by unfold popL; rw [hf]; rfl
  have hp : popP f n lim = f 0 := by unfold popP; rw [hB]; rfl
  rw [hN] at h1
  rw [hN, hL, hB, hp]
  exact ⟨x, cap, rfl, h1, h2⟩

/-- What is left behind the first one may be looked at, too. -/
theorem look_pop {c : Cd} {f : Nat → Pk} {n : Nat} {lim now : Int} (h : lookB c f n lim now = true) (hn : 0 < n) (c' : Cd) (hg : c'.good = true) : lookB c' (popF f) (n - 1) lim now = true := by
  obtain ⟨_, hf, hi, hl⟩ := look_parts h
  obtain ⟨f1, f2, f3, f4⟩ := fifo_nums hf
  have hf' : fifoB (popF f) (n - 1) lim = true := by
    unfold fifoB inB lineB
    simp only [Bool.and_eq_true, decide_eq_true_eq]
    refine ⟨⟨f1, f2⟩, by omega, fun j hj => ?_⟩
    obtain ⟨g1, g2⟩ := f4 (j + 1) (by omega)
    exact ⟨g1, fun k hk => g2 (k + 1) (by omega)⟩
  unfold lookB mayB
  rw [hg, hf', hi]
  simp only [Bool.true_and, decide_eq_true_eq]
  rcases (show n - 1 = 0 ∨ 0 < n - 1 by omega) with e | e
  · exact .inl e
  · refine .inr ?_
    unfold popF
    rw [show n - 1 - 1 + 1 = n - 1 by omega]
    rcases hl with h | h
    · omega
    · exact h

/-- The list g with p as its m-th. -/
def putAt (g : Nat → Pk) (m : Nat) (p : Pk) : Nat → Pk := fun i => if i = m then p else g i

theorem qa_of_po {H base : Nat} {W : World} {V : Nat} {a : Option Addr} {n cap : Nat} {f : Nat → Pk} {d : Value} (h : PO base W a n cap f) (hV : V < base) (hH : H ≤ base) (hd : ∀ k, d.ownBlock = some k → k < base) : QA H W V a n cap f d := by
  refine ⟨h.cap, ?_⟩
  rcases h.zi with h0 | ⟨g, h1, h2, h3, h4⟩
  · exact .inl (by omega)
  · exact .inr ⟨g, h1, by omega, by omega, fun e => by have := hd g e; omega, h4⟩
theorem QA.grown {H : Nat} {W W' : World} {V : Nat} {a : Option Addr} {n cap : Nat} {f : Nat → Pk} {d : Value} (h : QA H W V a n cap f d) (hg : W.grownBy W' d.ownBlock) {g' m' c' : Nat} (hd : d.ownBlock = some g' ∨ g' = W.heap.size) : QA H W' V a n cap f (.slice (some ⟨g', 0, none⟩) m' c') := by
  obtain ⟨h0, h1 | ⟨g, h1, h2, h3, h4, h5⟩⟩ := h
  · exact ⟨h0, .inl h1⟩
  · refine ⟨h0, .inr ⟨g, h1, h2, h3, fun e => ?_, own_same h5 (hg.block g h5.1 (fun e => h4 e.symm)) hg.size⟩⟩
    have e' : g' = g := by simpa [Value.ownBlock] using e
    subst e'
    rcases hd with e | e
    · exact h4 e
    · have := h5.1; omega

theorem pk_new0 (W : World) (p : Pk) (he : p.ecn = 0) (t : TypeId) : PAt (W.alloc (.cells #[.int .i64 p.id, .int .i64 p.flow, .int .i64 p.host, .int .i64 p.size, .int .i64 p.tm, .int .i64 0] t)).drew W.heap.size 0 p := by
  have h := (Lies.new W (pkCells p) t).pk
  unfold pkCells at h
  rw [he] at h
  exact h

theorem drop_sits {V : Nat} {W2 W3 : World} {vs : Array Value} {t : TypeId} {d : Value} (s2 : Sits W2 V vs t) (o : Obj) (hown : ∀ k, d.ownBlock = some k → V + 1 ≤ k) (hgrow : (W2.alloc o).drew.grownBy W3 d.ownBlock) : Sits W3 V vs t :=
  (hgrow.block V (Nat.lt_of_lt_of_le s2.lt (((Below.refl W2.heap.size W2).alloc (Nat.le_refl _) o).drew).size) (fun e => by have := hown V e.symm; omega)).trans (s2.below (((Below.refl W2.heap.size W2).alloc (Nat.le_refl _) o).drew) s2.lt)

theorem drop_vst {H V : Nat} {W2 W3 : World} {c : Cd} {n : Nat} {f : Nat → Pk} {lim now st : Int} {lt mq : Bool} {m : Nat} {g : Nat → Pk} {p : Pk} {x a : Option Addr} {cp cap g' cap' : Nat} (s2 : Sits W2 V (vsCells ⟨c, a, n, cap, lim, now, st, lt, mq, x, m, cp⟩) 59) (q2 : QA H W2 V a n cap f (.slice x m cp)) (hH : H ≤ V) (o : Obj) (hown : ∀ k, (Value.slice x m cp).ownBlock = some k → V + 1 ≤ k)
    (hbo : PO (V + 1) W3 (some ⟨g', 0, none⟩) (m + 1) cap' (fun i => if i = m then p else g i)) (hgrow : (W2.alloc o).drew.grownBy W3 (Value.slice x m cp).ownBlock) (hat : (Value.slice x m cp).ownBlock = some g' ∨ g' = (W2.alloc o).drew.heap.size) :
    Vst H V (W3.setCell ⟨V, 13, none⟩ (.slice (some ⟨g', 0, none⟩) (m + 1) cap')) c n f lim now st lt mq (m + 1) (putAt g m p) ∧ Below H W2 (W3.setCell ⟨V, 13, none⟩ (.slice (some ⟨g', 0, none⟩) (m + 1) cap')) := by
  have b0 : Below W2.heap.size W2 (W2.alloc o).drew := ((Below.refl _ _).alloc (Nat.le_refl _) _).drew
  have s3 : Sits W3 V (vsCells ⟨c, a, n, cap, lim, now, st, lt, mq, x, m, cp⟩) 59 := (hgrow.block V (Nat.lt_of_lt_of_le s2.lt b0.size) (fun e => by have := hown V e.symm; omega)).trans (s2.below b0 s2.lt)
  have q3 := (q2.only (only_of_below b0)).grown hgrow (m' := m + 1) (c' := cap') hat
  refine ⟨⟨a, cap, some ⟨g', 0, none⟩, cap', vs_x s3 _ _ _, q3.only ((Only.refl V W3).set 13 _), hbo.far (by omega) 13 _, hH⟩, ?_⟩
  exact (((b0.mono (by have := s2.lt; omega)).grown hgrow (by have := s2.lt; have := b0.size; omega) (fun k e => by have := hown k e; omega))).setCell hH _

set_option maxHeartbeats 2000000 in
theorem hit_drop {H V : Nat} {w : World} {c : Cd} {n : Nat} {f : Nat → Pk} {lim now st : Int} {lt mq : Bool} {m : Nat} {g : Nat → Pk} (h : Vst H V w c n f lim now st lt mq m g) (hn : 0 < n) (hm : m ≤ 1048575) (hl : lookB c f n lim now = true) (he : (f 0).ecn = 0) :
    Calls Try.prog 55 #[.pointer (some ⟨V, 0, none⟩)] w fun e w' => e = .returned (.tuple #[]) ∧ Vst H V w' (lateC c (popF f) (n - 1) now) (n - 1) (popF f) lim now st (lateB c (popF f) (n - 1) now) mq (m + 1) (putAt g m (f 0)) ∧ Below H w w' := by
  obtain ⟨a, cap, x, cp, h1, h2, h3, h4⟩ := h
  have hpr := h2.pr
  have hnc := h2.1
  obtain ⟨h20, h2' | ⟨b, rfl, h22, h23, h24, h25⟩⟩ := h2
  · omega
  obtain ⟨⟨c0, c1, c2, c3, c4, c5, c6⟩, ⟨x0, x1⟩, c9, c10, c11, c12, c13⟩ := vs_cells h1
  have fz := h1.frozen
  have H1 : Hid _ := h1
  have H3 : Hid _ := h3
  have HP : Hid _ := hpr
  have hVl := h1.lt
  clear h1 h3 hpr
  dsimp only at *
  have p5 : w.cell? ⟨b, 5, none⟩ = some (.int .i64 0) := by have := (h25.2 5 (by omega)).1; rw [this]; show some (Value.int .i64 (f 0).ecn) = _; rw [he]
  clear h25
  have hni : (0 : Int) < (n : Int) := by omega
  have hf := (look_parts hl).2.1
  go_enter Try.func55, Try.ntmps55
  go_wp2_with (go_at_call 26; refine (pop_yes _ n cap f lim _ hf hn hnc HP.out).mono ?_; rintro e w1 ⟨x', c', rfl, hpo, b1⟩; have s1 := Sits.below H1.out b1 hVl; clear c0 c1 c2 c3 c4 c5 c6 x0 x1 c9 c10 c11 c12 c13 fz p5; obtain ⟨⟨c0, c1, c2, c3, c4, c5, c6⟩, ⟨x0, x1⟩, c9, c10, c11, c12, c13⟩ := vs_cells s1; have fz := s1.frozen; have hV1 := s1.lt; have S1 : Hid _ := s1; clear s1; dsimp only at *)
  have hlk := look_pop hl hn c (look_parts hl).1
  obtain ⟨W2, hW2⟩ : ∃ W2, (((w1.setCell ⟨V, 7, none⟩ (.slice x' (n - 1) c')).setCell ⟨V, 8, none⟩ (.int .i64 lim)).alloc (.cells #[.slice x' (n - 1) c', .int .i64 lim] 31)).alloc (.cells #[.int .i64 (f 0).id, .int .i64 (f 0).flow, .int .i64 (f 0).host, .int .i64 (f 0).size, .int .i64 (f 0).tm, .int .i64 0] 33) = W2 := ⟨_, rfl⟩
  have s2 : Sits W2 V (vsCells ⟨c, x', n - 1, c', lim, now, st, lt, mq, x, m, cp⟩) 59 := by rw [← hW2]; exact ((vs_lim (vs_q S1.out _ _ _) _).alloc _).alloc _
  have hp1 : PO (V + 1) w1 x m cp g := PO.below H3.out b1
  have hown : ∀ k, (Value.slice x m cp).ownBlock = some k → V + 1 ≤ k ∧ k < w.heap.size := PO.own_lt H3.out
  have q1 : QA H w1 V x' (n - 1) c' (popF f) (.slice x m cp) := qa_of_po hpo hVl (by omega) (fun k e => (hown k e).2)
  have o2 : Only V w1 W2 := by rw [← hW2]; exact ((((Only.refl V w1).set 7 _).set 8 _).alloc _).alloc _
  have q2 := q1.only o2
  have p2 : PO (V + 1) W2 x m cp g := hp1.keep fun k hk hk2 => o2.block k hk2 (by omega)
  have hsz1 : w1.heap.size + 1 + 1 = W2.heap.size := by rw [← hW2]; simp
  have pk2 : PAt W2 (w1.heap.size + 1) 0 (f 0) := by
    rw [← hW2]
    have := (Lies.new (((w1.setCell ⟨V, 7, none⟩ (.slice x' (n - 1) c')).setCell ⟨V, 8, none⟩ (.int .i64 lim)).alloc (.cells #[.slice x' (n - 1) c', .int .i64 lim] 31)) (pkCells (f 0)) 33).pk
    simp only [World.size_alloc, World.size_setCell] at this
    simpa [pkCells, he] using this
  have bW : Below H w W2 := (b1.mono (by omega)).trans (o2.below h4 (by have := b1.size; omega))
  have P2 : Hid _ := p2
  have Q2 : Hid _ := q2
  have S2 : Hid _ := s2
  obtain ⟨e0, e1, e2, e3, e4, e5⟩ := pk2
  simp only [Nat.zero_add] at e1 e2 e3 e4 e5
  rw [he] at e5
  clear c0 c1 c2 c3 c4 c5 c6 x0 x1 c9 c10 c11 c12 c13 fz
  obtain ⟨⟨c0, c1, c2, c3, c4, c5, c6⟩, ⟨x0, x1⟩, c9, c10, c11, c12, c13⟩ := vs_cells s2
  have fz := s2.frozen
  have hVW := s2.lt
  have HO : Hid (∀ k, (Value.slice x m cp).ownBlock = some k → V + 1 ≤ k) := fun k e => (hown k e).1
  clear s2 q2 p2 q1 o2 hp1 hown
  rw [hW2]
  clear hW2 hsz1
  dsimp only at *
  go_region_law (refine step_append_pk1 (by rfl) _ _ (by rfl) (V + 1) x m cp g (by rfl) (PO.below P2.out (((Below.refl _ _).alloc (Nat.le_refl _) _).drew)) W2.heap.size (f 0) (by rfl) (pk_new0 _ _ he _) (by omega) (by simp; omega) ?_; intro g' cap' w3 hbo hgrow hat hlt1; have d13 := (vs_cells (drop_sits S2.out _ HO.out hgrow)).2.2.2.2.2.2; have f13 := (drop_sits S2.out _ HO.out hgrow).frozen 13)
  all_goals
    have D := drop_vst S2.out Q2.out h4 _ HO.out hbo hgrow hat
    go_wp2_with (go_at_call 36; refine (look_vst D.1 hlk).mono ?_; rintro e w5 ⟨rfl, v5, b5⟩)
    go_end0
    exact ⟨rfl, v5, bW.trans (D.2.trans b5)⟩

end Go.Proofs.Ytlhiadehohikdaa
