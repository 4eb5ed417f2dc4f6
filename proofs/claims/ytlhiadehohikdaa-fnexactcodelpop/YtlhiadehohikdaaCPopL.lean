/-
  THE PROGRAM's CodelPop: what it wants.
-/
import Derived.Test.YtlhiadehohikdaaVisitOf
namespace Go.Proofs.Ytlhiadehohikdaa
open Go.RowKit
set_option linter.unusedVariables false

/-- What is handed back: a Codel, a queue, those that were dropped, the one that goes out. -/
def popC (c : Cd) (f : Nat → Pk) (n : Nat) (lim now : Int) : Cd := if lookB c f n lim now then (popR f n now c).c else Cd.zero
def popM (c : Cd) (f : Nat → Pk) (n : Nat) (lim now : Int) : Nat := if lookB c f n lim now then (popR f n now c).m else 0
def popQ (c : Cd) (f : Nat → Pk) (n : Nat) (lim now : Int) : Nat → Pk := popF (outF f (popR f n now c))
def popK (c : Cd) (f : Nat → Pk) (n : Nat) (lim now : Int) : Nat := if lookB c f n lim now then n - (popR f n now c).m - 1 else 0
def popT (c : Cd) (f : Nat → Pk) (n : Nat) (lim now : Int) : Int := if lookB c f n lim now then lim else 0
def popO (c : Cd) (f : Nat → Pk) (n : Nat) (lim now : Int) : Bool := lookB c f n lim now && decide ((popR f n now c).m < n)
def popU (c : Cd) (f : Nat → Pk) (n : Nat) (lim now : Int) : Pk := if popO c f n lim now then outF f (popR f n now c) 0 else ⟨0, 0, 0, 0, 0, 0⟩

theorem dropR_le (f : Nat → Pk) (n : Nat) (now : Int) : ∀ (k : Nat) (c : Cd) (m : Nat), k + m = n → (dropR f n now k c m).m ≤ n
  | 0, c, m, h => by rw [dropR]; show m ≤ n; omega
  | k + 1, c, m, h => by
    rw [dropR]
    split
    · show m ≤ n; omega
    · split
      · show m ≤ n; omega
      · split
        · exact dropR_le f n now k _ (m + 1) (by omega)
        · show m + 1 ≤ n; omega
theorem popR_le (f : Nat → Pk) (n : Nat) (now : Int) (c : Cd) : (popR f n now c).m ≤ n := by
  unfold popR
  split
  · exact Nat.zero_le _
  · next h =>
    have hp : 0 < n := late_pos (c := c) (f := f) (now := now) (by cases hb : lateB c f n now; · exact absurd hb h
                                                                   · rfl)
    split
    · exact dropR_le f n now n _ 0 (by omega)
    · unfold begR
      split
      · exact Nat.zero_le _
      · exact hp
theorem fifo_shift {f : Nat → Pk} {n : Nat} {lim : Int} (h : fifoB f n lim = true) (m : Nat) (hm : m ≤ n) : fifoB (shiftF f m) (n - m) lim = true := by
  obtain ⟨f1, f2, f3, f4⟩ := fifo_nums h
  unfold fifoB inB lineB
  simp only [Bool.and_eq_true, decide_eq_true_eq]
  refine ⟨⟨f1, f2⟩, by omega, fun j hj => ?_⟩
  obtain ⟨g1, g2⟩ := f4 (m + j) (by omega)
  exact ⟨g1, fun k hk => g2 (m + k) (by omega)⟩
theorem fifo_mark {f : Nat → Pk} {n : Nat} {lim : Int} (h : fifoB f n lim = true) : fifoB (markF f) n lim = true := by
  obtain ⟨f1, f2, f3, f4⟩ := fifo_nums h
  have e1 : ∀ j, (markF f j).tm = (f j).tm := fun j => by
    unfold markF
    split
    · next e => rw [e]
    · rfl
  have e2 : ∀ j, (markF f j).id = (f j).id := fun j => by
    unfold markF
    split
    · next e => rw [e]
    · rfl
  have e3 : ∀ j, (f j).good = true → (markF f j).good = true := fun j hg => by
    unfold markF
    split
    · next e =>
      rw [e] at hg
      have := good_nums hg
      unfold Pk.good inB
      simp only [Bool.and_eq_true, decide_eq_true_eq]
      omega
    · exact hg
  unfold fifoB inB lineB
  simp only [Bool.and_eq_true, decide_eq_true_eq]
  refine ⟨⟨f1, f2⟩, by omega, fun j hj => ?_⟩
  obtain ⟨g1, g2⟩ := f4 j hj
  refine ⟨e3 j g1, fun k hk => ?_⟩
  obtain ⟨g3, g4⟩ := g2 k hk
  exact ⟨by rw [e1, e1]; exact g3, by rw [e2, e2]; exact g4⟩
theorem fifo_out {f : Nat → Pk} {n : Nat} {lim : Int} (h : fifoB f n lim = true) (r : Res) (hm : r.m ≤ n) : fifoB (outF f r) (n - r.m) lim = true := by
  unfold outF
  split
  · exact fifo_mark (fifo_shift h _ hm)
  · exact fifo_shift h _ hm

theorem zi_far {L U : Nat} {w : World} {a : Option Addr} {n : Nat} {f : Nat → Int} (h : ZI L U w a n f) {B : Nat} (hB : B < L) (o : Nat) (v : Value) : ZI L U (w.setCell ⟨B, o, none⟩ v) a n f := by
  rcases h with h | ⟨g, h1, h2, h3, h4⟩
  · exact .inl h
  · exact .inr ⟨g, h1, h2, h3, own_same h4 (Below.heap_setCell _ ⟨B, o, none⟩ _ g (by show g ≠ B; omega)) (by simp)⟩

/-- What the last statement of CodelPop reads. -/
@[reducible] def SE (V : Nat) (q : Cd) (d : Value) (Br : Nat) (v u : Value) (Bp : Nat) (p : Pk) (w' : World) : Prop := ((w'.cell? ⟨V, 0, none⟩ = some (.int .i64 q.tg) ∧ w'.cell? ⟨V, 1, none⟩ = some (.int .i64 q.iv) ∧ w'.cell? ⟨V, 2, none⟩ = some (.int .i64 q.fi) ∧ w'.cell? ⟨V, 3, none⟩ = some (.int .i64 q.nx) ∧ w'.cell? ⟨V, 4, none⟩ = some (.int .i64 q.ct) ∧ w'.cell? ⟨V, 5, none⟩ = some (.int .i64 q.la) ∧ w'.cell? ⟨V, 6, none⟩ = some (.bool q.dr)) ∧ w'.cell? ⟨V, 13, none⟩ = some d) ∧ (w'.cell? ⟨Br, 0, none⟩ = some v ∧ w'.cell? ⟨Br, 1, none⟩ = some u) ∧ (w'.cell? ⟨Bp, 0, none⟩ = some (.int .i64 p.id) ∧ w'.cell? ⟨Bp, 1, none⟩ = some (.int .i64 p.flow) ∧ w'.cell? ⟨Bp, 2, none⟩ = some (.int .i64 p.host) ∧ w'.cell? ⟨Bp, 3, none⟩ = some (.int .i64 p.size) ∧ w'.cell? ⟨Bp, 4, none⟩ = some (.int .i64 p.tm) ∧ w'.cell? ⟨Bp, 5, none⟩ = some (.int .i64 p.ecn))
theorem SE.set {V : Nat} {q : Cd} {d : Value} {Br : Nat} {v u : Value} {Bp : Nat} {p : Pk} {w' : World} (h : SE V q d Br v u Bp p w') {B o : Nat} {x : Value} (h1 : B ≠ V) (h2 : B ≠ Br) (h3 : B ≠ Bp) : SE V q d Br v u Bp p (w'.setCell ⟨B, o, none⟩ x) := by
  obtain ⟨⟨⟨a0, a1, a2, a3, a4, a5, a6⟩, a13⟩, ⟨b0, b1⟩, c0, c1, c2, c3, c4, c5⟩ := h
  have f : ∀ (k i : Nat) (y : Value), B ≠ k → w'.cell? ⟨k, i, none⟩ = some y → (w'.setCell ⟨B, o, none⟩ x).cell? ⟨k, i, none⟩ = some y := fun k i y hk hy => (World.cell?_setCell_far w' ⟨B, o, none⟩ ⟨k, i, none⟩ x hk).trans hy
  exact ⟨⟨⟨f _ _ _ h1 a0, f _ _ _ h1 a1, f _ _ _ h1 a2, f _ _ _ h1 a3, f _ _ _ h1 a4, f _ _ _ h1 a5, f _ _ _ h1 a6⟩, f _ _ _ h1 a13⟩, ⟨f _ _ _ h2 b0, f _ _ _ h2 b1⟩, f _ _ _ h3 c0, f _ _ _ h3 c1, f _ _ _ h3 c2, f _ _ _ h3 c3, f _ _ _ h3 c4, f _ _ _ h3 c5⟩

theorem SE.drew {V : Nat} {q : Cd} {d : Value} {Br : Nat} {v u : Value} {Bp : Nat} {p : Pk} {w' : World} (h : SE V q d Br v u Bp p w') : SE V q d Br v u Bp p w'.drew := h

theorem cd_s0 {W : World} {B : Nat} {r : Cd} {t : TypeId} (h : Sits W B (cdCells r) t) (v : Int) : Sits (W.setCell ⟨B, 0, none⟩ (.int .i64 v)) B (cdCells ⟨v, r.iv, r.fi, r.nx, r.ct, r.la, r.dr⟩) t := h.set 0 _
theorem cd_s1 {W : World} {B : Nat} {r : Cd} {t : TypeId} (h : Sits W B (cdCells r) t) (v : Int) : Sits (W.setCell ⟨B, 1, none⟩ (.int .i64 v)) B (cdCells ⟨r.tg, v, r.fi, r.nx, r.ct, r.la, r.dr⟩) t := h.set 1 _
theorem cd_s2 {W : World} {B : Nat} {r : Cd} {t : TypeId} (h : Sits W B (cdCells r) t) (v : Int) : Sits (W.setCell ⟨B, 2, none⟩ (.int .i64 v)) B (cdCells ⟨r.tg, r.iv, v, r.nx, r.ct, r.la, r.dr⟩) t := h.set 2 _
theorem cd_s3 {W : World} {B : Nat} {r : Cd} {t : TypeId} (h : Sits W B (cdCells r) t) (v : Int) : Sits (W.setCell ⟨B, 3, none⟩ (.int .i64 v)) B (cdCells ⟨r.tg, r.iv, r.fi, v, r.ct, r.la, r.dr⟩) t := h.set 3 _
theorem cd_s4 {W : World} {B : Nat} {r : Cd} {t : TypeId} (h : Sits W B (cdCells r) t) (v : Int) : Sits (W.setCell ⟨B, 4, none⟩ (.int .i64 v)) B (cdCells ⟨r.tg, r.iv, r.fi, r.nx, v, r.la, r.dr⟩) t := h.set 4 _
theorem cd_s5 {W : World} {B : Nat} {r : Cd} {t : TypeId} (h : Sits W B (cdCells r) t) (v : Int) : Sits (W.setCell ⟨B, 5, none⟩ (.int .i64 v)) B (cdCells ⟨r.tg, r.iv, r.fi, r.nx, r.ct, v, r.dr⟩) t := h.set 5 _
theorem cd_s6 {W : World} {B : Nat} {r : Cd} {t : TypeId} (h : Sits W B (cdCells r) t) (v : Bool) : Sits (W.setCell ⟨B, 6, none⟩ (.bool v)) B (cdCells ⟨r.tg, r.iv, r.fi, r.nx, r.ct, r.la, v⟩) t := h.set 6 _
theorem pk_s0 {W : World} {B : Nat} {r : Pk} {t : TypeId} (h : Sits W B (pkCells r) t) (v : Int) : Sits (W.setCell ⟨B, 0, none⟩ (.int .i64 v)) B (pkCells ⟨v, r.flow, r.host, r.size, r.tm, r.ecn⟩) t := h.set 0 _
theorem pk_s1 {W : World} {B : Nat} {r : Pk} {t : TypeId} (h : Sits W B (pkCells r) t) (v : Int) : Sits (W.setCell ⟨B, 1, none⟩ (.int .i64 v)) B (pkCells ⟨r.id, v, r.host, r.size, r.tm, r.ecn⟩) t := h.set 1 _
theorem pk_s2 {W : World} {B : Nat} {r : Pk} {t : TypeId} (h : Sits W B (pkCells r) t) (v : Int) : Sits (W.setCell ⟨B, 2, none⟩ (.int .i64 v)) B (pkCells ⟨r.id, r.flow, v, r.size, r.tm, r.ecn⟩) t := h.set 2 _
theorem pk_s3 {W : World} {B : Nat} {r : Pk} {t : TypeId} (h : Sits W B (pkCells r) t) (v : Int) : Sits (W.setCell ⟨B, 3, none⟩ (.int .i64 v)) B (pkCells ⟨r.id, r.flow, r.host, v, r.tm, r.ecn⟩) t := h.set 3 _
theorem pk_s4 {W : World} {B : Nat} {r : Pk} {t : TypeId} (h : Sits W B (pkCells r) t) (v : Int) : Sits (W.setCell ⟨B, 4, none⟩ (.int .i64 v)) B (pkCells ⟨r.id, r.flow, r.host, r.size, v, r.ecn⟩) t := h.set 4 _
theorem pk_s5 {W : World} {B : Nat} {r : Pk} {t : TypeId} (h : Sits W B (pkCells r) t) (v : Int) : Sits (W.setCell ⟨B, 5, none⟩ (.int .i64 v)) B (pkCells ⟨r.id, r.flow, r.host, r.size, r.tm, v⟩) t := h.set 5 _
theorem f2_s0 {W : World} {B : Nat} {a b : Value} {t : TypeId} (h : Sits W B #[a, b] t) (v : Value) : Sits (W.setCell ⟨B, 0, none⟩ v) B #[v, b] t := h.set 0 _
theorem f2_s1 {W : World} {B : Nat} {a b : Value} {t : TypeId} (h : Sits W B #[a, b] t) (v : Value) : Sits (W.setCell ⟨B, 1, none⟩ v) B #[a, v] t := h.set 1 _

/-- The world in which the answers were laid. -/
@[reducible] def laidW (W : World) (B : Nat) (q : Cd) (v u : Value) (p : Pk) : World := (((((((((((((((W).setCell ⟨B, 0, none⟩ (.int .i64 q.tg)).setCell ⟨B, 1, none⟩ (.int .i64 q.iv)).setCell ⟨B, 2, none⟩ (.int .i64 q.fi)).setCell ⟨B, 3, none⟩ (.int .i64 q.nx)).setCell ⟨B, 4, none⟩ (.int .i64 q.ct)).setCell ⟨B, 5, none⟩ (.int .i64 q.la)).setCell ⟨B, 6, none⟩ (.bool q.dr)).setCell ⟨B + 1, 0, none⟩ v).setCell ⟨B + 1, 1, none⟩ u).setCell ⟨B + 1 + 1, 0, none⟩ (.int .i64 p.id)).setCell ⟨B + 1 + 1, 1, none⟩ (.int .i64 p.flow)).setCell ⟨B + 1 + 1, 2, none⟩ (.int .i64 p.host)).setCell ⟨B + 1 + 1, 3, none⟩ (.int .i64 p.size)).setCell ⟨B + 1 + 1, 4, none⟩ (.int .i64 p.tm)).setCell ⟨B + 1 + 1, 5, none⟩ (.int .i64 p.ecn)
theorem laid_1 {W : World} {B : Nat} {q q' : Cd} {v u : Value} {p : Pk} {t : TypeId} (h : Sits W B (cdCells q') t) : Sits (laidW W B q v u p) B (cdCells q) t := Sits.other (Sits.other (Sits.other (Sits.other (Sits.other (Sits.other (Sits.other (Sits.other (cd_s6 (cd_s5 (cd_s4 (cd_s3 (cd_s2 (cd_s1 (cd_s0 (h) q.tg) q.iv) q.fi) q.nx) q.ct) q.la) q.dr) (B' := B + 1) (k := 0) (by omega) v) (B' := B + 1) (k := 1) (by omega) u) (B' := B + 1 + 1) (k := 0) (by omega) (.int .i64 p.id)) (B' := B + 1 + 1) (k := 1) (by omega) (.int .i64 p.flow)) (B' := B + 1 + 1) (k := 2) (by omega) (.int .i64 p.host)) (B' := B + 1 + 1) (k := 3) (by omega) (.int .i64 p.size)) (B' := B + 1 + 1) (k := 4) (by omega) (.int .i64 p.tm)) (B' := B + 1 + 1) (k := 5) (by omega) (.int .i64 p.ecn)
theorem laid_2 {W : World} {B : Nat} {q : Cd} {v u v' u' : Value} {p : Pk} {t : TypeId} (h : Sits W (B + 1) #[v', u'] t) : Sits (laidW W B q v u p) (B + 1) #[v, u] t := Sits.other (Sits.other (Sits.other (Sits.other (Sits.other (Sits.other (f2_s1 (f2_s0 (Sits.other (Sits.other (Sits.other (Sits.other (Sits.other (Sits.other (Sits.other (h) (B' := B) (k := 0) (by omega) (.int .i64 q.tg)) (B' := B) (k := 1) (by omega) (.int .i64 q.iv)) (B' := B) (k := 2) (by omega) (.int .i64 q.fi)) (B' := B) (k := 3) (by omega) (.int .i64 q.nx)) (B' := B) (k := 4) (by omega) (.int .i64 q.ct)) (B' := B) (k := 5) (by omega) (.int .i64 q.la)) (B' := B) (k := 6) (by omega) (.bool q.dr)) v) u) (B' := B + 1 + 1) (k := 0) (by omega) (.int .i64 p.id)) (B' := B + 1 + 1) (k := 1) (by omega) (.int .i64 p.flow)) (B' := B + 1 + 1) (k := 2) (by omega) (.int .i64 p.host)) (B' := B + 1 + 1) (k := 3) (by omega) (.int .i64 p.size)) (B' := B + 1 + 1) (k := 4) (by omega) (.int .i64 p.tm)) (B' := B + 1 + 1) (k := 5) (by omega) (.int .i64 p.ecn)
theorem laid_3 {W : World} {B : Nat} {q : Cd} {v u : Value} {p p' : Pk} {t : TypeId} (h : Sits W (B + 1 + 1) (pkCells p') t) : Sits (laidW W B q v u p) (B + 1 + 1) (pkCells p) t := pk_s5 (pk_s4 (pk_s3 (pk_s2 (pk_s1 (pk_s0 (Sits.other (Sits.other (Sits.other (Sits.other (Sits.other (Sits.other (Sits.other (Sits.other (Sits.other (h) (B' := B) (k := 0) (by omega) (.int .i64 q.tg)) (B' := B) (k := 1) (by omega) (.int .i64 q.iv)) (B' := B) (k := 2) (by omega) (.int .i64 q.fi)) (B' := B) (k := 3) (by omega) (.int .i64 q.nx)) (B' := B) (k := 4) (by omega) (.int .i64 q.ct)) (B' := B) (k := 5) (by omega) (.int .i64 q.la)) (B' := B) (k := 6) (by omega) (.bool q.dr)) (B' := B + 1) (k := 0) (by omega) v) (B' := B + 1) (k := 1) (by omega) u) p.id) p.flow) p.host) p.size) p.tm) p.ecn
theorem laid_b {H : Nat} {w W : World} {B : Nat} {q : Cd} {v u : Value} {p : Pk} (b5 : Below H w W) (hB : H ≤ B) : Below H w (laidW W B q v u p) := (((((((((((((((b5).setCell (p := ⟨B, 0, none⟩) (by show H ≤ B; omega) (.int .i64 q.tg)).setCell (p := ⟨B, 1, none⟩) (by show H ≤ B; omega) (.int .i64 q.iv)).setCell (p := ⟨B, 2, none⟩) (by show H ≤ B; omega) (.int .i64 q.fi)).setCell (p := ⟨B, 3, none⟩) (by show H ≤ B; omega) (.int .i64 q.nx)).setCell (p := ⟨B, 4, none⟩) (by show H ≤ B; omega) (.int .i64 q.ct)).setCell (p := ⟨B, 5, none⟩) (by show H ≤ B; omega) (.int .i64 q.la)).setCell (p := ⟨B, 6, none⟩) (by show H ≤ B; omega) (.bool q.dr)).setCell (p := ⟨B + 1, 0, none⟩) (by show H ≤ B + 1; omega) v).setCell (p := ⟨B + 1, 1, none⟩) (by show H ≤ B + 1; omega) u).setCell (p := ⟨B + 1 + 1, 0, none⟩) (by show H ≤ B + 1 + 1; omega) (.int .i64 p.id)).setCell (p := ⟨B + 1 + 1, 1, none⟩) (by show H ≤ B + 1 + 1; omega) (.int .i64 p.flow)).setCell (p := ⟨B + 1 + 1, 2, none⟩) (by show H ≤ B + 1 + 1; omega) (.int .i64 p.host)).setCell (p := ⟨B + 1 + 1, 3, none⟩) (by show H ≤ B + 1 + 1; omega) (.int .i64 p.size)).setCell (p := ⟨B + 1 + 1, 4, none⟩) (by show H ≤ B + 1 + 1; omega) (.int .i64 p.tm)).setCell (p := ⟨B + 1 + 1, 5, none⟩) (by show H ≤ B + 1 + 1; omega) (.int .i64 p.ecn)
theorem laid_z {W : World} {B : Nat} {q : Cd} {v u : Value} {p : Pk} {L U : Nat} {a : Option Addr} {n : Nat} {f : Nat → Int} (hz : ZI L U W a n f) (hB : B + 1 + 1 < L) : ZI L U (laidW W B q v u p) a n f := zi_far (zi_far (zi_far (zi_far (zi_far (zi_far (zi_far (zi_far (zi_far (zi_far (zi_far (zi_far (zi_far (zi_far (zi_far (hz) (B := B) (by omega) 0 (.int .i64 q.tg)) (B := B) (by omega) 1 (.int .i64 q.iv)) (B := B) (by omega) 2 (.int .i64 q.fi)) (B := B) (by omega) 3 (.int .i64 q.nx)) (B := B) (by omega) 4 (.int .i64 q.ct)) (B := B) (by omega) 5 (.int .i64 q.la)) (B := B) (by omega) 6 (.bool q.dr)) (B := B + 1) (by omega) 0 v) (B := B + 1) (by omega) 1 u) (B := B + 1 + 1) (by omega) 0 (.int .i64 p.id)) (B := B + 1 + 1) (by omega) 1 (.int .i64 p.flow)) (B := B + 1 + 1) (by omega) 2 (.int .i64 p.host)) (B := B + 1 + 1) (by omega) 3 (.int .i64 p.size)) (B := B + 1 + 1) (by omega) 4 (.int .i64 p.tm)) (B := B + 1 + 1) (by omega) 5 (.int .i64 p.ecn)
theorem zi_drew {L U : Nat} {w : World} {a : Option Addr} {n : Nat} {f : Nat → Int} (h : ZI L U w a n f) : ZI L U w.drew a n f := h
theorem size_drew (w : World) : w.drew.heap.size = w.heap.size := rfl
theorem laid_s (W : World) (B : Nat) (q : Cd) (v u : Value) (p : Pk) : (laidW W B q v u p).heap.size = W.heap.size := by simp [laidW]

/-- A Codel, a queue, a list, a packet and a bool, handed back. -/
theorem ret_pop {fn : Func} {tmps : Array Value} {W : World} {i j k l m B1 B2 B3 : Nat} {q : Cd} {p : Pk} {v u : Value} {L : Value} {b : Bool} {t1 t2 t3 : TypeId} (hr : fn.results = #[.cell i 28, .cell j 31, .tmp k, .cell l 33, .tmp m]) (hi : tmps[i]?.getD undef = .pointer (some ⟨B1, 0, none⟩)) (hj : tmps[j]?.getD undef = .pointer (some ⟨B2, 0, none⟩)) (hk : tmps[k]?.getD undef = L) (hl : tmps[l]?.getD undef = .pointer (some ⟨B3, 0, none⟩)) (hm : tmps[m]?.getD undef = .bool b) (h1 : Sits W B1 (cdCells q) t1) (h2 : Sits W B2 #[v, u] t2) (h3 : Sits W B3 (pkCells p) t3) : (results fn tmps).run Try.prog W = .ok (.tuple #[q.val, .agg #[v, u], L, p.val, .bool b]) W := by
  obtain ⟨c0, c1, c2, c3, c4, c5, c6⟩ := cd_cells h1
  have d0 : W.cell? ⟨B2, 0, none⟩ = some v := h2.cell 0
  have d1 : W.cell? ⟨B2, 1, none⟩ = some u := h2.cell 1
  have e0 : W.cell? ⟨B3, 0, none⟩ = some (.int .i64 p.id) := h3.cell 0
  have e1 : W.cell? ⟨B3, 1, none⟩ = some (.int .i64 p.flow) := h3.cell 1
  have e2 : W.cell? ⟨B3, 2, none⟩ = some (.int .i64 p.host) := h3.cell 2
  have e3 : W.cell? ⟨B3, 3, none⟩ = some (.int .i64 p.size) := h3.cell 3
  have e4 : W.cell? ⟨B3, 4, none⟩ = some (.int .i64 p.tm) := h3.cell 4
  have e5 : W.cell? ⟨B3, 5, none⟩ = some (.int .i64 p.ecn) := h3.cell 5
  simp [results, hr, hi, hj, hk, hl, hm, go_sem, c0, c1, c2, c3, c4, c5, c6, d0, d1, e0, e1, e2, e3, e4, e5]

end Go.Proofs.Ytlhiadehohikdaa
