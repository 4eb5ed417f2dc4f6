/-
  WHAT THE LAW OF ShapePush WANTS: both sides in one form, whether the arguments are well or not; marks.
-/
import Derived.Test.YtehlcekfccjahaaPushIs
import Derived.Test.YtehlcekfccjahaaShapeM
namespace Go.Proofs.Ytehlcekfccjahaa
open Go.RowKit
set_option linter.unusedVariables false

def spS (s : Sh) (N : Nat) (L : Nat → Ln) (ts : List Int) (p : Pk) : Sh := if mayB s N L ts p then s else ⟨0, 0, 0, 0, 0⟩
def spN (s : Sh) (N : Nat) (L : Nat → Ln) (ts : List Int) (p : Pk) : Nat := if mayB s N L ts p then 4 else 0
def spT (s : Sh) (N : Nat) (L : Nat → Ln) (ts : List Int) (p : Pk) : List Int := if mayB s N L ts p then outT s L ts p else []
def spB (s : Sh) (N : Nat) (L : Nat → Ln) (ts : List Int) (p : Pk) : Bool := mayB s N L ts p && shpB s L p
def seq (l : List Int) : Nat → Int := fun i => l.getD i 0
theorem seq_of {n : Nat} {f : Nat → Int} {l : List Int} (h : (List.range n).map f = l) : n = l.length ∧ ∀ i, i < n → f i = seq l i := by
  subst h
  refine ⟨by simp, fun i hi => ?_⟩
  simp [seq, List.getD, hi]
theorem Row.congr' {w : World} {a : Option Addr} {n : Nat} {f g : Nat → Int} (h : Row .i64 w a n f) (e : ∀ i, i < n → f i = g i) : Row .i64 w a n g := by
  rcases h with h | ⟨b, off, ha, hb, hc⟩
  · exact .inl h
  · exact .inr ⟨b, off, ha, hb, fun i hi => by rw [← e i hi]; exact hc i hi⟩
theorem MK.congr {base : Nat} {w : World} {B N : Nat} {A : Nat → Option Addr} {C : Nat → Nat} {L : Nat → Ln} {y : Option Addr} {n : Nat} {f g : Nat → Int} (h : MK base w B N A C L y n f) (e : ∀ i, i < n → f i = g i) : MK base w B N A C L y n g := by
  refine ⟨h.1, ?_⟩
  rcases h.2 with e0 | ⟨Y, ha, h1, h2, h3, ho⟩
  · exact .inl e0
  · exact .inr ⟨Y, ha, h1, h2, h3, ho.congr e⟩

/-- The lists of an answer, one's own and apart, or none. -/
def MK0 (base : Nat) (w : World) (x : Option Addr) (N : Nat) (L : Nat → Ln) (y : Option Addr) (n : Nat) (tn : Nat → Int) : Prop :=
  (N = 0 ∧ n = 0) ∨ ∃ (B : Nat) (A : Nat → Option Addr) (C : Nat → Nat), x = some ⟨B, 0, none⟩ ∧ MK base w B N A C L y n tn
theorem MK0.lr {base : Nat} {w : World} {x : Option Addr} {N : Nat} {L : Nat → Ln} {y : Option Addr} {n : Nat} {tn : Nat → Int} (h : MK0 base w x N L y n tn) : LR w.heap.size w x N L := by
  rcases h with ⟨h, _⟩ | ⟨B, A, C, rfl, h⟩
  · exact .inl h
  · exact h.1.lr
theorem MK0.row {base : Nat} {w : World} {x : Option Addr} {N : Nat} {L : Nat → Ln} {y : Option Addr} {n : Nat} {tn : Nat → Int} (h : MK0 base w x N L y n tn) : Row .i64 w y n tn := by
  rcases h with ⟨_, h⟩ | ⟨B, A, C, rfl, h⟩
  · exact .inl h
  · exact h.row
theorem MK0.below {base : Nat} {w w' : World} {x : Option Addr} {N : Nat} {L : Nat → Ln} {y : Option Addr} {n : Nat} {tn : Nat → Int} (h : MK0 base w x N L y n tn) (hb : Below w.heap.size w w') : MK0 base w' x N L y n tn := by
  rcases h with h | ⟨B, A, C, e, h⟩
  · exact .inl h
  · exact .inr ⟨B, A, C, e, h.below hb⟩

theorem MK0.keep {base : Nat} {w w' : World} {x : Option Addr} {N : Nat} {L : Nat → Ln} {y : Option Addr} {n : Nat} {tn : Nat → Int} (h : MK0 base w x N L y n tn) (hk : ∀ k, base ≤ k → k < w.heap.size → w'.heap[k]? = w.heap[k]?) (hs : w.heap.size ≤ w'.heap.size) : MK0 base w' x N L y n tn := by
  rcases h with h | ⟨B, A, C, e, h⟩
  · exact .inl h
  · refine .inr ⟨B, A, C, e, h.1.keep (hk B h.1.lo h.1.lt) (fun i hi hz g ha => hk g (h.1.lt2 hi hz ha).2 (h.1.lt2 hi hz ha).1) hs, ?_⟩
    rcases h.2 with e | ⟨Y, ha, h1, h2, h3, ho⟩
    · exact .inl e
    · exact .inr ⟨Y, ha, h1, h2, h3, own_same ho (hk Y h1 ho.1) hs⟩
theorem MK0.mono {base base' : Nat} {w : World} {x : Option Addr} {N : Nat} {L : Nat → Ln} {y : Option Addr} {n : Nat} {tn : Nat → Int} (h : MK0 base w x N L y n tn) (hb : base' ≤ base) : MK0 base' w x N L y n tn := by
  rcases h with h | ⟨B, A, C, e, h1, h2⟩
  · exact .inl h
  · refine .inr ⟨B, A, C, e, ⟨by have := h1.lo; omega, h1.sits, h1.cap, fun i hi => ?_, h1.apart⟩, ?_⟩
    · rcases h1.own i hi with e | ⟨g, ha, hg, hne, ho⟩
      · exact .inl e
      · exact .inr ⟨g, ha, by omega, hne, ho⟩
    · rcases h2 with e | ⟨Y, ha, hg, hx⟩
      · exact .inl e
      · exact .inr ⟨Y, ha, by omega, hx⟩
theorem MK0.far {base : Nat} {w : World} {x : Option Addr} {N : Nat} {L : Nat → Ln} {y : Option Addr} {n : Nat} {tn : Nat → Int} (h : MK0 base w x N L y n tn) {V : Nat} (hV : V < base) (o : Nat) (v : Value) : MK0 base (w.setCell ⟨V, o, none⟩ v) x N L y n tn :=
  h.keep (fun k hk _ => Below.heap_setCell w ⟨V, o, none⟩ v k (by show k ≠ V; omega)) (by simp)
theorem MK0.chg {base L0 U0 : Nat} {w w' : World} {x : Option Addr} {N : Nat} {L : Nat → Ln} {y : Option Addr} {n : Nat} {tn : Nat → Int} (h : MK0 base w x N L y n tn) (hc : Chg L0 U0 w w') (hU : U0 ≤ base) : MK0 base w' x N L y n tn :=
  h.keep (fun k hk h2 => hc.block k h2 (by omega)) hc.size
theorem MK0.of_so {base : Nat} {w : World} {B N : Nat} {A : Nat → Option Addr} {C : Nat → Nat} {L : Nat → Ln} {y : Option Addr} {n : Nat} {tn : Nat → Int} (h : SO base w B A C N L y n tn) : MK0 base w (some ⟨B, 0, none⟩) N L y n tn := .inr ⟨B, A, C, rfl, MK.of_so h⟩
theorem vz_sits {W0 W W' : World} {V : Nat} {vs : Array Value} {t : TypeId} (h : Sits W0 V vs t) (hb : Below W.heap.size W W') (e : W.heap = W0.heap) : Sits W' V vs t ∧ V < W.heap.size := by
  have h' : Sits W V vs t := by
    show W.heap[V]? = _
    rw [e]
    exact h
  exact ⟨h'.below hb h'.lt, h'.lt⟩

theorem spush_law (s : Sh) (a : Option Addr) (N ca : Nat) (b : Option Addr) (n c : Nat) (L : Nat → Ln) (tn : Nat → Int) (p : Pk) (w : World)
    (hN : N ≤ 1048576) (hcn : cntF L N ≤ 1048576) (hnn : n ≤ 1048576) (hP : LR w.heap.size w a N L) (hb : Row .i64 w b n tn) :
    Calls Try.prog 5 #[shVal s a N ca b n c, p.val] w fun e w' => ∃ (x : Option Addr) (cl : Nat) (y : Option Addr) (cy : Nat), e = .returned (.tuple #[shVal (spS s N L ((List.range n).map tn) p) x (spN s N L ((List.range n).map tn) p) cl y (spT s N L ((List.range n).map tn) p).length cy, .bool (spB s N L ((List.range n).map tn) p)]) ∧ MK0 w.heap.size w' x (spN s N L ((List.range n).map tn) p) (outL s L p) y (spT s N L ((List.range n).map tn) p).length (seq (spT s N L ((List.range n).map tn) p)) ∧ Below w.heap.size w w' := by
  refine (sshapePush_any s a N ca b n c L tn p w hN hcn hnn hP hb).mono ?_
  rintro e w' (⟨h1, rfl, h3⟩ | ⟨h1, B, A, C, cl, y, n1, cy, tn1, rfl, h4, h5, h6, h7, h8⟩)
  · refine ⟨none, 0, none, 0, ?_, ?_, h3⟩
    · simp [spS, spN, spT, spB, h1]
    · left; simp [spN, spT, h1]
  · have hT : spT s N L ((List.range n).map tn) p = outT s L ((List.range n).map tn) p := by simp [spT, h1]
    obtain ⟨e1, e2⟩ := seq_of h6
    refine ⟨some ⟨B, 0, none⟩, cl, y, cy, ?_, ?_, h8⟩
    · rw [hT, ← e1]; simp [spS, spN, spB, h1]
    · have : spN s N L ((List.range n).map tn) p = 4 := by simp [spN, h1]
      rw [this, hT, ← e1]
      exact .inr ⟨B, A, C, rfl, (MK.of_lq h4 h5).congr e2⟩
theorem ipush_law (s : Sh) (a : Option Addr) (N ca : Nat) (b : Option Addr) (n c : Nat) (L : Nat → Ln) (tn : Nat → Int) (p : Pk) (w : World)
    (hN : N ≤ 1048576) (hcn : cntF L N ≤ 1048576) (hnn : n ≤ 1048576) (hP : LR w.heap.size w a N L) (hb : Row .i64 w b n tn) :
    Calls Try.prog 8 #[shVal s a N ca b n c, p.val] w fun e w' => ∃ (x : Option Addr) (cl : Nat) (y : Option Addr) (cy : Nat), e = .returned (.tuple #[shVal (spS s N L ((List.range n).map tn) p) x (spN s N L ((List.range n).map tn) p) cl y (spT s N L ((List.range n).map tn) p).length cy, .bool (spB s N L ((List.range n).map tn) p)]) ∧ MK0 w.heap.size w' x (spN s N L ((List.range n).map tn) p) (outL s L p) y (spT s N L ((List.range n).map tn) p).length (seq (spT s N L ((List.range n).map tn) p)) ∧ Below w.heap.size w w' := by
  refine (ishapePush_any s a N ca b n c L tn p w hN hcn hnn hP hb).mono ?_
  rintro e w' (⟨h1, rfl, h3⟩ | ⟨h1, B, A, C, cl, y, n1, cy, tn1, rfl, h4, h5, h6, h7, h8⟩)
  · refine ⟨none, 0, none, 0, ?_, ?_, h3⟩
    · simp [spS, spN, spT, spB, h1]
    · left; simp [spN, spT, h1]
  · have hT : spT s N L ((List.range n).map tn) p = outT s L ((List.range n).map tn) p := by simp [spT, h1]
    obtain ⟨e1, e2⟩ := seq_of h6
    refine ⟨some ⟨B, 0, none⟩, cl, y, cy, ?_, ?_, h8⟩
    · rw [hT, ← e1]; simp [spS, spN, spB, h1]
    · have : spN s N L ((List.range n).map tn) p = 4 := by simp [spN, h1]
      rw [this, hT, ← e1]
      exact .inr ⟨B, A, C, rfl, (MK.of_lq h4 h5).congr e2⟩

set_option maxHeartbeats 1000000 in
theorem markShape_none (s : Sh) (a : Option Addr) (ca : Nat) (b : Option Addr) (cb : Nat) (k0 : Int) (w : World) (q0 : 0 ≤ k0) (q1 : k0 ≤ 1099511627776) :
    Calls Try.prog 10 #[shVal s a 0 ca b 0 cb, .int .i64 k0] w fun e w' => e = .returned (.int .i64 k0) ∧ Below w.heap.size w w' := by
  obtain ⟨W0, hW0⟩ : ∃ W, w.alloc (.cells (shCells s a 0 ca b 0 cb) 31) = W := ⟨_, rfl⟩
  have s0 : Sits W0 w.heap.size (shCells s a 0 ca b 0 cb) 31 := by rw [← hW0]; exact Sits.new _ _ _
  have b0 : Below w.heap.size w W0 := by rw [← hW0]; exact (Below.refl _ w).alloc (Nat.le_refl _) _
  have HW0 : Hid (w.alloc (.cells (shCells s a 0 ca b 0 cb) 31) = W0) := hW0
  have HB0 : Hid (Below w.heap.size w W0) := b0
  have HS0 : Hid (Sits W0 w.heap.size (shCells s a 0 ca b 0 cb) 31) := s0
  have x2 := s0.cell 5
  have x3 := s0.cell 6
  clear s0 b0 hW0
  go_enter Try.func10, Try.ntmps10
  go_upto_region 1 with fail
  rw [HW0.out]
  clear HW0
  go_upto_region 2 with (go_at_call 29; refine (markLineS_nil a ca k0 _).mono ?_; rintro e w1 ⟨rfl, hw1⟩; replace hw1 := hw1.symm; subst hw1)
  go_wp2_with (go_at_call 30; refine (markIntS_nil b cb k0 _ q0 q1).mono ?_; rintro e w2 ⟨rfl, c2⟩; have HB2 : Hid (Below w.heap.size w w2) := (HB0.out).trans (c2.none.mono (HB0.out).size); clear c2)
  go_ret
  exact ⟨rfl, HB2.out⟩
/-- markShape of an answer. -/
theorem markShape_mk0 (base : Nat) (s : Sh) (x : Option Addr) (N ca : Nat) (y : Option Addr) (n cy : Nat) (L : Nat → Ln) (tn : Nat → Int) (k0 : Int) (w : World) (hmk : MK0 base w x N L y n tn) (hN : N ≤ 1048576) (hcn : cntF L N ≤ 1048576) (hn : n ≤ 1048576) (h0 : 0 ≤ k0) (h1 : k0 ≤ 1000000000) :
    Calls Try.prog 10 #[shVal s x N ca y n cy, .int .i64 k0] w fun e w' => e = .returned (.int .i64 (upAt L k0 N + n)) ∧ MK0 base w' x N (upL L k0) y n (fun i => upAt L k0 N + i) ∧ Chg base w.heap.size w w' := by
  rcases hmk with ⟨rfl, rfl⟩ | ⟨B, A, C, rfl, hmk⟩
  · refine (markShape_none s x ca y cy k0 w h0 (by omega)).mono ?_
    rintro e w' ⟨rfl, hb⟩
    exact ⟨by simp [upAt, cntF], .inl ⟨rfl, rfl⟩, Chg.of_below hb⟩
  · refine (markShape_mk base s B N ca y n cy A C L tn k0 w hmk hN hcn hn h0 h1).mono ?_
    rintro e w' ⟨rfl, hm, hc⟩
    exact ⟨rfl, .inr ⟨B, A, C, rfl, hm⟩, hc⟩

end Go.Proofs.Ytehlcekfccjahaa
