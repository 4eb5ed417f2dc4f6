/-
  Whatever Shape and packet the law FnExactShapePush is given, it returns true and leaves all that lay as it was: the program's ShapePush answers as the specification's, in memory of its own; no condition.
-/
import Derived.Test.YtehlcekfccjahaaRows
import Derived.WalkKit
import Derived.ProofKit
import Derived.OpenShut
import Derived.Test.YtehlcekfccjahaaPushLaw
import Derived.Test.YtehlcekfccjahaaPushMk
import Derived.Deep.RegionHeld3
import Derived.Deep.Cut
import Derived.Deep.Slices
import Derived.ShutString
import Derived.ChangeOld
import Derived.Below
namespace Go.Proofs.Ytehlcekfccjahaa.fnExactShapePush
open Go.ChangeShapes Go.WideShapes Go.ChangeAt Go.RowKit
open Go.ChangeMaps (open_string shut_string)
set_option linter.unusedVariables false

theorem own : ownKnob Try.prog.godebug = none := by kernel_rfl
theorem laidOut : laidOutB Try.prog = true := by kernel_rfl
theorem cellsInt : Try.prog.cellsOf 3 = 1 := by kernel_rfl
theorem cellsCodel : Try.prog.cellsOf 67 = 7 := by kernel_rfl
theorem cellsBool : Try.prog.cellsOf 4 = 1 := by kernel_rfl
theorem cellsPkt : Try.prog.cellsOf 27 = 6 := by kernel_rfl
theorem cellsSlice : Try.prog.cellsOf 66 = 1 := by kernel_rfl
theorem cellsLine : Try.prog.cellsOf 69 = 9 := by kernel_rfl
theorem cellsLines : Try.prog.cellsOf 22 = 1 := by kernel_rfl
theorem cellsInts : Try.prog.cellsOf 23 = 1 := by kernel_rfl
theorem cellsShape : Try.prog.cellsOf 25 = 7 := by kernel_rfl

theorem sh_p0 {W : World} {V : Nat} {q0 q1 q2 q3 q4 q5 q6 : Value} {t : TypeId} (h : Sits W V #[q0, q1, q2, q3, q4, q5, q6] t) (v : Value) : Sits (W.setCell ⟨V, 0, none⟩ v) V #[v, q1, q2, q3, q4, q5, q6] t := Sits.set h 0 v
theorem sh_p1 {W : World} {V : Nat} {q0 q1 q2 q3 q4 q5 q6 : Value} {t : TypeId} (h : Sits W V #[q0, q1, q2, q3, q4, q5, q6] t) (v : Value) : Sits (W.setCell ⟨V, 1, none⟩ v) V #[q0, v, q2, q3, q4, q5, q6] t := Sits.set h 1 v
theorem sh_p2 {W : World} {V : Nat} {q0 q1 q2 q3 q4 q5 q6 : Value} {t : TypeId} (h : Sits W V #[q0, q1, q2, q3, q4, q5, q6] t) (v : Value) : Sits (W.setCell ⟨V, 2, none⟩ v) V #[q0, q1, v, q3, q4, q5, q6] t := Sits.set h 2 v
theorem sh_p3 {W : World} {V : Nat} {q0 q1 q2 q3 q4 q5 q6 : Value} {t : TypeId} (h : Sits W V #[q0, q1, q2, q3, q4, q5, q6] t) (v : Value) : Sits (W.setCell ⟨V, 3, none⟩ v) V #[q0, q1, q2, v, q4, q5, q6] t := Sits.set h 3 v
theorem sh_p4 {W : World} {V : Nat} {q0 q1 q2 q3 q4 q5 q6 : Value} {t : TypeId} (h : Sits W V #[q0, q1, q2, q3, q4, q5, q6] t) (v : Value) : Sits (W.setCell ⟨V, 4, none⟩ v) V #[q0, q1, q2, q3, v, q5, q6] t := Sits.set h 4 v
theorem sh_p5 {W : World} {V : Nat} {q0 q1 q2 q3 q4 q5 q6 : Value} {t : TypeId} (h : Sits W V #[q0, q1, q2, q3, q4, q5, q6] t) (v : Value) : Sits (W.setCell ⟨V, 5, none⟩ v) V #[q0, q1, q2, q3, q4, v, q6] t := Sits.set h 5 v
theorem sh_p6 {W : World} {V : Nat} {q0 q1 q2 q3 q4 q5 q6 : Value} {t : TypeId} (h : Sits W V #[q0, q1, q2, q3, q4, q5, q6] t) (v : Value) : Sits (W.setCell ⟨V, 6, none⟩ v) V #[q0, q1, q2, q3, q4, q5, v] t := Sits.set h 6 v
theorem sh_put {W : World} {V : Nat} {t : TypeId} (h : Sits W V shZero t) (s : Sh) (a : Option Addr) (N ca : Nat) (b : Option Addr) (n cb : Nat) : Sits (((((((W.setCell ⟨V, 0, none⟩ (.int .i64 s.rt)).setCell ⟨V, 1, none⟩ (.int .i64 s.ov)).setCell ⟨V, 2, none⟩ (.int .i64 s.nx)).setCell ⟨V, 3, none⟩ (.int .i64 s.qt)).setCell ⟨V, 4, none⟩ (.int .i64 s.lim)).setCell ⟨V, 5, none⟩ (.slice a N ca)).setCell ⟨V, 6, none⟩ (.slice b n cb)) V (shCells s a N ca b n cb) t := (sh_p6 (sh_p5 (sh_p4 (sh_p3 (sh_p2 (sh_p1 (sh_p0 h (.int .i64 s.rt)) (.int .i64 s.ov)) (.int .i64 s.nx)) (.int .i64 s.qt)) (.int .i64 s.lim)) (.slice a N ca)) (.slice b n cb))
theorem cl_new {w1 v4 : World} {S1 : Sh} {N1 : Nat} {L1 : Nat → Ln} {T1 : List Int} {ok : Bool} {x4 y4 : Option Addr} {c4 cy4 : Nat} (hb4 : Below w1.heap.size w1 v4) (mk5 : MK0 w1.heap.size v4 x4 N1 L1 y4 T1.length (seq T1)) : ∃ (V0 : Nat) (x : Option Addr) (cl : Nat) (y : Option Addr) (cy : Nat), Value.pointer (some ⟨v4.heap.size, 0, none⟩) = .pointer (some ⟨V0, 0, none⟩) ∧ Value.bool ok = .bool ok ∧ Sits (v4.alloc (.cells (shCells S1 x4 N1 c4 y4 T1.length cy4) 31)) V0 (shCells S1 x N1 cl y T1.length cy) 31 ∧ w1.heap.size ≤ V0 ∧ MK0 w1.heap.size (v4.alloc (.cells (shCells S1 x4 N1 c4 y4 T1.length cy4) 31)) x N1 L1 y T1.length (seq T1) ∧ Below w1.heap.size w1 (v4.alloc (.cells (shCells S1 x4 N1 c4 y4 T1.length cy4) 31)) := ⟨_, x4, c4, y4, cy4, rfl, rfl, Sits.new _ _ _, hb4.size, mk5.below ((Below.refl _ _).alloc (Nat.le_refl _) _), hb4.alloc hb4.size _⟩
theorem cl_put {w1 v4 : World} {S1 : Sh} {N1 : Nat} {L1 : Nat → Ln} {T1 : List Int} {ok : Bool} {x4 y4 : Option Addr} {c4 cy4 : Nat} (hb4 : Below w1.heap.size w1 v4) {V base : Nat} (vz : Sits v4 V shZero 31 ∧ V < base) (mk4 : MK0 base v4 x4 N1 L1 y4 T1.length (seq T1)) (hV : w1.heap.size ≤ V) : ∃ (V0 : Nat) (x : Option Addr) (cl : Nat) (y : Option Addr) (cy : Nat), Value.pointer (some ⟨V, 0, none⟩) = .pointer (some ⟨V0, 0, none⟩) ∧ Value.bool ok = .bool ok ∧ Sits (((((((v4.setCell ⟨V, 0, none⟩ (.int .i64 S1.rt)).setCell ⟨V, 1, none⟩ (.int .i64 S1.ov)).setCell ⟨V, 2, none⟩ (.int .i64 S1.nx)).setCell ⟨V, 3, none⟩ (.int .i64 S1.qt)).setCell ⟨V, 4, none⟩ (.int .i64 S1.lim)).setCell ⟨V, 5, none⟩ (.slice x4 N1 c4)).setCell ⟨V, 6, none⟩ (.slice y4 T1.length cy4)) V0 (shCells S1 x N1 cl y T1.length cy) 31 ∧ w1.heap.size ≤ V0 ∧ MK0 w1.heap.size (((((((v4.setCell ⟨V, 0, none⟩ (.int .i64 S1.rt)).setCell ⟨V, 1, none⟩ (.int .i64 S1.ov)).setCell ⟨V, 2, none⟩ (.int .i64 S1.nx)).setCell ⟨V, 3, none⟩ (.int .i64 S1.qt)).setCell ⟨V, 4, none⟩ (.int .i64 S1.lim)).setCell ⟨V, 5, none⟩ (.slice x4 N1 c4)).setCell ⟨V, 6, none⟩ (.slice y4 T1.length cy4)) x N1 L1 y T1.length (seq T1) ∧ Below w1.heap.size w1 (((((((v4.setCell ⟨V, 0, none⟩ (.int .i64 S1.rt)).setCell ⟨V, 1, none⟩ (.int .i64 S1.ov)).setCell ⟨V, 2, none⟩ (.int .i64 S1.nx)).setCell ⟨V, 3, none⟩ (.int .i64 S1.qt)).setCell ⟨V, 4, none⟩ (.int .i64 S1.lim)).setCell ⟨V, 5, none⟩ (.slice x4 N1 c4)).setCell ⟨V, 6, none⟩ (.slice y4 T1.length cy4)) := ⟨V, x4, c4, y4, cy4, rfl, rfl, sh_put vz.1 S1 x4 N1 c4 y4 T1.length cy4, hV, MK0.mono (((((((mk4.far vz.2 _ _).far vz.2 _ _).far vz.2 _ _).far vz.2 _ _).far vz.2 _ _).far vz.2 _ _).far vz.2 _ _) (by have := vz.2; omega), (Below.setCell (Below.setCell (Below.setCell (Below.setCell (Below.setCell (Below.setCell (Below.setCell hb4 (show w1.heap.size ≤ V from hV) _) (show w1.heap.size ≤ V from hV) _) (show w1.heap.size ≤ V from hV) _) (show w1.heap.size ≤ V from hV) _) (show w1.heap.size ≤ V from hV) _) (show w1.heap.size ≤ V from hV) _) (show w1.heap.size ≤ V from hV) _)⟩
theorem MU.far {base up : Nat} {w : World} {x : Option Addr} {N : Nat} {L : Nat → Ln} {y : Option Addr} {n : Nat} {tn : Nat → Int} (h : MU base up w x N L y n tn) {V : Nat} (hV : V < base) (o : Nat) (v : Value) : MU base up (w.setCell ⟨V, o, none⟩ v) x N L y n tn := h.keep (fun k hk _ => Below.heap_setCell w ⟨V, o, none⟩ v k (by show k ≠ V; omega)) (by simp)
theorem cm_new {w1 v4 : World} {S1 : Sh} {N1 : Nat} {L1 : Nat → Ln} {T1 : List Int} {ok : Bool} {x4 y4 : Option Addr} {c4 cy4 : Nat} (hb4 : Below w1.heap.size w1 v4) (mk5 : MK0 w1.heap.size v4 x4 N1 L1 y4 T1.length (seq T1)) : ∃ (V0 : Nat) (x : Option Addr) (cl : Nat) (y : Option Addr) (cy : Nat), Value.pointer (some ⟨v4.heap.size, 0, none⟩) = .pointer (some ⟨V0, 0, none⟩) ∧ Value.bool ok = .bool ok ∧ Sits (v4.alloc (.cells (shCells S1 x4 N1 c4 y4 T1.length cy4) 31)) V0 (shCells S1 x N1 cl y T1.length cy) 31 ∧ w1.heap.size ≤ V0 ∧ (∃ lo up : Nat, w1.heap.size ≤ lo ∧ (V0 < lo ∨ up ≤ V0) ∧ MU lo up (v4.alloc (.cells (shCells S1 x4 N1 c4 y4 T1.length cy4) 31)) x N1 L1 y T1.length (seq T1)) ∧ Below w1.heap.size w1 (v4.alloc (.cells (shCells S1 x4 N1 c4 y4 T1.length cy4) 31)) := ⟨_, x4, c4, y4, cy4, rfl, rfl, Sits.new _ _ _, hb4.size, ⟨_, _, Nat.le_refl _, .inr (Nat.le_refl _), MU.below (MU.of mk5) ((Below.refl _ _).alloc (Nat.le_refl _) _)⟩, hb4.alloc hb4.size _⟩
theorem cm_put {w1 v4 : World} {S1 : Sh} {N1 : Nat} {L1 : Nat → Ln} {T1 : List Int} {ok : Bool} {x4 y4 : Option Addr} {c4 cy4 : Nat} (hb4 : Below w1.heap.size w1 v4) {V base : Nat} (vz : Sits v4 V shZero 31 ∧ V < base) (mk4 : MK0 base v4 x4 N1 L1 y4 T1.length (seq T1)) (hV : w1.heap.size ≤ V) : ∃ (V0 : Nat) (x : Option Addr) (cl : Nat) (y : Option Addr) (cy : Nat), Value.pointer (some ⟨V, 0, none⟩) = .pointer (some ⟨V0, 0, none⟩) ∧ Value.bool ok = .bool ok ∧ Sits (((((((v4.setCell ⟨V, 0, none⟩ (.int .i64 S1.rt)).setCell ⟨V, 1, none⟩ (.int .i64 S1.ov)).setCell ⟨V, 2, none⟩ (.int .i64 S1.nx)).setCell ⟨V, 3, none⟩ (.int .i64 S1.qt)).setCell ⟨V, 4, none⟩ (.int .i64 S1.lim)).setCell ⟨V, 5, none⟩ (.slice x4 N1 c4)).setCell ⟨V, 6, none⟩ (.slice y4 T1.length cy4)) V0 (shCells S1 x N1 cl y T1.length cy) 31 ∧ w1.heap.size ≤ V0 ∧ (∃ lo up : Nat, w1.heap.size ≤ lo ∧ (V0 < lo ∨ up ≤ V0) ∧ MU lo up (((((((v4.setCell ⟨V, 0, none⟩ (.int .i64 S1.rt)).setCell ⟨V, 1, none⟩ (.int .i64 S1.ov)).setCell ⟨V, 2, none⟩ (.int .i64 S1.nx)).setCell ⟨V, 3, none⟩ (.int .i64 S1.qt)).setCell ⟨V, 4, none⟩ (.int .i64 S1.lim)).setCell ⟨V, 5, none⟩ (.slice x4 N1 c4)).setCell ⟨V, 6, none⟩ (.slice y4 T1.length cy4)) x N1 L1 y T1.length (seq T1)) ∧ Below w1.heap.size w1 (((((((v4.setCell ⟨V, 0, none⟩ (.int .i64 S1.rt)).setCell ⟨V, 1, none⟩ (.int .i64 S1.ov)).setCell ⟨V, 2, none⟩ (.int .i64 S1.nx)).setCell ⟨V, 3, none⟩ (.int .i64 S1.qt)).setCell ⟨V, 4, none⟩ (.int .i64 S1.lim)).setCell ⟨V, 5, none⟩ (.slice x4 N1 c4)).setCell ⟨V, 6, none⟩ (.slice y4 T1.length cy4)) := ⟨V, x4, c4, y4, cy4, rfl, rfl, sh_put vz.1 S1 x4 N1 c4 y4 T1.length cy4, hV, ⟨base, _, by have := vz.2; omega, .inl vz.2, (MU.far (MU.far (MU.far (MU.far (MU.far (MU.far (MU.far (MU.of mk4) vz.2 _ _) vz.2 _ _) vz.2 _ _) vz.2 _ _) vz.2 _ _) vz.2 _ _) vz.2 _ _)⟩, (Below.setCell (Below.setCell (Below.setCell (Below.setCell (Below.setCell (Below.setCell (Below.setCell hb4 (show w1.heap.size ≤ V from hV) _) (show w1.heap.size ≤ V from hV) _) (show w1.heap.size ≤ V from hV) _) (show w1.heap.size ≤ V from hV) _) (show w1.heap.size ≤ V from hV) _) (show w1.heap.size ≤ V from hV) _) (show w1.heap.size ≤ V from hV) _)⟩

set_option maxRecDepth 100000 in
set_option maxHeartbeats 20000000 in
theorem walk (s0 : Sh) (a0 : Option Addr) (N0 ca0 : Nat) (b0 : Option Addr) (n0 cb0 : Nat) (L0 : Nat → Ln) (tn0 : Nat → Int) (p1 : Pk) (w1 : p1.In) (w : World) (w0 : ShapeIn w s0 a0 N0 ca0 b0 n0 cb0 L0 tn0) :
    Calls Try.prog 3 #[shVal s0 a0 N0 ca0 b0 n0 cb0, p1.val] w fun e w' => e = .returned (.bool true) ∧ Below w.heap.size w w' := by
  obtain ⟨i0, i1, i2, i3, i4, n1, n2, n3, m1, m2, hlr, hrb⟩ := w0
  have hN : (N0 : Int) ≤ 9223372036854775807 := by unfold maxLen at n2; omega
  have hn : ∀ i, i < N0 → ((L0 i).n : Int) ≤ 9223372036854775807 := fun i hi => by have := n3 i hi; unfold maxLen at this; omega
  have hm : (n0 : Int) ≤ 9223372036854775807 := by unfold maxLen at m2; omega
  have HLR : Hid (LR w.heap.size w a0 N0 L0) := hlr
  have HRB : Hid (Row .i64 w b0 n0 tn0) := hrb
  have HNN : Hid (∀ i, i < N0 → ((L0 i).n : Int) ≤ 9223372036854775807) := hn
  clear i0 i1 i2 i3 i4 n1 n2 n3 m1 m2 hlr hrb hn
  obtain ⟨W0, hW0⟩ : ∃ W, (w.alloc (.cells (shCells s0 a0 N0 ca0 b0 n0 cb0) 25)).alloc (.cells (pkCells p1) 27) = W := ⟨_, rfl⟩
  have y0 : Sits W0 w.heap.size (shCells s0 a0 N0 ca0 b0 n0 cb0) 25 := by rw [← hW0]; exact (Sits.new _ _ _).alloc _
  have yP : Sits W0 (w.heap.size + 1) (pkCells p1) 27 := by rw [← hW0]; exact Sits.new' (by simp)
  have bb0 : Below w.heap.size w W0 := by rw [← hW0]; exact ((Below.refl _ w).alloc (Nat.le_refl _) _).alloc (by simp) _
  have HW0 : Hid ((w.alloc (.cells (shCells s0 a0 N0 ca0 b0 n0 cb0) 25)).alloc (.cells (pkCells p1) 27) = W0) := hW0
  have HA : Hid (∀ W, Below W0.heap.size W0 W → (Sits W w.heap.size (shCells s0 a0 N0 ca0 b0 n0 cb0) 25 ∧ Sits W (w.heap.size + 1) (pkCells p1) 27) ∧ Below w.heap.size w W) := fun W hW => ⟨⟨y0.below hW y0.lt, yP.below hW yP.lt⟩, bb0.trans (hW.mono bb0.size)⟩
  have x0 := y0.cell 0
  have x1 := y0.cell 1
  have x2 := y0.cell 2
  have x3 := y0.cell 3
  have x4 := y0.cell 4
  have x5 := y0.cell 5
  have x6 := y0.cell 6
  have hs0 : w.heap.size + 1 + 1 ≤ W0.heap.size := by have := yP.lt; omega
  clear y0 yP bb0 hW0
  go_enter Try.func3, Try.ntmps3
  go_upto_region 2 with fail
  rw [HW0.out]
  clear HW0
  have hb00 : Below w.heap.size w W0 := (HA.out _ (Below.refl _ _)).2
  go_upto_region 3 with (go_at_call 4; refine (szShape_any s0 a0 N0 ca0 b0 n0 cb0 L0 _ hN HNN.out hm (LR.go HLR.out hb00 hb00.size)).mono ?_; rintro e w1 ⟨⟨r, rfl, r0, r1, hr⟩, b1⟩; have HR : Hid (0 ≤ r → (N0 : Int) + (cntF L0 N0 : Int) + n0 ≤ 1048576) := hr; have HB1 : Hid (Below W0.heap.size W0 w1) := b1; clear hr b1)
  clear x0 x1 x2 x3 x4 x5 x6 hN hm HNN hb00
  by_cases hneg : r < 0
  · go_wp2
    go_ret
    exact ⟨rfl, (HA.out _ HB1.out).2⟩
  · have hsz := HR.out (by omega)
    have HC : Hid (cntF L0 N0 ≤ 1048576) := by show _ ≤ _; omega
    have H0 : Hid (N0 ≤ 1048576) := by show _ ≤ _; omega
    have H1 : Hid (n0 ≤ 1048576) := by show _ ≤ _; omega
    have HN : Hid (∀ i, i < N0 → (L0 i).n ≤ 1048576) := fun i hi => Nat.le_trans (cntF_le L0 hi) HC.out
    clear hsz HR
    obtain ⟨S1, hS1⟩ : ∃ v : Sh, spS s0 N0 L0 ((List.range n0).map tn0) p1 = v := ⟨_, rfl⟩
    obtain ⟨N1, hN1⟩ : ∃ v : Nat, spN s0 N0 L0 ((List.range n0).map tn0) p1 = v := ⟨_, rfl⟩
    obtain ⟨T1, hT1⟩ : ∃ v : List Int, spT s0 N0 L0 ((List.range n0).map tn0) p1 = v := ⟨_, rfl⟩
    obtain ⟨ok, hok⟩ : ∃ v : Bool, spB s0 N0 L0 ((List.range n0).map tn0) p1 = v := ⟨_, rfl⟩
    obtain ⟨L1, hL1⟩ : ∃ v : Nat → Ln, outL s0 L0 p1 = v := ⟨_, rfl⟩
    have HS : Hid (∀ (W : World) (B : Nat) (d : Option Addr), LR W.heap.size W (some ⟨B, 0, none⟩) N0 L0 → Row .i64 W d n0 tn0 → Calls Try.prog 5 #[shVal s0 (some ⟨B, 0, none⟩) N0 N0 d n0 n0, p1.val] W fun e w' => ∃ (x : Option Addr) (cl : Nat) (y : Option Addr) (cy : Nat), e = .returned (.tuple #[shVal S1 x N1 cl y T1.length cy, .bool ok]) ∧ MK0 W.heap.size w' x N1 L1 y T1.length (seq T1) ∧ Below W.heap.size W w') := fun W B d h1 h2 => by
      have := spush_law s0 (some ⟨B, 0, none⟩) N0 N0 d n0 n0 L0 tn0 p1 W H0.out HC.out H1.out h1 h2
      rw [hS1, hN1, hT1, hok, hL1] at this
      exact this
    have HI : Hid (∀ (W : World) (B : Nat) (d : Option Addr), LR W.heap.size W (some ⟨B, 0, none⟩) N0 L0 → Row .i64 W d n0 tn0 → Calls Try.prog 8 #[shVal s0 (some ⟨B, 0, none⟩) N0 N0 d n0 n0, p1.val] W fun e w' => ∃ (x : Option Addr) (cl : Nat) (y : Option Addr) (cy : Nat), e = .returned (.tuple #[shVal S1 x N1 cl y T1.length cy, .bool ok]) ∧ MK0 W.heap.size w' x N1 L1 y T1.length (seq T1) ∧ Below W.heap.size W w') := fun W B d h1 h2 => by
      have := ipush_law s0 (some ⟨B, 0, none⟩) N0 N0 d n0 n0 L0 tn0 p1 W H0.out HC.out H1.out h1 h2
      rw [hS1, hN1, hT1, hok, hL1] at this
      exact this
    have hbd := sp_bd s0 N0 L0 n0 tn0 p1
    rw [hN1, hT1, hL1] at hbd
    have HN1 : Hid (N1 ≤ 1048576) := by show _ ≤ _; omega
    have HC1 : Hid (cntF L1 N1 ≤ 1048576) := hbd.2.1
    have HT1 : Hid (T1.length ≤ 1048576) := hbd.2.2
    have HL1 : Hid (∀ i, i < N1 → (L1 i).n ≤ 1048576) := fun i hi => Nat.le_trans (cntF_le L1 hi) HC1.out
    obtain ⟨Q0, hQ0⟩ : ∃ q, upAt L0 1 N0 + (n0 : Int) = q := ⟨_, rfl⟩
    obtain ⟨Q1, hQ1⟩ : ∃ q, upAt L1 1 N1 + (T1.length : Int) = q := ⟨_, rfl⟩
    have hq0 : ¬ Q0 < 0 := by rw [← hQ0]; unfold upAt; omega
    have hq1 : ¬ Q1 < 0 := by rw [← hQ1]; unfold upAt; omega
    have HQ0 : Hid (upAt L0 1 N0 + (n0 : Int) = Q0) := hQ0
    have HQ1 : Hid (upAt L1 1 N1 + (T1.length : Int) = Q1) := hQ1
    clear hS1 hN1 hT1 hok hL1 hbd hQ0 hQ1
    go_upto_region 5 with fail
    have hlt1 : w.heap.size + 1 < w1.heap.size := by have := (HB1.out).size; omega
    have hSB : ∀ W, Below w1.heap.size w1 W → (fun w' => ((w'.cell? ⟨w.heap.size, 0, none⟩ = some (.int .i64 s0.rt) ∧ w'.cell? ⟨w.heap.size, 1, none⟩ = some (.int .i64 s0.ov) ∧ w'.cell? ⟨w.heap.size, 2, none⟩ = some (.int .i64 s0.nx) ∧ w'.cell? ⟨w.heap.size, 3, none⟩ = some (.int .i64 s0.qt) ∧ w'.cell? ⟨w.heap.size, 4, none⟩ = some (.int .i64 s0.lim) ∧ w'.cell? ⟨w.heap.size, 5, none⟩ = some (.slice a0 N0 ca0) ∧ w'.cell? ⟨w.heap.size, 6, none⟩ = some (.slice b0 n0 cb0)) ∧ (w'.cell? ⟨w.heap.size + 1, 0, none⟩ = some (.int .i64 p1.id) ∧ w'.cell? ⟨w.heap.size + 1, 1, none⟩ = some (.int .i64 p1.flow) ∧ w'.cell? ⟨w.heap.size + 1, 2, none⟩ = some (.int .i64 p1.host) ∧ w'.cell? ⟨w.heap.size + 1, 3, none⟩ = some (.int .i64 p1.size) ∧ w'.cell? ⟨w.heap.size + 1, 4, none⟩ = some (.int .i64 p1.tm) ∧ w'.cell? ⟨w.heap.size + 1, 5, none⟩ = some (.int .i64 p1.ecn)))) W := fun W hW => by
      obtain ⟨⟨e1, e2⟩, _⟩ := HA.out _ ((HB1.out).trans (hW.mono (HB1.out).size))
      exact ⟨⟨e1.cell 0, e1.cell 1, e1.cell 2, e1.cell 3, e1.cell 4, e1.cell 5, e1.cell 6⟩, ⟨e2.cell 0, e2.cell 1, e2.cell 2, e2.cell 3, e2.cell 4, e2.cell 5⟩⟩
    have hBS : ∀ W, Below w1.heap.size w1 W → Below w.heap.size w W := fun W hW => (HA.out _ ((HB1.out).trans (hW.mono (HB1.out).size))).2
    go_cut [6, 7] from 16 (fun s6 s7 wx => ∃ (V : Nat) (x : Option Addr) (cl : Nat) (y : Option Addr) (cy : Nat), s6 = .pointer (some ⟨V, 0, none⟩) ∧ s7 = .bool ok ∧ Sits wx V (shCells S1 x N1 cl y T1.length cy) 31 ∧ w1.heap.size ≤ V ∧ MK0 w1.heap.size wx x N1 L1 y T1.length (seq T1) ∧ Below w1.heap.size w1 wx)
    case first =>
      set_option maxRecDepth 100000 in go_region_held3 (fun w' => ((w'.cell? ⟨w.heap.size, 0, none⟩ = some (.int .i64 s0.rt) ∧ w'.cell? ⟨w.heap.size, 1, none⟩ = some (.int .i64 s0.ov) ∧ w'.cell? ⟨w.heap.size, 2, none⟩ = some (.int .i64 s0.nx) ∧ w'.cell? ⟨w.heap.size, 3, none⟩ = some (.int .i64 s0.qt) ∧ w'.cell? ⟨w.heap.size, 4, none⟩ = some (.int .i64 s0.lim) ∧ w'.cell? ⟨w.heap.size, 5, none⟩ = some (.slice a0 N0 ca0) ∧ w'.cell? ⟨w.heap.size, 6, none⟩ = some (.slice b0 n0 cb0)) ∧ (w'.cell? ⟨w.heap.size + 1, 0, none⟩ = some (.int .i64 p1.id) ∧ w'.cell? ⟨w.heap.size + 1, 1, none⟩ = some (.int .i64 p1.flow) ∧ w'.cell? ⟨w.heap.size + 1, 2, none⟩ = some (.int .i64 p1.host) ∧ w'.cell? ⟨w.heap.size + 1, 3, none⟩ = some (.int .i64 p1.size) ∧ w'.cell? ⟨w.heap.size + 1, 4, none⟩ = some (.int .i64 p1.tm) ∧ w'.cell? ⟨w.heap.size + 1, 5, none⟩ = some (.int .i64 p1.ecn)))) (first | exact hSB _ (by (repeat first | (with_reducible exact Below.refl _ _) | (with_reducible assumption) | (with_reducible apply Below.drew) | (with_reducible refine Below.setCell ?_ (by first | omega | (simp; done) | (simp; omega)) _) | (with_reducible refine Below.alloc ?_ (by first | omega | (simp; done) | (simp; omega)) _))) | fail)
        (first | (go_at_call 6; refine (toShape_any s0 a0 N0 ca0 b0 n0 cb0 L0 tn0 _ H0.out HN.out H1.out (LR.go HLR.out (hBS _ (by (repeat first | (with_reducible exact Below.refl _ _) | (with_reducible assumption) | (with_reducible apply Below.drew) | (with_reducible refine Below.setCell ?_ (by first | omega | (simp; done) | (simp; omega)) _) | (with_reducible refine Below.alloc ?_ (by first | omega | (simp; done) | (simp; omega)) _)))) (hBS _ (by (repeat first | (with_reducible exact Below.refl _ _) | (with_reducible assumption) | (with_reducible apply Below.drew) | (with_reducible refine Below.setCell ?_ (by first | omega | (simp; done) | (simp; omega)) _) | (with_reducible refine Below.alloc ?_ (by first | omega | (simp; done) | (simp; omega)) _)))).size) (Row.below HRB.out (hBS _ (by (repeat first | (with_reducible exact Below.refl _ _) | (with_reducible assumption) | (with_reducible apply Below.drew) | (with_reducible refine Below.setCell ?_ (by first | omega | (simp; done) | (simp; omega)) _) | (with_reducible refine Below.alloc ?_ (by first | omega | (simp; done) | (simp; omega)) _)))))).mono ?_; rintro o v2 ⟨B2, A2, d2, rfl, so2, b7⟩; have hb2 : Below w1.heap.size w1 v2 := Below.trans (by (repeat first | (with_reducible exact Below.refl _ _) | (with_reducible assumption) | (with_reducible apply Below.drew) | (with_reducible refine Below.setCell ?_ (by first | omega | (simp; done) | (simp; omega)) _) | (with_reducible refine Below.alloc ?_ (by first | omega | (simp; done) | (simp; omega)) _))) (b7.mono (by first | omega | (simp; done) | (simp; omega))); have hs2 := b7.size; (try simp at hs2)) | (go_at_call 7; refine (toPkt_any p1 _).mono ?_; rintro o v3 ⟨rfl, k3⟩; have hb3 : Below w1.heap.size w1 v3 := Below.trans (by (repeat first | (with_reducible exact Below.refl _ _) | (with_reducible assumption) | (with_reducible apply Below.drew) | (with_reducible refine Below.setCell ?_ (by first | omega | (simp; done) | (simp; omega)) _) | (with_reducible refine Below.alloc ?_ (by first | omega | (simp; done) | (simp; omega)) _))) (k3.1.mono (by first | omega | (simp; done) | (simp; omega))); have hb23 : Below v2.heap.size v2 v3 := Below.trans (by (repeat first | (with_reducible exact Below.refl _ _) | (with_reducible assumption) | (with_reducible apply Below.drew) | (with_reducible refine Below.setCell ?_ (by first | omega | (simp; done) | (simp; omega)) _) | (with_reducible refine Below.alloc ?_ (by first | omega | (simp; done) | (simp; omega)) _))) (k3.1.mono (by first | omega | (simp; done) | (simp; omega))); have hs3 := k3.1.size; (try simp at hs3)) | (go_at_call 5; refine (HS.out _ B2 d2 (SO.below so2 (by (repeat first | (with_reducible exact Below.refl _ _) | (with_reducible assumption) | (with_reducible apply Below.drew) | (with_reducible refine Below.setCell ?_ (by first | omega | (simp; done) | (simp; omega)) _) | (with_reducible refine Below.alloc ?_ (by first | omega | (simp; done) | (simp; omega)) _)))).1.lr (SO.below so2 (by (repeat first | (with_reducible exact Below.refl _ _) | (with_reducible assumption) | (with_reducible apply Below.drew) | (with_reducible refine Below.setCell ?_ (by first | omega | (simp; done) | (simp; omega)) _) | (with_reducible refine Below.alloc ?_ (by first | omega | (simp; done) | (simp; omega)) _)))).row).mono ?_; rintro o v4 ⟨x4, c4, y4, cy4, rfl, mk4, b8⟩; have hb4 : Below w1.heap.size w1 v4 := Below.trans (by (repeat first | (with_reducible exact Below.refl _ _) | (with_reducible assumption) | (with_reducible apply Below.drew) | (with_reducible refine Below.setCell ?_ (by first | omega | (simp; done) | (simp; omega)) _) | (with_reducible refine Below.alloc ?_ (by first | omega | (simp; done) | (simp; omega)) _))) (b8.mono (by first | omega | (simp; done) | (simp; omega))); have hs4 := b8.size; (try simp at hs4); have mk5 : MK0 w1.heap.size v4 x4 N1 L1 y4 T1.length (seq T1) := mk4.mono (by first | omega | (simp; done) | (simp; omega)); (first | (have vz := vz_sits (vz_sits (vz_sits (Sits.new w1 shZero 31) b7 rfl).1 k3.1 rfl).1 b8 rfl; have z0 := vz.1.cell 0; have z1 := vz.1.cell 1; have z2 := vz.1.cell 2; have z3 := vz.1.cell 3; have z4 := vz.1.cell 4; have z5 := vz.1.cell 5; have z6 := vz.1.cell 6; have fz := vz.1.frozen) | (have vz := vz_sits (vz_sits (Sits.new v2 shZero 31) k3.1 rfl).1 b8 rfl; have z0 := vz.1.cell 0; have z1 := vz.1.cell 1; have z2 := vz.1.cell 2; have z3 := vz.1.cell 3; have z4 := vz.1.cell 4; have z5 := vz.1.cell 5; have z6 := vz.1.cell 6; have fz := vz.1.frozen) | (have vz := vz_sits (Sits.new v3 shZero 31) b8 rfl; have z0 := vz.1.cell 0; have z1 := vz.1.cell 1; have z2 := vz.1.cell 2; have z3 := vz.1.cell 3; have z4 := vz.1.cell 4; have z5 := vz.1.cell 5; have z6 := vz.1.cell 6; have fz := vz.1.frozen) | skip)))
      all_goals go_wp2_with fail
      all_goals go_meet
      all_goals first | (with_reducible exact cl_new hb4 mk5) | exact cl_put hb4 vz mk4 (Nat.le_refl _) | exact cl_put hb4 vz mk4 hb2.size | exact cl_put hb4 vz mk4 hb3.size
    case rest =>
      obtain ⟨V6, x6, c6, y6, d6, rfl, rfl, sw, hV6, mw, b5⟩ := hcut
      obtain ⟨u5, rfl⟩ : ∃ W, W = wc := ⟨wc, rfl⟩
      have hV6' : V6 < u5.heap.size := sw.lt
      have HX : Hid (Below W0.heap.size W0 u5) := (HB1.out).trans (b5.mono (HB1.out).size)
      have HWb : Hid (Sits u5 V6 (shCells S1 x6 N1 c6 y6 T1.length d6) 31) := sw
      have HWm : Hid (MU w1.heap.size u5.heap.size u5 x6 N1 L1 y6 T1.length (seq T1)) := MU.of mw
      have hz5 : W0.heap.size ≤ u5.heap.size := (HX.out).size
      clear sw mw b5 hSB hBS hlt1 HB1
      have hbw : Below w.heap.size w u5 := (HA.out _ HX.out).2
      have sa := (HA.out _ HX.out).1.1
      have f0 := sa.cell 0
      have f1 := sa.cell 1
      have f2 := sa.cell 2
      have f3 := sa.cell 3
      have f4 := sa.cell 4
      have f5 := sa.cell 5
      have f6 := sa.cell 6
      go_upto_region 7 with (go_at_call 6; refine (toShape_any s0 a0 N0 ca0 b0 n0 cb0 L0 tn0 _ H0.out HN.out H1.out (LR.go HLR.out hbw hbw.size) (Row.below HRB.out hbw)).mono ?_; rintro o w4 ⟨B4, A4, d4, rfl, fo4, b4⟩; have HSO : Hid (SO u5.heap.size w4 B4 A4 (fun i => (L0 i).n) N0 L0 d4 n0 tn0) := fo4; have hz4 := b4.size; replace HX : Hid (Below W0.heap.size W0 w4) := (HX.out).trans (b4.mono (HX.out).size); replace HWb : Hid (Sits w4 V6 (shCells S1 x6 N1 c6 y6 T1.length d6) 31) := Sits.below HWb.out b4 (Sits.lt HWb.out); replace HWm : Hid (MU w1.heap.size u5.heap.size w4 x6 N1 L1 y6 T1.length (seq T1)) := MU.below HWm.out b4; clear fo4 b4)
      clear sa hbw
      clear f0 f1 f2 f3 f4 f5 f6
      obtain ⟨V4, hV4⟩ : ∃ V, w4.heap.size = V := ⟨_, rfl⟩
      obtain ⟨wb, hAl⟩ : ∃ x, w4.alloc (.cells (shCells s0 (some ⟨B4, 0, none⟩) N0 N0 d4 n0 n0) 31) = x := ⟨_, rfl⟩
      have gg : Sits wb V4 (shCells s0 (some ⟨B4, 0, none⟩) N0 N0 d4 n0 n0) 31 := by rw [← hAl]; exact Sits.new' hV4
      have b4a : Below w4.heap.size w4 wb := by rw [← hAl]; exact (Below.refl _ _).alloc (Nat.le_refl _) _
      have mx : MU u5.heap.size w4.heap.size wb (some ⟨B4, 0, none⟩) N0 L0 d4 n0 tn0 := MU.below (MU.of (MK0.of_so HSO.out)) b4a
      rw [hV4] at mx hz4
      have hz4b : V4 < wb.heap.size := gg.lt
      rw [hAl, hV4]
      have _hc := 0; replace HX : Hid (Below W0.heap.size W0 wb) := (HX.out).trans (b4a.mono (HX.out).size); replace HWb : Hid (Sits wb V6 (shCells S1 x6 N1 c6 y6 T1.length d6) 31) := Sits.below HWb.out b4a (Sits.lt HWb.out); replace HWm : Hid (MU w1.heap.size u5.heap.size wb x6 N1 L1 y6 T1.length (seq T1)) := MU.below HWm.out b4a
      have HXb : Hid (Sits wb V4 (shCells s0 (some ⟨B4, 0, none⟩) N0 N0 d4 n0 n0) 31) := gg
      have HXm : Hid (MU u5.heap.size V4 wb (some ⟨B4, 0, none⟩) N0 L0 d4 n0 tn0) := mx
      clear gg mx b4a hAl hV4 HSO _hc
      have hSB : ∀ W, Below wb.heap.size wb W → (fun w' => ((w'.cell? ⟨V4, 0, none⟩ = some (.int .i64 s0.rt) ∧ w'.cell? ⟨V4, 1, none⟩ = some (.int .i64 s0.ov) ∧ w'.cell? ⟨V4, 2, none⟩ = some (.int .i64 s0.nx) ∧ w'.cell? ⟨V4, 3, none⟩ = some (.int .i64 s0.qt) ∧ w'.cell? ⟨V4, 4, none⟩ = some (.int .i64 s0.lim) ∧ w'.cell? ⟨V4, 5, none⟩ = some (.slice (some ⟨B4, 0, none⟩) N0 N0) ∧ w'.cell? ⟨V4, 6, none⟩ = some (.slice d4 n0 n0)) ∧ (w'.cell? ⟨w.heap.size + 1, 0, none⟩ = some (.int .i64 p1.id) ∧ w'.cell? ⟨w.heap.size + 1, 1, none⟩ = some (.int .i64 p1.flow) ∧ w'.cell? ⟨w.heap.size + 1, 2, none⟩ = some (.int .i64 p1.host) ∧ w'.cell? ⟨w.heap.size + 1, 3, none⟩ = some (.int .i64 p1.size) ∧ w'.cell? ⟨w.heap.size + 1, 4, none⟩ = some (.int .i64 p1.tm) ∧ w'.cell? ⟨w.heap.size + 1, 5, none⟩ = some (.int .i64 p1.ecn)))) W := fun W hW => by
        obtain ⟨⟨_, e2⟩, _⟩ := HA.out _ ((HX.out).trans (hW.mono (HX.out).size))
        have e1 := Sits.below HXb.out hW (Sits.lt HXb.out)
        exact ⟨⟨e1.cell 0, e1.cell 1, e1.cell 2, e1.cell 3, e1.cell 4, e1.cell 5, e1.cell 6⟩, ⟨e2.cell 0, e2.cell 1, e2.cell 2, e2.cell 3, e2.cell 4, e2.cell 5⟩⟩
      go_cut [9, 10] from 16 (fun s6 s7 wx => ∃ (V0 : Nat) (x : Option Addr) (cl : Nat) (y : Option Addr) (cy : Nat), s6 = .pointer (some ⟨V0, 0, none⟩) ∧ s7 = .bool ok ∧ Sits wx V0 (shCells S1 x N1 cl y T1.length cy) 31 ∧ wb.heap.size ≤ V0 ∧ (∃ lo up : Nat, wb.heap.size ≤ lo ∧ (V0 < lo ∨ up ≤ V0) ∧ MU lo up wx x N1 L1 y T1.length (seq T1)) ∧ Below wb.heap.size wb wx)
      case first =>
        set_option maxRecDepth 100000 in go_region_held3 (fun w' => ((w'.cell? ⟨V4, 0, none⟩ = some (.int .i64 s0.rt) ∧ w'.cell? ⟨V4, 1, none⟩ = some (.int .i64 s0.ov) ∧ w'.cell? ⟨V4, 2, none⟩ = some (.int .i64 s0.nx) ∧ w'.cell? ⟨V4, 3, none⟩ = some (.int .i64 s0.qt) ∧ w'.cell? ⟨V4, 4, none⟩ = some (.int .i64 s0.lim) ∧ w'.cell? ⟨V4, 5, none⟩ = some (.slice (some ⟨B4, 0, none⟩) N0 N0) ∧ w'.cell? ⟨V4, 6, none⟩ = some (.slice d4 n0 n0)) ∧ (w'.cell? ⟨w.heap.size + 1, 0, none⟩ = some (.int .i64 p1.id) ∧ w'.cell? ⟨w.heap.size + 1, 1, none⟩ = some (.int .i64 p1.flow) ∧ w'.cell? ⟨w.heap.size + 1, 2, none⟩ = some (.int .i64 p1.host) ∧ w'.cell? ⟨w.heap.size + 1, 3, none⟩ = some (.int .i64 p1.size) ∧ w'.cell? ⟨w.heap.size + 1, 4, none⟩ = some (.int .i64 p1.tm) ∧ w'.cell? ⟨w.heap.size + 1, 5, none⟩ = some (.int .i64 p1.ecn)))) (first | exact hSB _ (by (repeat first | (with_reducible exact Below.refl _ _) | (with_reducible assumption) | (with_reducible apply Below.drew) | (with_reducible refine Below.setCell ?_ (by first | omega | (simp; done) | (simp; omega)) _) | (with_reducible refine Below.alloc ?_ (by first | omega | (simp; done) | (simp; omega)) _))) | fail)
          (first | (go_at_call 7; refine (toPkt_any p1 _).mono ?_; rintro o v3 ⟨rfl, k3⟩; have hb3 : Below wb.heap.size wb v3 := Below.trans (by (repeat first | (with_reducible exact Below.refl _ _) | (with_reducible assumption) | (with_reducible apply Below.drew) | (with_reducible refine Below.setCell ?_ (by first | omega | (simp; done) | (simp; omega)) _) | (with_reducible refine Below.alloc ?_ (by first | omega | (simp; done) | (simp; omega)) _))) (k3.1.mono (by first | omega | (simp; done) | (simp; omega))); have hs3 := k3.1.size; (try simp at hs3)) | (go_at_call 8; refine (HI.out _ B4 d4 (MU.mk0 (MU.below HXm.out (by (repeat first | (with_reducible exact Below.refl _ _) | (with_reducible assumption) | (with_reducible apply Below.drew) | (with_reducible refine Below.setCell ?_ (by first | omega | (simp; done) | (simp; omega)) _) | (with_reducible refine Below.alloc ?_ (by first | omega | (simp; done) | (simp; omega)) _))))).lr (MU.mk0 (MU.below HXm.out (by (repeat first | (with_reducible exact Below.refl _ _) | (with_reducible assumption) | (with_reducible apply Below.drew) | (with_reducible refine Below.setCell ?_ (by first | omega | (simp; done) | (simp; omega)) _) | (with_reducible refine Below.alloc ?_ (by first | omega | (simp; done) | (simp; omega)) _))))).row).mono ?_; rintro o v4 ⟨x4, c4, y4, cy4, rfl, mk4, b8⟩; have hb4 : Below wb.heap.size wb v4 := Below.trans (by (repeat first | (with_reducible exact Below.refl _ _) | (with_reducible assumption) | (with_reducible apply Below.drew) | (with_reducible refine Below.setCell ?_ (by first | omega | (simp; done) | (simp; omega)) _) | (with_reducible refine Below.alloc ?_ (by first | omega | (simp; done) | (simp; omega)) _))) (b8.mono (by first | omega | (simp; done) | (simp; omega))); have hs4 := b8.size; (try simp at hs4); have mk5 : MK0 wb.heap.size v4 x4 N1 L1 y4 T1.length (seq T1) := mk4.mono (by first | omega | (simp; done) | (simp; omega)); (first | (have vz := vz_sits (vz_sits (Sits.new wb shZero 31) k3.1 rfl).1 b8 rfl; have z0 := vz.1.cell 0; have z1 := vz.1.cell 1; have z2 := vz.1.cell 2; have z3 := vz.1.cell 3; have z4 := vz.1.cell 4; have z5 := vz.1.cell 5; have z6 := vz.1.cell 6; have fz := vz.1.frozen) | (have vz := vz_sits (Sits.new v3 shZero 31) b8 rfl; have z0 := vz.1.cell 0; have z1 := vz.1.cell 1; have z2 := vz.1.cell 2; have z3 := vz.1.cell 3; have z4 := vz.1.cell 4; have z5 := vz.1.cell 5; have z6 := vz.1.cell 6; have fz := vz.1.frozen) | skip)))
        all_goals go_wp2_with fail
        all_goals go_meet
        all_goals first | (with_reducible exact cm_new hb4 mk5) | exact cm_put hb4 vz mk4 (Nat.le_refl _) | exact cm_put hb4 vz mk4 hb3.size
      case rest =>
        obtain ⟨V9, x9, c9, y9, d9, rfl, rfl, sg, hV9, ⟨lo, up, hlo, hside, mg⟩, b7⟩ := hcut
        obtain ⟨u7, rfl⟩ : ∃ W, W = wc := ⟨wc, rfl⟩
        have hz7 := b7.size; replace HX : Hid (Below W0.heap.size W0 u7) := (HX.out).trans (b7.mono (HX.out).size); replace HWb : Hid (Sits u7 V6 (shCells S1 x6 N1 c6 y6 T1.length d6) 31) := Sits.below HWb.out b7 (Sits.lt HWb.out); replace HWm : Hid (MU w1.heap.size u5.heap.size u7 x6 N1 L1 y6 T1.length (seq T1)) := MU.below HWm.out b7; replace HXb : Hid (Sits u7 V4 (shCells s0 (some ⟨B4, 0, none⟩) N0 N0 d4 n0 n0) 31) := Sits.below HXb.out b7 (Sits.lt HXb.out); replace HXm : Hid (MU u5.heap.size V4 u7 (some ⟨B4, 0, none⟩) N0 L0 d4 n0 tn0) := MU.below HXm.out b7
        have HGb : Hid (Sits u7 V9 (shCells S1 x9 N1 c9 y9 T1.length d9) 31) := sg
        have HGm : Hid (MU lo up u7 x9 N1 L1 y9 T1.length (seq T1)) := mg
        clear sg mg b7 hSB
        cases ok
        case false =>
          have g0 := Sits.cell HGb.out 0
          have g1 := Sits.cell HGb.out 1
          have g2 := Sits.cell HGb.out 2
          have g3 := Sits.cell HGb.out 3
          have g4 := Sits.cell HGb.out 4
          have g5 := Sits.cell HGb.out 5
          have g6 := Sits.cell HGb.out 6
          have h0 := Sits.cell HWb.out 0
          have h1 := Sits.cell HWb.out 1
          have h2 := Sits.cell HWb.out 2
          have h3 := Sits.cell HWb.out 3
          have h4 := Sits.cell HWb.out 4
          have h5 := Sits.cell HWb.out 5
          have h6 := Sits.cell HWb.out 6
          go_upto_region 10 with (go_at_call 9; refine (eqShape_yes S1 x9 x6 N1 c9 c6 y9 y6 T1.length d9 d6 L1 (seq T1) _ HN1.out HL1.out HT1.out (MU.mk0 HGm.out).lr (MU.mk0 HWm.out).lr (MU.mk0 HGm.out).row (MU.mk0 HWm.out).row).mono ?_; rintro o u8 ⟨rfl, bq⟩; have hzq := bq.size; replace HX : Hid (Below W0.heap.size W0 u8) := (HX.out).trans (bq.mono (HX.out).size); replace HWb : Hid (Sits u8 V6 (shCells S1 x6 N1 c6 y6 T1.length d6) 31) := Sits.below HWb.out bq (Sits.lt HWb.out); replace HWm : Hid (MU w1.heap.size u5.heap.size u8 x6 N1 L1 y6 T1.length (seq T1)) := MU.below HWm.out bq; replace HXb : Hid (Sits u8 V4 (shCells s0 (some ⟨B4, 0, none⟩) N0 N0 d4 n0 n0) 31) := Sits.below HXb.out bq (Sits.lt HXb.out); replace HXm : Hid (MU u5.heap.size V4 u8 (some ⟨B4, 0, none⟩) N0 L0 d4 n0 tn0) := MU.below HXm.out bq; replace HGb : Hid (Sits u8 V9 (shCells S1 x9 N1 c9 y9 T1.length d9) 31) := Sits.below HGb.out bq (Sits.lt HGb.out); replace HGm : Hid (MU lo up u8 x9 N1 L1 y9 T1.length (seq T1)) := MU.below HGm.out bq; clear bq hzq)
          clear g0 g1 g2 g3 g4 g5 g6 h0 h1 h2 h3 h4 h5 h6
          have hSB : Hid (∀ w', Below u8.heap.size u8 w' → ((w'.cell? ⟨V4, 0, none⟩ = some (.int .i64 s0.rt) ∧ w'.cell? ⟨V4, 1, none⟩ = some (.int .i64 s0.ov) ∧ w'.cell? ⟨V4, 2, none⟩ = some (.int .i64 s0.nx) ∧ w'.cell? ⟨V4, 3, none⟩ = some (.int .i64 s0.qt) ∧ w'.cell? ⟨V4, 4, none⟩ = some (.int .i64 s0.lim) ∧ w'.cell? ⟨V4, 5, none⟩ = some (.slice (some ⟨B4, 0, none⟩) N0 N0) ∧ w'.cell? ⟨V4, 6, none⟩ = some (.slice d4 n0 n0)) ∧ (w'.cell? ⟨w.heap.size, 0, none⟩ = some (.int .i64 s0.rt) ∧ w'.cell? ⟨w.heap.size, 1, none⟩ = some (.int .i64 s0.ov) ∧ w'.cell? ⟨w.heap.size, 2, none⟩ = some (.int .i64 s0.nx) ∧ w'.cell? ⟨w.heap.size, 3, none⟩ = some (.int .i64 s0.qt) ∧ w'.cell? ⟨w.heap.size, 4, none⟩ = some (.int .i64 s0.lim) ∧ w'.cell? ⟨w.heap.size, 5, none⟩ = some (.slice a0 N0 ca0) ∧ w'.cell? ⟨w.heap.size, 6, none⟩ = some (.slice b0 n0 cb0)))) := fun w' hw' => by
            have e1 := Sits.below HXb.out hw' (Sits.lt HXb.out)
            obtain ⟨⟨e2, _⟩, _⟩ := HA.out _ ((HX.out).trans (hw'.mono (HX.out).size))
            exact ⟨⟨e1.cell 0, e1.cell 1, e1.cell 2, e1.cell 3, e1.cell 4, e1.cell 5, e1.cell 6⟩, ⟨e2.cell 0, e2.cell 1, e2.cell 2, e2.cell 3, e2.cell 4, e2.cell 5, e2.cell 6⟩⟩
          have BD : Below w.heap.size w u8.drew := ((HA.out _ HX.out).2).drew
          have HMD : Hid (MU u5.heap.size V4 u8.drew (some ⟨B4, 0, none⟩) N0 L0 d4 n0 tn0) := MU.below HXm.out ((Below.refl _ _).drew)
          set_option maxRecDepth 100000 in go_region_held3 (fun w' => ((w'.cell? ⟨V4, 0, none⟩ = some (.int .i64 s0.rt) ∧ w'.cell? ⟨V4, 1, none⟩ = some (.int .i64 s0.ov) ∧ w'.cell? ⟨V4, 2, none⟩ = some (.int .i64 s0.nx) ∧ w'.cell? ⟨V4, 3, none⟩ = some (.int .i64 s0.qt) ∧ w'.cell? ⟨V4, 4, none⟩ = some (.int .i64 s0.lim) ∧ w'.cell? ⟨V4, 5, none⟩ = some (.slice (some ⟨B4, 0, none⟩) N0 N0) ∧ w'.cell? ⟨V4, 6, none⟩ = some (.slice d4 n0 n0)) ∧ (w'.cell? ⟨w.heap.size, 0, none⟩ = some (.int .i64 s0.rt) ∧ w'.cell? ⟨w.heap.size, 1, none⟩ = some (.int .i64 s0.ov) ∧ w'.cell? ⟨w.heap.size, 2, none⟩ = some (.int .i64 s0.nx) ∧ w'.cell? ⟨w.heap.size, 3, none⟩ = some (.int .i64 s0.qt) ∧ w'.cell? ⟨w.heap.size, 4, none⟩ = some (.int .i64 s0.lim) ∧ w'.cell? ⟨w.heap.size, 5, none⟩ = some (.slice a0 N0 ca0) ∧ w'.cell? ⟨w.heap.size, 6, none⟩ = some (.slice b0 n0 cb0)))) (first | exact hSB.out _ ((Below.refl _ _).drew) | exact hSB.out _ ((Below.refl _ u8).drew.trans b7) | exact hSB.out _ (((Below.refl _ u8).drew.trans b7).trans (b8.mono b7.size))) (first | (go_at_call 6; refine (toShape_any s0 a0 N0 ca0 b0 n0 cb0 L0 tn0 _ H0.out HN.out H1.out (LR.go HLR.out BD (BD).size) (Row.below HRB.out BD)).mono ?_; rintro o w7 ⟨B7, A7, d7, rfl, so7, b7⟩) | (go_at_call 9; refine (eqShape_yes s0 (some ⟨B4, 0, none⟩) (some ⟨B7, 0, none⟩) N0 N0 N0 d4 d7 n0 n0 n0 L0 tn0 _ H0.out HN.out H1.out (MU.mk0 (MU.below HMD.out b7)).lr (MK0.lr (MK0.of_so so7)) (MU.mk0 (MU.below HMD.out b7)).row so7.row).mono ?_; rintro o w8 ⟨rfl, b8⟩))
          have bq : Below u8.heap.size u8 w8 := ((Below.refl _ u8).drew.trans b7).trans (b8.mono b7.size)
          have _hc := 0; replace HX : Hid (Below W0.heap.size W0 w8) := (HX.out).trans (bq.mono (HX.out).size); replace HWb : Hid (Sits w8 V6 (shCells S1 x6 N1 c6 y6 T1.length d6) 31) := Sits.below HWb.out bq (Sits.lt HWb.out); replace HWm : Hid (MU w1.heap.size u5.heap.size w8 x6 N1 L1 y6 T1.length (seq T1)) := MU.below HWm.out bq; replace HXb : Hid (Sits w8 V4 (shCells s0 (some ⟨B4, 0, none⟩) N0 N0 d4 n0 n0) 31) := Sits.below HXb.out bq (Sits.lt HXb.out); replace HXm : Hid (MU u5.heap.size V4 w8 (some ⟨B4, 0, none⟩) N0 L0 d4 n0 tn0) := MU.below HXm.out bq; replace HGb : Hid (Sits w8 V9 (shCells S1 x9 N1 c9 y9 T1.length d9) 31) := Sits.below HGb.out bq (Sits.lt HGb.out); replace HGm : Hid (MU lo up w8 x9 N1 L1 y9 T1.length (seq T1)) := MU.below HGm.out bq
          clear bq b7 b8 so7 hSB BD HMD _hc
          go_upto_region 13 with fail
          have g0 := Sits.cell HXb.out 0
          have g1 := Sits.cell HXb.out 1
          have g2 := Sits.cell HXb.out 2
          have g3 := Sits.cell HXb.out 3
          have g4 := Sits.cell HXb.out 4
          have g5 := Sits.cell HXb.out 5
          have g6 := Sits.cell HXb.out 6
          go_upto_region 14 with (go_at_call 10; refine (markShape_mu u5.heap.size V4 s0 (some ⟨B4, 0, none⟩) N0 N0 d4 n0 n0 L0 tn0 1 _ HXm.out H0.out HC.out H1.out (by omega) (by omega)).mono ?_; rintro o w9 ⟨rfl, mm, cc⟩; rw [HQ0.out]; replace HX : Hid (Below W0.heap.size W0 w9) := Chg.bel cc HX.out hz5; replace HWb : Hid (Sits w9 V6 (shCells S1 x6 N1 c6 y6 T1.length d6) 31) := Sits.chg HWb.out cc (.inl hV6'); replace HWm : Hid (MU w1.heap.size u5.heap.size w9 x6 N1 L1 y6 T1.length (seq T1)) := MU.chg HWm.out cc (.inr (Nat.le_refl _)); replace HXb : Hid (Sits w9 V4 (shCells s0 (some ⟨B4, 0, none⟩) N0 N0 d4 n0 n0) 31) := Sits.chg HXb.out cc (.inr (Nat.le_refl _)); replace HGb : Hid (Sits w9 V9 (shCells S1 x9 N1 c9 y9 T1.length d9) 31) := Sits.chg HGb.out cc (.inr (by omega)); replace HGm : Hid (MU lo up w9 x9 N1 L1 y9 T1.length (seq T1)) := MU.chg HGm.out cc (.inl (by omega)); clear mm cc)
          clear g0 g1 g2 g3 g4 g5 g6
          clear HXm HXb
          have g0 := Sits.cell HGb.out 0
          have g1 := Sits.cell HGb.out 1
          have g2 := Sits.cell HGb.out 2
          have g3 := Sits.cell HGb.out 3
          have g4 := Sits.cell HGb.out 4
          have g5 := Sits.cell HGb.out 5
          have g6 := Sits.cell HGb.out 6
          have h0 := Sits.cell HWb.out 0
          have h1 := Sits.cell HWb.out 1
          have h2 := Sits.cell HWb.out 2
          have h3 := Sits.cell HWb.out 3
          have h4 := Sits.cell HWb.out 4
          have h5 := Sits.cell HWb.out 5
          have h6 := Sits.cell HWb.out 6
          go_upto_region 17 with (go_at_call 9; refine (eqShape_yes S1 x9 x6 N1 c9 c6 y9 y6 T1.length d9 d6 L1 (seq T1) _ HN1.out HL1.out HT1.out (MU.mk0 HGm.out).lr (MU.mk0 HWm.out).lr (MU.mk0 HGm.out).row (MU.mk0 HWm.out).row).mono ?_; rintro o u9 ⟨rfl, bq⟩; have hzq := bq.size; replace HX : Hid (Below W0.heap.size W0 u9) := (HX.out).trans (bq.mono (HX.out).size); replace HWb : Hid (Sits u9 V6 (shCells S1 x6 N1 c6 y6 T1.length d6) 31) := Sits.below HWb.out bq (Sits.lt HWb.out); replace HWm : Hid (MU w1.heap.size u5.heap.size u9 x6 N1 L1 y6 T1.length (seq T1)) := MU.below HWm.out bq; replace HGb : Hid (Sits u9 V9 (shCells S1 x9 N1 c9 y9 T1.length d9) 31) := Sits.below HGb.out bq (Sits.lt HGb.out); replace HGm : Hid (MU lo up u9 x9 N1 L1 y9 T1.length (seq T1)) := MU.below HGm.out bq; clear bq hzq)
          clear g0 g1 g2 g3 g4 g5 g6 h0 h1 h2 h3 h4 h5 h6
          have g0 := Sits.cell HGb.out 0
          have g1 := Sits.cell HGb.out 1
          have g2 := Sits.cell HGb.out 2
          have g3 := Sits.cell HGb.out 3
          have g4 := Sits.cell HGb.out 4
          have g5 := Sits.cell HGb.out 5
          have g6 := Sits.cell HGb.out 6
          go_upto_region 19 with (go_at_call 10; refine (markShape_mu lo up S1 x9 N1 c9 y9 T1.length d9 L1 (seq T1) 1 _ HGm.out HN1.out HC1.out HT1.out (by omega) (by omega)).mono ?_; rintro o w10 ⟨rfl, mm, cc⟩; rw [HQ1.out]; replace HX : Hid (Below W0.heap.size W0 w10) := Chg.bel cc HX.out (by omega); replace HWb : Hid (Sits w10 V6 (shCells S1 x6 N1 c6 y6 T1.length d6) 31) := Sits.chg HWb.out cc (.inl (by omega)); replace HWm : Hid (MU w1.heap.size u5.heap.size w10 x6 N1 L1 y6 T1.length (seq T1)) := MU.chg HWm.out cc (.inr (by omega)); replace HGb : Hid (Sits w10 V9 (shCells S1 x9 N1 c9 y9 T1.length d9) 31) := Sits.chg HGb.out cc hside; replace HGm : Hid (MU lo up w10 x9 N1 (upL L1 1) y9 T1.length (fun i => upAt L1 1 N1 + i)) := mm; clear mm cc)
          clear g0 g1 g2 g3 g4 g5 g6
          have g0 := Sits.cell HGb.out 0
          have g1 := Sits.cell HGb.out 1
          have g2 := Sits.cell HGb.out 2
          have g3 := Sits.cell HGb.out 3
          have g4 := Sits.cell HGb.out 4
          have g5 := Sits.cell HGb.out 5
          have g6 := Sits.cell HGb.out 6
          go_upto_region 24 with (go_at_call 11; refine (heldShape_mk S1 x9 N1 c9 y9 T1.length d9 L1 1 _ (MU.mk0 HGm.out).lr (MU.mk0 HGm.out).row HN1.out HC1.out HT1.out (by omega) (by omega)).mono ?_; rintro o w11 ⟨rfl, bq⟩; rw [HQ1.out]; replace HX : Hid (Below W0.heap.size W0 w11) := (HX.out).trans (bq.mono (HX.out).size); replace HWb : Hid (Sits w11 V6 (shCells S1 x6 N1 c6 y6 T1.length d6) 31) := Sits.below HWb.out bq (Sits.lt HWb.out); replace HWm : Hid (MU w1.heap.size u5.heap.size w11 x6 N1 L1 y6 T1.length (seq T1)) := MU.below HWm.out bq; replace HGb : Hid (Sits w11 V9 (shCells S1 x9 N1 c9 y9 T1.length d9) 31) := Sits.below HGb.out bq (Sits.lt HGb.out); replace HGm : Hid (MU lo up w11 x9 N1 (upL L1 1) y9 T1.length (fun i => upAt L1 1 N1 + i)) := MU.below HGm.out bq; clear bq)
          clear g0 g1 g2 g3 g4 g5 g6
          have hlt1 : w.heap.size + 1 < w11.heap.size := by have := (HX.out).size; omega
          have hSB : ∀ W, Below w11.heap.size w11 W → (fun w' => ((w'.cell? ⟨w.heap.size, 0, none⟩ = some (.int .i64 s0.rt) ∧ w'.cell? ⟨w.heap.size, 1, none⟩ = some (.int .i64 s0.ov) ∧ w'.cell? ⟨w.heap.size, 2, none⟩ = some (.int .i64 s0.nx) ∧ w'.cell? ⟨w.heap.size, 3, none⟩ = some (.int .i64 s0.qt) ∧ w'.cell? ⟨w.heap.size, 4, none⟩ = some (.int .i64 s0.lim) ∧ w'.cell? ⟨w.heap.size, 5, none⟩ = some (.slice a0 N0 ca0) ∧ w'.cell? ⟨w.heap.size, 6, none⟩ = some (.slice b0 n0 cb0)) ∧ (w'.cell? ⟨w.heap.size + 1, 0, none⟩ = some (.int .i64 p1.id) ∧ w'.cell? ⟨w.heap.size + 1, 1, none⟩ = some (.int .i64 p1.flow) ∧ w'.cell? ⟨w.heap.size + 1, 2, none⟩ = some (.int .i64 p1.host) ∧ w'.cell? ⟨w.heap.size + 1, 3, none⟩ = some (.int .i64 p1.size) ∧ w'.cell? ⟨w.heap.size + 1, 4, none⟩ = some (.int .i64 p1.tm) ∧ w'.cell? ⟨w.heap.size + 1, 5, none⟩ = some (.int .i64 p1.ecn)))) W := fun W hW => by
            obtain ⟨⟨e1, e2⟩, _⟩ := HA.out _ ((HX.out).trans (hW.mono (HX.out).size))
            exact ⟨⟨e1.cell 0, e1.cell 1, e1.cell 2, e1.cell 3, e1.cell 4, e1.cell 5, e1.cell 6⟩, ⟨e2.cell 0, e2.cell 1, e2.cell 2, e2.cell 3, e2.cell 4, e2.cell 5⟩⟩
          have hBS : ∀ W, Below w11.heap.size w11 W → Below w.heap.size w W := fun W hW => (HA.out _ ((HX.out).trans (hW.mono (HX.out).size))).2
          go_cut [14, 15] from 16 (fun s6 s7 wx => ∃ (V : Nat) (x : Option Addr) (cl : Nat) (y : Option Addr) (cy : Nat), s6 = .pointer (some ⟨V, 0, none⟩) ∧ s7 = .bool false ∧ Sits wx V (shCells S1 x N1 cl y T1.length cy) 31 ∧ w11.heap.size ≤ V ∧ MK0 w11.heap.size wx x N1 L1 y T1.length (seq T1) ∧ Below w11.heap.size w11 wx)
          case first =>
            set_option maxRecDepth 100000 in go_region_held3 (fun w' => ((w'.cell? ⟨w.heap.size, 0, none⟩ = some (.int .i64 s0.rt) ∧ w'.cell? ⟨w.heap.size, 1, none⟩ = some (.int .i64 s0.ov) ∧ w'.cell? ⟨w.heap.size, 2, none⟩ = some (.int .i64 s0.nx) ∧ w'.cell? ⟨w.heap.size, 3, none⟩ = some (.int .i64 s0.qt) ∧ w'.cell? ⟨w.heap.size, 4, none⟩ = some (.int .i64 s0.lim) ∧ w'.cell? ⟨w.heap.size, 5, none⟩ = some (.slice a0 N0 ca0) ∧ w'.cell? ⟨w.heap.size, 6, none⟩ = some (.slice b0 n0 cb0)) ∧ (w'.cell? ⟨w.heap.size + 1, 0, none⟩ = some (.int .i64 p1.id) ∧ w'.cell? ⟨w.heap.size + 1, 1, none⟩ = some (.int .i64 p1.flow) ∧ w'.cell? ⟨w.heap.size + 1, 2, none⟩ = some (.int .i64 p1.host) ∧ w'.cell? ⟨w.heap.size + 1, 3, none⟩ = some (.int .i64 p1.size) ∧ w'.cell? ⟨w.heap.size + 1, 4, none⟩ = some (.int .i64 p1.tm) ∧ w'.cell? ⟨w.heap.size + 1, 5, none⟩ = some (.int .i64 p1.ecn)))) (first | exact hSB _ (by (repeat first | (with_reducible exact Below.refl _ _) | (with_reducible assumption) | (with_reducible apply Below.drew) | (with_reducible refine Below.setCell ?_ (by first | omega | (simp; done) | (simp; omega)) _) | (with_reducible refine Below.alloc ?_ (by first | omega | (simp; done) | (simp; omega)) _))) | fail)
              (first | (go_at_call 6; refine (toShape_any s0 a0 N0 ca0 b0 n0 cb0 L0 tn0 _ H0.out HN.out H1.out (LR.go HLR.out (hBS _ (by (repeat first | (with_reducible exact Below.refl _ _) | (with_reducible assumption) | (with_reducible apply Below.drew) | (with_reducible refine Below.setCell ?_ (by first | omega | (simp; done) | (simp; omega)) _) | (with_reducible refine Below.alloc ?_ (by first | omega | (simp; done) | (simp; omega)) _)))) (hBS _ (by (repeat first | (with_reducible exact Below.refl _ _) | (with_reducible assumption) | (with_reducible apply Below.drew) | (with_reducible refine Below.setCell ?_ (by first | omega | (simp; done) | (simp; omega)) _) | (with_reducible refine Below.alloc ?_ (by first | omega | (simp; done) | (simp; omega)) _)))).size) (Row.below HRB.out (hBS _ (by (repeat first | (with_reducible exact Below.refl _ _) | (with_reducible assumption) | (with_reducible apply Below.drew) | (with_reducible refine Below.setCell ?_ (by first | omega | (simp; done) | (simp; omega)) _) | (with_reducible refine Below.alloc ?_ (by first | omega | (simp; done) | (simp; omega)) _)))))).mono ?_; rintro o v2 ⟨B2, A2, d2, rfl, so2, b7⟩; have hb2 : Below w11.heap.size w11 v2 := Below.trans (by (repeat first | (with_reducible exact Below.refl _ _) | (with_reducible assumption) | (with_reducible apply Below.drew) | (with_reducible refine Below.setCell ?_ (by first | omega | (simp; done) | (simp; omega)) _) | (with_reducible refine Below.alloc ?_ (by first | omega | (simp; done) | (simp; omega)) _))) (b7.mono (by first | omega | (simp; done) | (simp; omega))); have hs2 := b7.size; (try simp at hs2)) | (go_at_call 7; refine (toPkt_any p1 _).mono ?_; rintro o v3 ⟨rfl, k3⟩; have hb3 : Below w11.heap.size w11 v3 := Below.trans (by (repeat first | (with_reducible exact Below.refl _ _) | (with_reducible assumption) | (with_reducible apply Below.drew) | (with_reducible refine Below.setCell ?_ (by first | omega | (simp; done) | (simp; omega)) _) | (with_reducible refine Below.alloc ?_ (by first | omega | (simp; done) | (simp; omega)) _))) (k3.1.mono (by first | omega | (simp; done) | (simp; omega))); have hb23 : Below v2.heap.size v2 v3 := Below.trans (by (repeat first | (with_reducible exact Below.refl _ _) | (with_reducible assumption) | (with_reducible apply Below.drew) | (with_reducible refine Below.setCell ?_ (by first | omega | (simp; done) | (simp; omega)) _) | (with_reducible refine Below.alloc ?_ (by first | omega | (simp; done) | (simp; omega)) _))) (k3.1.mono (by first | omega | (simp; done) | (simp; omega))); have hs3 := k3.1.size; (try simp at hs3)) | (go_at_call 8; refine (HI.out _ B2 d2 (SO.below so2 (by (repeat first | (with_reducible exact Below.refl _ _) | (with_reducible assumption) | (with_reducible apply Below.drew) | (with_reducible refine Below.setCell ?_ (by first | omega | (simp; done) | (simp; omega)) _) | (with_reducible refine Below.alloc ?_ (by first | omega | (simp; done) | (simp; omega)) _)))).1.lr (SO.below so2 (by (repeat first | (with_reducible exact Below.refl _ _) | (with_reducible assumption) | (with_reducible apply Below.drew) | (with_reducible refine Below.setCell ?_ (by first | omega | (simp; done) | (simp; omega)) _) | (with_reducible refine Below.alloc ?_ (by first | omega | (simp; done) | (simp; omega)) _)))).row).mono ?_; rintro o v4 ⟨x4, c4, y4, cy4, rfl, mk4, b8⟩; have hb4 : Below w11.heap.size w11 v4 := Below.trans (by (repeat first | (with_reducible exact Below.refl _ _) | (with_reducible assumption) | (with_reducible apply Below.drew) | (with_reducible refine Below.setCell ?_ (by first | omega | (simp; done) | (simp; omega)) _) | (with_reducible refine Below.alloc ?_ (by first | omega | (simp; done) | (simp; omega)) _))) (b8.mono (by first | omega | (simp; done) | (simp; omega))); have hs4 := b8.size; (try simp at hs4); have mk5 : MK0 w11.heap.size v4 x4 N1 L1 y4 T1.length (seq T1) := mk4.mono (by first | omega | (simp; done) | (simp; omega)); (first | (have vz := vz_sits (vz_sits (vz_sits (Sits.new w11 shZero 31) b7 rfl).1 k3.1 rfl).1 b8 rfl; have z0 := vz.1.cell 0; have z1 := vz.1.cell 1; have z2 := vz.1.cell 2; have z3 := vz.1.cell 3; have z4 := vz.1.cell 4; have z5 := vz.1.cell 5; have z6 := vz.1.cell 6; have fz := vz.1.frozen) | (have vz := vz_sits (vz_sits (Sits.new v2 shZero 31) k3.1 rfl).1 b8 rfl; have z0 := vz.1.cell 0; have z1 := vz.1.cell 1; have z2 := vz.1.cell 2; have z3 := vz.1.cell 3; have z4 := vz.1.cell 4; have z5 := vz.1.cell 5; have z6 := vz.1.cell 6; have fz := vz.1.frozen) | (have vz := vz_sits (Sits.new v3 shZero 31) b8 rfl; have z0 := vz.1.cell 0; have z1 := vz.1.cell 1; have z2 := vz.1.cell 2; have z3 := vz.1.cell 3; have z4 := vz.1.cell 4; have z5 := vz.1.cell 5; have z6 := vz.1.cell 6; have fz := vz.1.frozen) | skip)))
            all_goals go_wp2_with fail
            all_goals go_meet
            all_goals first | (with_reducible exact cl_new hb4 mk5) | exact cl_put hb4 vz mk4 (Nat.le_refl _) | exact cl_put hb4 vz mk4 hb2.size | exact cl_put hb4 vz mk4 hb3.size
          case rest =>
            obtain ⟨V14, x14, c14, y14, d14, rfl, rfl, sh, hV14, mh, b9⟩ := hcut
            obtain ⟨u12, rfl⟩ : ∃ W, W = wc := ⟨wc, rfl⟩
            have _hc := 0; replace HX : Hid (Below W0.heap.size W0 u12) := (HX.out).trans (b9.mono (HX.out).size); replace HWb : Hid (Sits u12 V6 (shCells S1 x6 N1 c6 y6 T1.length d6) 31) := Sits.below HWb.out b9 (Sits.lt HWb.out); replace HWm : Hid (MU w1.heap.size u5.heap.size u12 x6 N1 L1 y6 T1.length (seq T1)) := MU.below HWm.out b9; replace HGb : Hid (Sits u12 V9 (shCells S1 x9 N1 c9 y9 T1.length d9) 31) := Sits.below HGb.out b9 (Sits.lt HGb.out); replace HGm : Hid (MU lo up u12 x9 N1 (upL L1 1) y9 T1.length (fun i => upAt L1 1 N1 + i)) := MU.below HGm.out b9
            have HHb : Hid (Sits u12 V14 (shCells S1 x14 N1 c14 y14 T1.length d14) 31) := sh
            have HHm : Hid (MU w11.heap.size u12.heap.size u12 x14 N1 L1 y14 T1.length (seq T1)) := MU.of mh
            clear sh mh b9 hSB hBS hlt1 _hc
            have g0 := Sits.cell HHb.out 0
            have g1 := Sits.cell HHb.out 1
            have g2 := Sits.cell HHb.out 2
            have g3 := Sits.cell HHb.out 3
            have g4 := Sits.cell HHb.out 4
            have g5 := Sits.cell HHb.out 5
            have g6 := Sits.cell HHb.out 6
            have h0 := Sits.cell HWb.out 0
            have h1 := Sits.cell HWb.out 1
            have h2 := Sits.cell HWb.out 2
            have h3 := Sits.cell HWb.out 3
            have h4 := Sits.cell HWb.out 4
            have h5 := Sits.cell HWb.out 5
            have h6 := Sits.cell HWb.out 6
            go_upto_region 28 with (go_at_call 9; refine (eqShape_yes S1 x14 x6 N1 c14 c6 y14 y6 T1.length d14 d6 L1 (seq T1) _ HN1.out HL1.out HT1.out (MU.mk0 HHm.out).lr (MU.mk0 HWm.out).lr (MU.mk0 HHm.out).row (MU.mk0 HWm.out).row).mono ?_; rintro o u13 ⟨rfl, bq⟩; have hzq := bq.size; replace HX : Hid (Below W0.heap.size W0 u13) := (HX.out).trans (bq.mono (HX.out).size); replace HWb : Hid (Sits u13 V6 (shCells S1 x6 N1 c6 y6 T1.length d6) 31) := Sits.below HWb.out bq (Sits.lt HWb.out); replace HWm : Hid (MU w1.heap.size u5.heap.size u13 x6 N1 L1 y6 T1.length (seq T1)) := MU.below HWm.out bq; replace HGb : Hid (Sits u13 V9 (shCells S1 x9 N1 c9 y9 T1.length d9) 31) := Sits.below HGb.out bq (Sits.lt HGb.out); replace HGm : Hid (MU lo up u13 x9 N1 (upL L1 1) y9 T1.length (fun i => upAt L1 1 N1 + i)) := MU.below HGm.out bq; replace HHb : Hid (Sits u13 V14 (shCells S1 x14 N1 c14 y14 T1.length d14) 31) := Sits.below HHb.out bq (Sits.lt HHb.out); replace HHm : Hid (MU w11.heap.size u12.heap.size u13 x14 N1 L1 y14 T1.length (seq T1)) := MU.below HHm.out bq; clear bq hzq)
            clear g0 g1 g2 g3 g4 g5 g6 h0 h1 h2 h3 h4 h5 h6
            have g0 := Sits.cell HGb.out 0
            have g1 := Sits.cell HGb.out 1
            have g2 := Sits.cell HGb.out 2
            have g3 := Sits.cell HGb.out 3
            have g4 := Sits.cell HGb.out 4
            have g5 := Sits.cell HGb.out 5
            have g6 := Sits.cell HGb.out 6
            go_wp2_with (go_at_call 11; refine (heldShape_mk S1 x9 N1 c9 y9 T1.length d9 L1 1 _ (MU.mk0 HGm.out).lr (MU.mk0 HGm.out).row HN1.out HC1.out HT1.out (by omega) (by omega)).mono ?_; rintro o u14 ⟨rfl, bq⟩; rw [HQ1.out]; replace HX : Hid (Below W0.heap.size W0 u14) := (HX.out).trans (bq.mono (HX.out).size); replace HWb : Hid (Sits u14 V6 (shCells S1 x6 N1 c6 y6 T1.length d6) 31) := Sits.below HWb.out bq (Sits.lt HWb.out); replace HWm : Hid (MU w1.heap.size u5.heap.size u14 x6 N1 L1 y6 T1.length (seq T1)) := MU.below HWm.out bq; replace HGb : Hid (Sits u14 V9 (shCells S1 x9 N1 c9 y9 T1.length d9) 31) := Sits.below HGb.out bq (Sits.lt HGb.out); replace HGm : Hid (MU lo up u14 x9 N1 (upL L1 1) y9 T1.length (fun i => upAt L1 1 N1 + i)) := MU.below HGm.out bq; replace HHb : Hid (Sits u14 V14 (shCells S1 x14 N1 c14 y14 T1.length d14) 31) := Sits.below HHb.out bq (Sits.lt HHb.out); replace HHm : Hid (MU w11.heap.size u12.heap.size u14 x14 N1 L1 y14 T1.length (seq T1)) := MU.below HHm.out bq; clear bq)
            go_ret
            exact ⟨rfl, (HA.out _ HX.out).2⟩
        case true =>
          have g0 := Sits.cell HGb.out 0
          have g1 := Sits.cell HGb.out 1
          have g2 := Sits.cell HGb.out 2
          have g3 := Sits.cell HGb.out 3
          have g4 := Sits.cell HGb.out 4
          have g5 := Sits.cell HGb.out 5
          have g6 := Sits.cell HGb.out 6
          have h0 := Sits.cell HWb.out 0
          have h1 := Sits.cell HWb.out 1
          have h2 := Sits.cell HWb.out 2
          have h3 := Sits.cell HWb.out 3
          have h4 := Sits.cell HWb.out 4
          have h5 := Sits.cell HWb.out 5
          have h6 := Sits.cell HWb.out 6
          go_upto_region 10 with (go_at_call 9; refine (eqShape_yes S1 x9 x6 N1 c9 c6 y9 y6 T1.length d9 d6 L1 (seq T1) _ HN1.out HL1.out HT1.out (MU.mk0 HGm.out).lr (MU.mk0 HWm.out).lr (MU.mk0 HGm.out).row (MU.mk0 HWm.out).row).mono ?_; rintro o u8 ⟨rfl, bq⟩; have hzq := bq.size; replace HX : Hid (Below W0.heap.size W0 u8) := (HX.out).trans (bq.mono (HX.out).size); replace HWb : Hid (Sits u8 V6 (shCells S1 x6 N1 c6 y6 T1.length d6) 31) := Sits.below HWb.out bq (Sits.lt HWb.out); replace HWm : Hid (MU w1.heap.size u5.heap.size u8 x6 N1 L1 y6 T1.length (seq T1)) := MU.below HWm.out bq; replace HXb : Hid (Sits u8 V4 (shCells s0 (some ⟨B4, 0, none⟩) N0 N0 d4 n0 n0) 31) := Sits.below HXb.out bq (Sits.lt HXb.out); replace HXm : Hid (MU u5.heap.size V4 u8 (some ⟨B4, 0, none⟩) N0 L0 d4 n0 tn0) := MU.below HXm.out bq; replace HGb : Hid (Sits u8 V9 (shCells S1 x9 N1 c9 y9 T1.length d9) 31) := Sits.below HGb.out bq (Sits.lt HGb.out); replace HGm : Hid (MU lo up u8 x9 N1 L1 y9 T1.length (seq T1)) := MU.below HGm.out bq; clear bq hzq)
          clear g0 g1 g2 g3 g4 g5 g6 h0 h1 h2 h3 h4 h5 h6
          have hSB : Hid (∀ w', Below u8.heap.size u8 w' → ((w'.cell? ⟨V4, 0, none⟩ = some (.int .i64 s0.rt) ∧ w'.cell? ⟨V4, 1, none⟩ = some (.int .i64 s0.ov) ∧ w'.cell? ⟨V4, 2, none⟩ = some (.int .i64 s0.nx) ∧ w'.cell? ⟨V4, 3, none⟩ = some (.int .i64 s0.qt) ∧ w'.cell? ⟨V4, 4, none⟩ = some (.int .i64 s0.lim) ∧ w'.cell? ⟨V4, 5, none⟩ = some (.slice (some ⟨B4, 0, none⟩) N0 N0) ∧ w'.cell? ⟨V4, 6, none⟩ = some (.slice d4 n0 n0)) ∧ (w'.cell? ⟨w.heap.size, 0, none⟩ = some (.int .i64 s0.rt) ∧ w'.cell? ⟨w.heap.size, 1, none⟩ = some (.int .i64 s0.ov) ∧ w'.cell? ⟨w.heap.size, 2, none⟩ = some (.int .i64 s0.nx) ∧ w'.cell? ⟨w.heap.size, 3, none⟩ = some (.int .i64 s0.qt) ∧ w'.cell? ⟨w.heap.size, 4, none⟩ = some (.int .i64 s0.lim) ∧ w'.cell? ⟨w.heap.size, 5, none⟩ = some (.slice a0 N0 ca0) ∧ w'.cell? ⟨w.heap.size, 6, none⟩ = some (.slice b0 n0 cb0)))) := fun w' hw' => by
            have e1 := Sits.below HXb.out hw' (Sits.lt HXb.out)
            obtain ⟨⟨e2, _⟩, _⟩ := HA.out _ ((HX.out).trans (hw'.mono (HX.out).size))
            exact ⟨⟨e1.cell 0, e1.cell 1, e1.cell 2, e1.cell 3, e1.cell 4, e1.cell 5, e1.cell 6⟩, ⟨e2.cell 0, e2.cell 1, e2.cell 2, e2.cell 3, e2.cell 4, e2.cell 5, e2.cell 6⟩⟩
          have BD : Below w.heap.size w u8.drew := ((HA.out _ HX.out).2).drew
          have HMD : Hid (MU u5.heap.size V4 u8.drew (some ⟨B4, 0, none⟩) N0 L0 d4 n0 tn0) := MU.below HXm.out ((Below.refl _ _).drew)
          set_option maxRecDepth 100000 in go_region_held3 (fun w' => ((w'.cell? ⟨V4, 0, none⟩ = some (.int .i64 s0.rt) ∧ w'.cell? ⟨V4, 1, none⟩ = some (.int .i64 s0.ov) ∧ w'.cell? ⟨V4, 2, none⟩ = some (.int .i64 s0.nx) ∧ w'.cell? ⟨V4, 3, none⟩ = some (.int .i64 s0.qt) ∧ w'.cell? ⟨V4, 4, none⟩ = some (.int .i64 s0.lim) ∧ w'.cell? ⟨V4, 5, none⟩ = some (.slice (some ⟨B4, 0, none⟩) N0 N0) ∧ w'.cell? ⟨V4, 6, none⟩ = some (.slice d4 n0 n0)) ∧ (w'.cell? ⟨w.heap.size, 0, none⟩ = some (.int .i64 s0.rt) ∧ w'.cell? ⟨w.heap.size, 1, none⟩ = some (.int .i64 s0.ov) ∧ w'.cell? ⟨w.heap.size, 2, none⟩ = some (.int .i64 s0.nx) ∧ w'.cell? ⟨w.heap.size, 3, none⟩ = some (.int .i64 s0.qt) ∧ w'.cell? ⟨w.heap.size, 4, none⟩ = some (.int .i64 s0.lim) ∧ w'.cell? ⟨w.heap.size, 5, none⟩ = some (.slice a0 N0 ca0) ∧ w'.cell? ⟨w.heap.size, 6, none⟩ = some (.slice b0 n0 cb0)))) (first | exact hSB.out _ ((Below.refl _ _).drew) | exact hSB.out _ ((Below.refl _ u8).drew.trans b7) | exact hSB.out _ (((Below.refl _ u8).drew.trans b7).trans (b8.mono b7.size))) (first | (go_at_call 6; refine (toShape_any s0 a0 N0 ca0 b0 n0 cb0 L0 tn0 _ H0.out HN.out H1.out (LR.go HLR.out BD (BD).size) (Row.below HRB.out BD)).mono ?_; rintro o w7 ⟨B7, A7, d7, rfl, so7, b7⟩) | (go_at_call 9; refine (eqShape_yes s0 (some ⟨B4, 0, none⟩) (some ⟨B7, 0, none⟩) N0 N0 N0 d4 d7 n0 n0 n0 L0 tn0 _ H0.out HN.out H1.out (MU.mk0 (MU.below HMD.out b7)).lr (MK0.lr (MK0.of_so so7)) (MU.mk0 (MU.below HMD.out b7)).row so7.row).mono ?_; rintro o w8 ⟨rfl, b8⟩))
          have bq : Below u8.heap.size u8 w8 := ((Below.refl _ u8).drew.trans b7).trans (b8.mono b7.size)
          have _hc := 0; replace HX : Hid (Below W0.heap.size W0 w8) := (HX.out).trans (bq.mono (HX.out).size); replace HWb : Hid (Sits w8 V6 (shCells S1 x6 N1 c6 y6 T1.length d6) 31) := Sits.below HWb.out bq (Sits.lt HWb.out); replace HWm : Hid (MU w1.heap.size u5.heap.size w8 x6 N1 L1 y6 T1.length (seq T1)) := MU.below HWm.out bq; replace HXb : Hid (Sits w8 V4 (shCells s0 (some ⟨B4, 0, none⟩) N0 N0 d4 n0 n0) 31) := Sits.below HXb.out bq (Sits.lt HXb.out); replace HXm : Hid (MU u5.heap.size V4 w8 (some ⟨B4, 0, none⟩) N0 L0 d4 n0 tn0) := MU.below HXm.out bq; replace HGb : Hid (Sits w8 V9 (shCells S1 x9 N1 c9 y9 T1.length d9) 31) := Sits.below HGb.out bq (Sits.lt HGb.out); replace HGm : Hid (MU lo up w8 x9 N1 L1 y9 T1.length (seq T1)) := MU.below HGm.out bq
          clear bq b7 b8 so7 hSB BD HMD _hc
          go_upto_region 13 with fail
          have g0 := Sits.cell HXb.out 0
          have g1 := Sits.cell HXb.out 1
          have g2 := Sits.cell HXb.out 2
          have g3 := Sits.cell HXb.out 3
          have g4 := Sits.cell HXb.out 4
          have g5 := Sits.cell HXb.out 5
          have g6 := Sits.cell HXb.out 6
          go_upto_region 14 with (go_at_call 10; refine (markShape_mu u5.heap.size V4 s0 (some ⟨B4, 0, none⟩) N0 N0 d4 n0 n0 L0 tn0 1 _ HXm.out H0.out HC.out H1.out (by omega) (by omega)).mono ?_; rintro o w9 ⟨rfl, mm, cc⟩; rw [HQ0.out]; replace HX : Hid (Below W0.heap.size W0 w9) := Chg.bel cc HX.out hz5; replace HWb : Hid (Sits w9 V6 (shCells S1 x6 N1 c6 y6 T1.length d6) 31) := Sits.chg HWb.out cc (.inl hV6'); replace HWm : Hid (MU w1.heap.size u5.heap.size w9 x6 N1 L1 y6 T1.length (seq T1)) := MU.chg HWm.out cc (.inr (Nat.le_refl _)); replace HXb : Hid (Sits w9 V4 (shCells s0 (some ⟨B4, 0, none⟩) N0 N0 d4 n0 n0) 31) := Sits.chg HXb.out cc (.inr (Nat.le_refl _)); replace HGb : Hid (Sits w9 V9 (shCells S1 x9 N1 c9 y9 T1.length d9) 31) := Sits.chg HGb.out cc (.inr (by omega)); replace HGm : Hid (MU lo up w9 x9 N1 L1 y9 T1.length (seq T1)) := MU.chg HGm.out cc (.inl (by omega)); clear mm cc)
          clear g0 g1 g2 g3 g4 g5 g6
          clear HXm HXb
          have g0 := Sits.cell HGb.out 0
          have g1 := Sits.cell HGb.out 1
          have g2 := Sits.cell HGb.out 2
          have g3 := Sits.cell HGb.out 3
          have g4 := Sits.cell HGb.out 4
          have g5 := Sits.cell HGb.out 5
          have g6 := Sits.cell HGb.out 6
          have h0 := Sits.cell HWb.out 0
          have h1 := Sits.cell HWb.out 1
          have h2 := Sits.cell HWb.out 2
          have h3 := Sits.cell HWb.out 3
          have h4 := Sits.cell HWb.out 4
          have h5 := Sits.cell HWb.out 5
          have h6 := Sits.cell HWb.out 6
          go_upto_region 17 with (go_at_call 9; refine (eqShape_yes S1 x9 x6 N1 c9 c6 y9 y6 T1.length d9 d6 L1 (seq T1) _ HN1.out HL1.out HT1.out (MU.mk0 HGm.out).lr (MU.mk0 HWm.out).lr (MU.mk0 HGm.out).row (MU.mk0 HWm.out).row).mono ?_; rintro o u9 ⟨rfl, bq⟩; have hzq := bq.size; replace HX : Hid (Below W0.heap.size W0 u9) := (HX.out).trans (bq.mono (HX.out).size); replace HWb : Hid (Sits u9 V6 (shCells S1 x6 N1 c6 y6 T1.length d6) 31) := Sits.below HWb.out bq (Sits.lt HWb.out); replace HWm : Hid (MU w1.heap.size u5.heap.size u9 x6 N1 L1 y6 T1.length (seq T1)) := MU.below HWm.out bq; replace HGb : Hid (Sits u9 V9 (shCells S1 x9 N1 c9 y9 T1.length d9) 31) := Sits.below HGb.out bq (Sits.lt HGb.out); replace HGm : Hid (MU lo up u9 x9 N1 L1 y9 T1.length (seq T1)) := MU.below HGm.out bq; clear bq hzq)
          clear g0 g1 g2 g3 g4 g5 g6 h0 h1 h2 h3 h4 h5 h6
          have g0 := Sits.cell HGb.out 0
          have g1 := Sits.cell HGb.out 1
          have g2 := Sits.cell HGb.out 2
          have g3 := Sits.cell HGb.out 3
          have g4 := Sits.cell HGb.out 4
          have g5 := Sits.cell HGb.out 5
          have g6 := Sits.cell HGb.out 6
          go_upto_region 19 with (go_at_call 10; refine (markShape_mu lo up S1 x9 N1 c9 y9 T1.length d9 L1 (seq T1) 1 _ HGm.out HN1.out HC1.out HT1.out (by omega) (by omega)).mono ?_; rintro o w10 ⟨rfl, mm, cc⟩; rw [HQ1.out]; replace HX : Hid (Below W0.heap.size W0 w10) := Chg.bel cc HX.out (by omega); replace HWb : Hid (Sits w10 V6 (shCells S1 x6 N1 c6 y6 T1.length d6) 31) := Sits.chg HWb.out cc (.inl (by omega)); replace HWm : Hid (MU w1.heap.size u5.heap.size w10 x6 N1 L1 y6 T1.length (seq T1)) := MU.chg HWm.out cc (.inr (by omega)); replace HGb : Hid (Sits w10 V9 (shCells S1 x9 N1 c9 y9 T1.length d9) 31) := Sits.chg HGb.out cc hside; replace HGm : Hid (MU lo up w10 x9 N1 (upL L1 1) y9 T1.length (fun i => upAt L1 1 N1 + i)) := mm; clear mm cc)
          clear g0 g1 g2 g3 g4 g5 g6
          have g0 := Sits.cell HGb.out 0
          have g1 := Sits.cell HGb.out 1
          have g2 := Sits.cell HGb.out 2
          have g3 := Sits.cell HGb.out 3
          have g4 := Sits.cell HGb.out 4
          have g5 := Sits.cell HGb.out 5
          have g6 := Sits.cell HGb.out 6
          go_upto_region 24 with (go_at_call 11; refine (heldShape_mk S1 x9 N1 c9 y9 T1.length d9 L1 1 _ (MU.mk0 HGm.out).lr (MU.mk0 HGm.out).row HN1.out HC1.out HT1.out (by omega) (by omega)).mono ?_; rintro o w11 ⟨rfl, bq⟩; rw [HQ1.out]; replace HX : Hid (Below W0.heap.size W0 w11) := (HX.out).trans (bq.mono (HX.out).size); replace HWb : Hid (Sits w11 V6 (shCells S1 x6 N1 c6 y6 T1.length d6) 31) := Sits.below HWb.out bq (Sits.lt HWb.out); replace HWm : Hid (MU w1.heap.size u5.heap.size w11 x6 N1 L1 y6 T1.length (seq T1)) := MU.below HWm.out bq; replace HGb : Hid (Sits w11 V9 (shCells S1 x9 N1 c9 y9 T1.length d9) 31) := Sits.below HGb.out bq (Sits.lt HGb.out); replace HGm : Hid (MU lo up w11 x9 N1 (upL L1 1) y9 T1.length (fun i => upAt L1 1 N1 + i)) := MU.below HGm.out bq; clear bq)
          clear g0 g1 g2 g3 g4 g5 g6
          have hlt1 : w.heap.size + 1 < w11.heap.size := by have := (HX.out).size; omega
          have hSB : ∀ W, Below w11.heap.size w11 W → (fun w' => ((w'.cell? ⟨w.heap.size, 0, none⟩ = some (.int .i64 s0.rt) ∧ w'.cell? ⟨w.heap.size, 1, none⟩ = some (.int .i64 s0.ov) ∧ w'.cell? ⟨w.heap.size, 2, none⟩ = some (.int .i64 s0.nx) ∧ w'.cell? ⟨w.heap.size, 3, none⟩ = some (.int .i64 s0.qt) ∧ w'.cell? ⟨w.heap.size, 4, none⟩ = some (.int .i64 s0.lim) ∧ w'.cell? ⟨w.heap.size, 5, none⟩ = some (.slice a0 N0 ca0) ∧ w'.cell? ⟨w.heap.size, 6, none⟩ = some (.slice b0 n0 cb0)) ∧ (w'.cell? ⟨w.heap.size + 1, 0, none⟩ = some (.int .i64 p1.id) ∧ w'.cell? ⟨w.heap.size + 1, 1, none⟩ = some (.int .i64 p1.flow) ∧ w'.cell? ⟨w.heap.size + 1, 2, none⟩ = some (.int .i64 p1.host) ∧ w'.cell? ⟨w.heap.size + 1, 3, none⟩ = some (.int .i64 p1.size) ∧ w'.cell? ⟨w.heap.size + 1, 4, none⟩ = some (.int .i64 p1.tm) ∧ w'.cell? ⟨w.heap.size + 1, 5, none⟩ = some (.int .i64 p1.ecn)))) W := fun W hW => by
            obtain ⟨⟨e1, e2⟩, _⟩ := HA.out _ ((HX.out).trans (hW.mono (HX.out).size))
            exact ⟨⟨e1.cell 0, e1.cell 1, e1.cell 2, e1.cell 3, e1.cell 4, e1.cell 5, e1.cell 6⟩, ⟨e2.cell 0, e2.cell 1, e2.cell 2, e2.cell 3, e2.cell 4, e2.cell 5⟩⟩
          have hBS : ∀ W, Below w11.heap.size w11 W → Below w.heap.size w W := fun W hW => (HA.out _ ((HX.out).trans (hW.mono (HX.out).size))).2
          go_cut [14, 15] from 16 (fun s6 s7 wx => ∃ (V : Nat) (x : Option Addr) (cl : Nat) (y : Option Addr) (cy : Nat), s6 = .pointer (some ⟨V, 0, none⟩) ∧ s7 = .bool true ∧ Sits wx V (shCells S1 x N1 cl y T1.length cy) 31 ∧ w11.heap.size ≤ V ∧ MK0 w11.heap.size wx x N1 L1 y T1.length (seq T1) ∧ Below w11.heap.size w11 wx)
          case first =>
            set_option maxRecDepth 100000 in go_region_held3 (fun w' => ((w'.cell? ⟨w.heap.size, 0, none⟩ = some (.int .i64 s0.rt) ∧ w'.cell? ⟨w.heap.size, 1, none⟩ = some (.int .i64 s0.ov) ∧ w'.cell? ⟨w.heap.size, 2, none⟩ = some (.int .i64 s0.nx) ∧ w'.cell? ⟨w.heap.size, 3, none⟩ = some (.int .i64 s0.qt) ∧ w'.cell? ⟨w.heap.size, 4, none⟩ = some (.int .i64 s0.lim) ∧ w'.cell? ⟨w.heap.size, 5, none⟩ = some (.slice a0 N0 ca0) ∧ w'.cell? ⟨w.heap.size, 6, none⟩ = some (.slice b0 n0 cb0)) ∧ (w'.cell? ⟨w.heap.size + 1, 0, none⟩ = some (.int .i64 p1.id) ∧ w'.cell? ⟨w.heap.size + 1, 1, none⟩ = some (.int .i64 p1.flow) ∧ w'.cell? ⟨w.heap.size + 1, 2, none⟩ = some (.int .i64 p1.host) ∧ w'.cell? ⟨w.heap.size + 1, 3, none⟩ = some (.int .i64 p1.size) ∧ w'.cell? ⟨w.heap.size + 1, 4, none⟩ = some (.int .i64 p1.tm) ∧ w'.cell? ⟨w.heap.size + 1, 5, none⟩ = some (.int .i64 p1.ecn)))) (first | exact hSB _ (by (repeat first | (with_reducible exact Below.refl _ _) | (with_reducible assumption) | (with_reducible apply Below.drew) | (with_reducible refine Below.setCell ?_ (by first | omega | (simp; done) | (simp; omega)) _) | (with_reducible refine Below.alloc ?_ (by first | omega | (simp; done) | (simp; omega)) _))) | fail)
              (first | (go_at_call 6; refine (toShape_any s0 a0 N0 ca0 b0 n0 cb0 L0 tn0 _ H0.out HN.out H1.out (LR.go HLR.out (hBS _ (by (repeat first | (with_reducible exact Below.refl _ _) | (with_reducible assumption) | (with_reducible apply Below.drew) | (with_reducible refine Below.setCell ?_ (by first | omega | (simp; done) | (simp; omega)) _) | (with_reducible refine Below.alloc ?_ (by first | omega | (simp; done) | (simp; omega)) _)))) (hBS _ (by (repeat first | (with_reducible exact Below.refl _ _) | (with_reducible assumption) | (with_reducible apply Below.drew) | (with_reducible refine Below.setCell ?_ (by first | omega | (simp; done) | (simp; omega)) _) | (with_reducible refine Below.alloc ?_ (by first | omega | (simp; done) | (simp; omega)) _)))).size) (Row.below HRB.out (hBS _ (by (repeat first | (with_reducible exact Below.refl _ _) | (with_reducible assumption) | (with_reducible apply Below.drew) | (with_reducible refine Below.setCell ?_ (by first | omega | (simp; done) | (simp; omega)) _) | (with_reducible refine Below.alloc ?_ (by first | omega | (simp; done) | (simp; omega)) _)))))).mono ?_; rintro o v2 ⟨B2, A2, d2, rfl, so2, b7⟩; have hb2 : Below w11.heap.size w11 v2 := Below.trans (by (repeat first | (with_reducible exact Below.refl _ _) | (with_reducible assumption) | (with_reducible apply Below.drew) | (with_reducible refine Below.setCell ?_ (by first | omega | (simp; done) | (simp; omega)) _) | (with_reducible refine Below.alloc ?_ (by first | omega | (simp; done) | (simp; omega)) _))) (b7.mono (by first | omega | (simp; done) | (simp; omega))); have hs2 := b7.size; (try simp at hs2)) | (go_at_call 7; refine (toPkt_any p1 _).mono ?_; rintro o v3 ⟨rfl, k3⟩; have hb3 : Below w11.heap.size w11 v3 := Below.trans (by (repeat first | (with_reducible exact Below.refl _ _) | (with_reducible assumption) | (with_reducible apply Below.drew) | (with_reducible refine Below.setCell ?_ (by first | omega | (simp; done) | (simp; omega)) _) | (with_reducible refine Below.alloc ?_ (by first | omega | (simp; done) | (simp; omega)) _))) (k3.1.mono (by first | omega | (simp; done) | (simp; omega))); have hb23 : Below v2.heap.size v2 v3 := Below.trans (by (repeat first | (with_reducible exact Below.refl _ _) | (with_reducible assumption) | (with_reducible apply Below.drew) | (with_reducible refine Below.setCell ?_ (by first | omega | (simp; done) | (simp; omega)) _) | (with_reducible refine Below.alloc ?_ (by first | omega | (simp; done) | (simp; omega)) _))) (k3.1.mono (by first | omega | (simp; done) | (simp; omega))); have hs3 := k3.1.size; (try simp at hs3)) | (go_at_call 8; refine (HI.out _ B2 d2 (SO.below so2 (by (repeat first | (with_reducible exact Below.refl _ _) | (with_reducible assumption) | (with_reducible apply Below.drew) | (with_reducible refine Below.setCell ?_ (by first | omega | (simp; done) | (simp; omega)) _) | (with_reducible refine Below.alloc ?_ (by first | omega | (simp; done) | (simp; omega)) _)))).1.lr (SO.below so2 (by (repeat first | (with_reducible exact Below.refl _ _) | (with_reducible assumption) | (with_reducible apply Below.drew) | (with_reducible refine Below.setCell ?_ (by first | omega | (simp; done) | (simp; omega)) _) | (with_reducible refine Below.alloc ?_ (by first | omega | (simp; done) | (simp; omega)) _)))).row).mono ?_; rintro o v4 ⟨x4, c4, y4, cy4, rfl, mk4, b8⟩; have hb4 : Below w11.heap.size w11 v4 := Below.trans (by (repeat first | (with_reducible exact Below.refl _ _) | (with_reducible assumption) | (with_reducible apply Below.drew) | (with_reducible refine Below.setCell ?_ (by first | omega | (simp; done) | (simp; omega)) _) | (with_reducible refine Below.alloc ?_ (by first | omega | (simp; done) | (simp; omega)) _))) (b8.mono (by first | omega | (simp; done) | (simp; omega))); have hs4 := b8.size; (try simp at hs4); have mk5 : MK0 w11.heap.size v4 x4 N1 L1 y4 T1.length (seq T1) := mk4.mono (by first | omega | (simp; done) | (simp; omega)); (first | (have vz := vz_sits (vz_sits (vz_sits (Sits.new w11 shZero 31) b7 rfl).1 k3.1 rfl).1 b8 rfl; have z0 := vz.1.cell 0; have z1 := vz.1.cell 1; have z2 := vz.1.cell 2; have z3 := vz.1.cell 3; have z4 := vz.1.cell 4; have z5 := vz.1.cell 5; have z6 := vz.1.cell 6; have fz := vz.1.frozen) | (have vz := vz_sits (vz_sits (Sits.new v2 shZero 31) k3.1 rfl).1 b8 rfl; have z0 := vz.1.cell 0; have z1 := vz.1.cell 1; have z2 := vz.1.cell 2; have z3 := vz.1.cell 3; have z4 := vz.1.cell 4; have z5 := vz.1.cell 5; have z6 := vz.1.cell 6; have fz := vz.1.frozen) | (have vz := vz_sits (Sits.new v3 shZero 31) b8 rfl; have z0 := vz.1.cell 0; have z1 := vz.1.cell 1; have z2 := vz.1.cell 2; have z3 := vz.1.cell 3; have z4 := vz.1.cell 4; have z5 := vz.1.cell 5; have z6 := vz.1.cell 6; have fz := vz.1.frozen) | skip)))
            all_goals go_wp2_with fail
            all_goals go_meet
            all_goals first | (with_reducible exact cl_new hb4 mk5) | exact cl_put hb4 vz mk4 (Nat.le_refl _) | exact cl_put hb4 vz mk4 hb2.size | exact cl_put hb4 vz mk4 hb3.size
          case rest =>
            obtain ⟨V14, x14, c14, y14, d14, rfl, rfl, sh, hV14, mh, b9⟩ := hcut
            obtain ⟨u12, rfl⟩ : ∃ W, W = wc := ⟨wc, rfl⟩
            have _hc := 0; replace HX : Hid (Below W0.heap.size W0 u12) := (HX.out).trans (b9.mono (HX.out).size); replace HWb : Hid (Sits u12 V6 (shCells S1 x6 N1 c6 y6 T1.length d6) 31) := Sits.below HWb.out b9 (Sits.lt HWb.out); replace HWm : Hid (MU w1.heap.size u5.heap.size u12 x6 N1 L1 y6 T1.length (seq T1)) := MU.below HWm.out b9; replace HGb : Hid (Sits u12 V9 (shCells S1 x9 N1 c9 y9 T1.length d9) 31) := Sits.below HGb.out b9 (Sits.lt HGb.out); replace HGm : Hid (MU lo up u12 x9 N1 (upL L1 1) y9 T1.length (fun i => upAt L1 1 N1 + i)) := MU.below HGm.out b9
            have HHb : Hid (Sits u12 V14 (shCells S1 x14 N1 c14 y14 T1.length d14) 31) := sh
            have HHm : Hid (MU w11.heap.size u12.heap.size u12 x14 N1 L1 y14 T1.length (seq T1)) := MU.of mh
            clear sh mh b9 hSB hBS hlt1 _hc
            have g0 := Sits.cell HHb.out 0
            have g1 := Sits.cell HHb.out 1
            have g2 := Sits.cell HHb.out 2
            have g3 := Sits.cell HHb.out 3
            have g4 := Sits.cell HHb.out 4
            have g5 := Sits.cell HHb.out 5
            have g6 := Sits.cell HHb.out 6
            have h0 := Sits.cell HWb.out 0
            have h1 := Sits.cell HWb.out 1
            have h2 := Sits.cell HWb.out 2
            have h3 := Sits.cell HWb.out 3
            have h4 := Sits.cell HWb.out 4
            have h5 := Sits.cell HWb.out 5
            have h6 := Sits.cell HWb.out 6
            go_upto_region 28 with (go_at_call 9; refine (eqShape_yes S1 x14 x6 N1 c14 c6 y14 y6 T1.length d14 d6 L1 (seq T1) _ HN1.out HL1.out HT1.out (MU.mk0 HHm.out).lr (MU.mk0 HWm.out).lr (MU.mk0 HHm.out).row (MU.mk0 HWm.out).row).mono ?_; rintro o u13 ⟨rfl, bq⟩; have hzq := bq.size; replace HX : Hid (Below W0.heap.size W0 u13) := (HX.out).trans (bq.mono (HX.out).size); replace HWb : Hid (Sits u13 V6 (shCells S1 x6 N1 c6 y6 T1.length d6) 31) := Sits.below HWb.out bq (Sits.lt HWb.out); replace HWm : Hid (MU w1.heap.size u5.heap.size u13 x6 N1 L1 y6 T1.length (seq T1)) := MU.below HWm.out bq; replace HGb : Hid (Sits u13 V9 (shCells S1 x9 N1 c9 y9 T1.length d9) 31) := Sits.below HGb.out bq (Sits.lt HGb.out); replace HGm : Hid (MU lo up u13 x9 N1 (upL L1 1) y9 T1.length (fun i => upAt L1 1 N1 + i)) := MU.below HGm.out bq; replace HHb : Hid (Sits u13 V14 (shCells S1 x14 N1 c14 y14 T1.length d14) 31) := Sits.below HHb.out bq (Sits.lt HHb.out); replace HHm : Hid (MU w11.heap.size u12.heap.size u13 x14 N1 L1 y14 T1.length (seq T1)) := MU.below HHm.out bq; clear bq hzq)
            clear g0 g1 g2 g3 g4 g5 g6 h0 h1 h2 h3 h4 h5 h6
            have g0 := Sits.cell HGb.out 0
            have g1 := Sits.cell HGb.out 1
            have g2 := Sits.cell HGb.out 2
            have g3 := Sits.cell HGb.out 3
            have g4 := Sits.cell HGb.out 4
            have g5 := Sits.cell HGb.out 5
            have g6 := Sits.cell HGb.out 6
            go_wp2_with (go_at_call 11; refine (heldShape_mk S1 x9 N1 c9 y9 T1.length d9 L1 1 _ (MU.mk0 HGm.out).lr (MU.mk0 HGm.out).row HN1.out HC1.out HT1.out (by omega) (by omega)).mono ?_; rintro o u14 ⟨rfl, bq⟩; rw [HQ1.out]; replace HX : Hid (Below W0.heap.size W0 u14) := (HX.out).trans (bq.mono (HX.out).size); replace HWb : Hid (Sits u14 V6 (shCells S1 x6 N1 c6 y6 T1.length d6) 31) := Sits.below HWb.out bq (Sits.lt HWb.out); replace HWm : Hid (MU w1.heap.size u5.heap.size u14 x6 N1 L1 y6 T1.length (seq T1)) := MU.below HWm.out bq; replace HGb : Hid (Sits u14 V9 (shCells S1 x9 N1 c9 y9 T1.length d9) 31) := Sits.below HGb.out bq (Sits.lt HGb.out); replace HGm : Hid (MU lo up u14 x9 N1 (upL L1 1) y9 T1.length (fun i => upAt L1 1 N1 + i)) := MU.below HGm.out bq; replace HHb : Hid (Sits u14 V14 (shCells S1 x14 N1 c14 y14 T1.length d14) 31) := Sits.below HHb.out bq (Sits.lt HHb.out); replace HHm : Hid (MU w11.heap.size u12.heap.size u14 x14 N1 L1 y14 T1.length (seq T1)) := MU.below HHm.out bq; clear bq)
            go_ret
            exact ⟨rfl, (HA.out _ HX.out).2⟩

section
variable {H : Type} {enc : TypeId × Value → H} {W : World} {base : Nat} {sp : Nat → Bool} {held : Bool}

set_option maxRecDepth 100000 in
theorem openInt {n : Nat} {c : Value} {y : DataW H × List MemPlace} (h : DataW.trod enc Try.prog W base sp held n 3 [c] = some y) : ∃ z : Int, c = .int .i64 z ∧ (-9223372036854775808 ≤ z ∧ z ≤ 9223372036854775807) := by
  obtain ⟨z, h1, _, hw⟩ := DataW.trod_int Try.underlying3 h
  simp only [List.cons.injEq, and_true] at h1
  exact ⟨z, h1, bd hw⟩

set_option maxRecDepth 100000 in
theorem openBool {n : Nat} {c : Value} {y : DataW H × List MemPlace} (h : DataW.trod enc Try.prog W base sp held n 4 [c] = some y) : ∃ z : Bool, c = .bool z := by
  obtain ⟨z, h1, _⟩ := DataW.trod_bool Try.underlying4 h
  simp only [List.cons.injEq, and_true] at h1
  exact ⟨z, h1⟩

set_option maxRecDepth 100000 in
theorem openCodel {fuel : Nat} {cs : List Value} {x : DataW H × List MemPlace} (h : DataW.trod enc Try.prog W base sp held fuel 67 cs = some x) :
    ∃ r : Cd, r.In ∧ cs = [.int .i64 r.tg, .int .i64 r.iv, .int .i64 r.fi, .int .i64 r.nx, .int .i64 r.ct, .int .i64 r.la, .bool r.dr] := by
  obtain ⟨xs, n, rfl, hx, hl, hxl, hall⟩ := DataW.trod_struct Try.underlying67 h
  rw [cellsCodel] at hl
  match cs, hl with
  | [c0, c1, c2, c3, c4, c5, c6], _ =>
  match xs, hxl with
  | [y0, y1, y2, y3, y4, y5, y6], _ =>
  have b0 : DataW.trod enc Try.prog W base sp held n 3 (([c0, c1, c2, c3, c4, c5, c6].drop 0).take (Try.prog.cellsOf 3)) = some y0 := hall 0 _ rfl
  rw [cellsInt] at b0
  replace b0 : DataW.trod enc Try.prog W base sp held n 3 [c0] = some y0 := b0
  have b1 : DataW.trod enc Try.prog W base sp held n 3 (([c0, c1, c2, c3, c4, c5, c6].drop 1).take (Try.prog.cellsOf 3)) = some y1 := hall 1 _ rfl
  rw [cellsInt] at b1
  replace b1 : DataW.trod enc Try.prog W base sp held n 3 [c1] = some y1 := b1
  have b2 : DataW.trod enc Try.prog W base sp held n 3 (([c0, c1, c2, c3, c4, c5, c6].drop 2).take (Try.prog.cellsOf 3)) = some y2 := hall 2 _ rfl
  rw [cellsInt] at b2
  replace b2 : DataW.trod enc Try.prog W base sp held n 3 [c2] = some y2 := b2
  have b3 : DataW.trod enc Try.prog W base sp held n 3 (([c0, c1, c2, c3, c4, c5, c6].drop 3).take (Try.prog.cellsOf 3)) = some y3 := hall 3 _ rfl
  rw [cellsInt] at b3
  replace b3 : DataW.trod enc Try.prog W base sp held n 3 [c3] = some y3 := b3
  have b4 : DataW.trod enc Try.prog W base sp held n 3 (([c0, c1, c2, c3, c4, c5, c6].drop 4).take (Try.prog.cellsOf 3)) = some y4 := hall 4 _ rfl
  rw [cellsInt] at b4
  replace b4 : DataW.trod enc Try.prog W base sp held n 3 [c4] = some y4 := b4
  have b5 : DataW.trod enc Try.prog W base sp held n 3 (([c0, c1, c2, c3, c4, c5, c6].drop 5).take (Try.prog.cellsOf 3)) = some y5 := hall 5 _ rfl
  rw [cellsInt] at b5
  replace b5 : DataW.trod enc Try.prog W base sp held n 3 [c5] = some y5 := b5
  have b6 : DataW.trod enc Try.prog W base sp held n 4 (([c0, c1, c2, c3, c4, c5, c6].drop 6).take (Try.prog.cellsOf 4)) = some y6 := hall 6 _ rfl
  rw [cellsBool] at b6
  replace b6 : DataW.trod enc Try.prog W base sp held n 4 [c6] = some y6 := b6
  obtain ⟨z0, rfl, i0⟩ := openInt (y := y0) b0
  obtain ⟨z1, rfl, i1⟩ := openInt (y := y1) b1
  obtain ⟨z2, rfl, i2⟩ := openInt (y := y2) b2
  obtain ⟨z3, rfl, i3⟩ := openInt (y := y3) b3
  obtain ⟨z4, rfl, i4⟩ := openInt (y := y4) b4
  obtain ⟨z5, rfl, i5⟩ := openInt (y := y5) b5
  obtain ⟨z6, rfl⟩ := openBool (y := y6) b6
  exact ⟨⟨z0, z1, z2, z3, z4, z5, z6⟩, ⟨i0, i1, i2, i3, i4, i5⟩, rfl⟩

set_option maxRecDepth 100000 in
theorem openPkt {fuel : Nat} {cs : List Value} {x : DataW H × List MemPlace} (h : DataW.trod enc Try.prog W base sp held fuel 27 cs = some x) :
    ∃ r : Pk, r.In ∧ cs = [.int .i64 r.id, .int .i64 r.flow, .int .i64 r.host, .int .i64 r.size, .int .i64 r.tm, .int .i64 r.ecn] := by
  obtain ⟨xs, n, rfl, hx, hl, hxl, hall⟩ := DataW.trod_struct Try.underlying27 h
  rw [cellsPkt] at hl
  match cs, hl with
  | [c0, c1, c2, c3, c4, c5], _ =>
  match xs, hxl with
  | [y0, y1, y2, y3, y4, y5], _ =>
  have b0 : DataW.trod enc Try.prog W base sp held n 3 (([c0, c1, c2, c3, c4, c5].drop 0).take (Try.prog.cellsOf 3)) = some y0 := hall 0 _ rfl
  rw [cellsInt] at b0
  replace b0 : DataW.trod enc Try.prog W base sp held n 3 [c0] = some y0 := b0
  have b1 : DataW.trod enc Try.prog W base sp held n 3 (([c0, c1, c2, c3, c4, c5].drop 1).take (Try.prog.cellsOf 3)) = some y1 := hall 1 _ rfl
  rw [cellsInt] at b1
  replace b1 : DataW.trod enc Try.prog W base sp held n 3 [c1] = some y1 := b1
  have b2 : DataW.trod enc Try.prog W base sp held n 3 (([c0, c1, c2, c3, c4, c5].drop 2).take (Try.prog.cellsOf 3)) = some y2 := hall 2 _ rfl
  rw [cellsInt] at b2
  replace b2 : DataW.trod enc Try.prog W base sp held n 3 [c2] = some y2 := b2
  have b3 : DataW.trod enc Try.prog W base sp held n 3 (([c0, c1, c2, c3, c4, c5].drop 3).take (Try.prog.cellsOf 3)) = some y3 := hall 3 _ rfl
  rw [cellsInt] at b3
  replace b3 : DataW.trod enc Try.prog W base sp held n 3 [c3] = some y3 := b3
  have b4 : DataW.trod enc Try.prog W base sp held n 3 (([c0, c1, c2, c3, c4, c5].drop 4).take (Try.prog.cellsOf 3)) = some y4 := hall 4 _ rfl
  rw [cellsInt] at b4
  replace b4 : DataW.trod enc Try.prog W base sp held n 3 [c4] = some y4 := b4
  have b5 : DataW.trod enc Try.prog W base sp held n 3 (([c0, c1, c2, c3, c4, c5].drop 5).take (Try.prog.cellsOf 3)) = some y5 := hall 5 _ rfl
  rw [cellsInt] at b5
  replace b5 : DataW.trod enc Try.prog W base sp held n 3 [c5] = some y5 := b5
  obtain ⟨z0, rfl, i0⟩ := openInt (y := y0) b0
  obtain ⟨z1, rfl, i1⟩ := openInt (y := y1) b1
  obtain ⟨z2, rfl, i2⟩ := openInt (y := y2) b2
  obtain ⟨z3, rfl, i3⟩ := openInt (y := y3) b3
  obtain ⟨z4, rfl, i4⟩ := openInt (y := y4) b4
  obtain ⟨z5, rfl, i5⟩ := openInt (y := y5) b5
  exact ⟨⟨z0, z1, z2, z3, z4, z5⟩, ⟨i0, i1, i2, i3, i4, i5⟩, rfl⟩

set_option maxRecDepth 100000 in
theorem openPkts {fuel : Nat} {cs : List Value} {x : DataW H × List MemPlace} (h : DataW.trod enc Try.prog W base sp held fuel 66 cs = some x) :
    ∃ (a : Option Addr) (len cap : Nat) (f : Nat → Pk), cs = [.slice a len cap] ∧ len ≤ cap ∧ cap ≤ maxLen ∧ PR W.heap.size W a len f ∧ ∀ i, i < len → (f i).In := by
  rcases Go.Deep.open_slice Try.underlying66 h with ⟨rfl, _⟩ | ⟨a, len, cap, m, n, D, Pl, rfl, hb, hl, hm, hmm, _, hx⟩
  · exact ⟨none, 0, 0, fun _ => default, rfl, Nat.le_refl _, Nat.zero_le _, .inl rfl, fun i hi => absurd hi (Nat.not_lt_zero _)⟩
  · have hlm : len ≤ m := by rw [hmm]; split <;> omega
    have each : ∀ i, i < len → ∃ r : Pk, r.In ∧ (∀ t, t < 6 → W.cell? ((a.add (i * 6)).add t) = some (.int .i64 (r.nth t))) := by
      intro i hi
      obtain ⟨cs', h1, h2⟩ := hx i (by omega)
      rw [cellsPkt] at h1
      obtain ⟨_, hlen, hcell⟩ := World.cells?_some h1
      obtain ⟨r, hr, rfl⟩ := openPkt h2
      refine ⟨r, hr, fun t ht => ?_⟩
      have := hcell t (by omega)
      rw [this]
      have hc : t = 0 ∨ t = 1 ∨ t = 2 ∨ t = 3 ∨ t = 4 ∨ t = 5 := by omega
      rcases hc with rfl | rfl | rfl | rfl | rfl | rfl <;> rfl
    obtain ⟨f, hf⟩ := Go.Deep.choose_lt each
    refine ⟨some a, len, cap, f, rfl, hl, hm, ?_, fun i hi => (hf i hi).1⟩
    by_cases h0 : len = 0
    · exact .inl h0
    · obtain ⟨b, off, inner⟩ := a
      have hc0 := (hf 0 (by omega)).2 0 (by omega)
      have hin : inner = none := by simpa [Addr.add] using World.cell?_spot hc0
      subst hin
      refine .inr ⟨b, off, rfl, World.block_lt_of_cell? W _ hc0, fun i hi => ?_⟩
      have hh : ∀ t, t < 6 → W.cell? ⟨b, off + i * 6 + t, none⟩ = some (.int .i64 ((f i).nth t)) := fun t ht => by
        have := (hf i hi).2 t ht
        rw [Go.WideShapes.add_plain, Go.WideShapes.add_plain] at this
        exact this
      exact ⟨hh 0 (by omega), hh 1 (by omega), hh 2 (by omega), hh 3 (by omega), hh 4 (by omega), hh 5 (by omega)⟩

set_option maxRecDepth 100000 in
theorem openLine {fuel : Nat} {cs : List Value} {x : DataW H × List MemPlace} (h : DataW.trod enc Try.prog W base sp held fuel 69 cs = some x) :
    ∃ (l : Ln) (p : Option Addr) (cap : Nat), cs = (lnCells p cap l).toList ∧ l.n ≤ cap ∧ cap ≤ maxLen ∧ PR W.heap.size W p l.n l.f := by
  obtain ⟨xs, n, rfl, hx, hl, hxl, hall⟩ := DataW.trod_struct Try.underlying69 h
  rw [cellsLine] at hl
  match cs, hl with
  | [c0, c1, c2, c3, c4, c5, c6, c7, c8], _ =>
  match xs, hxl with
  | [y0, y1, y2], _ =>
  have b0 : DataW.trod enc Try.prog W base sp held n 66 (([c0, c1, c2, c3, c4, c5, c6, c7, c8].drop 0).take (Try.prog.cellsOf 66)) = some y0 := hall 0 _ rfl
  rw [cellsSlice] at b0
  replace b0 : DataW.trod enc Try.prog W base sp held n 66 [c0] = some y0 := b0
  have b1 : DataW.trod enc Try.prog W base sp held n 3 (([c0, c1, c2, c3, c4, c5, c6, c7, c8].drop 1).take (Try.prog.cellsOf 3)) = some y1 := hall 1 _ rfl
  rw [cellsInt] at b1
  replace b1 : DataW.trod enc Try.prog W base sp held n 3 [c1] = some y1 := b1
  have b2 : DataW.trod enc Try.prog W base sp held n 67 (([c0, c1, c2, c3, c4, c5, c6, c7, c8].drop 2).take (Try.prog.cellsOf 67)) = some y2 := hall 2 _ rfl
  rw [cellsCodel] at b2
  replace b2 : DataW.trod enc Try.prog W base sp held n 67 [c2, c3, c4, c5, c6, c7, c8] = some y2 := b2
  obtain ⟨p, len, cap, f, hs, h1, h2, h3, h4⟩ := openPkts (x := y0) b0
  obtain ⟨z, rfl, iz⟩ := openInt (y := y1) b1
  obtain ⟨r, hr, hcs⟩ := openCodel (x := y2) b2
  simp only [List.cons.injEq, and_true] at hs hcs
  obtain ⟨rfl, rfl, rfl, rfl, rfl, rfl, rfl⟩ := hcs
  subst hs
  exact ⟨⟨len, f, z, r⟩, p, cap, rfl, h1, h2, h3⟩

set_option maxRecDepth 100000 in
theorem openInts {fuel : Nat} {cs : List Value} {x : DataW H × List MemPlace} (h : DataW.trod enc Try.prog W base sp held fuel 23 cs = some x) :
    ∃ (a : Option Addr) (len cap : Nat) (f : Nat → Int), cs = [.slice a len cap] ∧ len ≤ cap ∧ cap ≤ maxLen ∧ Row .i64 W a len f := by
  rcases Go.Deep.open_slice Try.underlying23 h with ⟨rfl, _⟩ | ⟨a, len, cap, m, n, D, Pl, rfl, hb, hl, hm, hmm, _, hx⟩
  · exact ⟨none, 0, 0, fun _ => 0, rfl, Nat.le_refl _, Nat.zero_le _, .inl rfl⟩
  · have hlm : len ≤ m := by rw [hmm]; split <;> omega
    have each : ∀ i, i < len → ∃ r : Int, W.cell? (a.add (i * 1)) = some (.int .i64 r) := by
      intro i hi
      obtain ⟨cs', h1, h2⟩ := hx i (by omega)
      rw [cellsInt] at h1
      obtain ⟨_, hlen, hcell⟩ := World.cells?_some h1
      match cs', hlen with
      | [c0], _ =>
      obtain ⟨z, rfl, _⟩ := openInt h2
      have := hcell 0 (by omega)
      exact ⟨z, by simpa [Addr.add] using this⟩
    obtain ⟨f, hf⟩ := Go.Deep.choose_lt each
    refine ⟨some a, len, cap, f, rfl, hl, hm, ?_⟩
    by_cases h0 : len = 0
    · exact .inl h0
    · obtain ⟨b, off, inner⟩ := a
      have hc0 := hf 0 (by omega)
      have hin : inner = none := by simpa [Addr.add] using World.cell?_spot hc0
      subst hin
      refine .inr ⟨b, off, rfl, World.block_lt_of_cell? W _ hc0, fun i hi => ?_⟩
      have := hf i hi
      rw [Go.WideShapes.add_plain, Nat.mul_one] at this
      exact this

set_option maxRecDepth 100000 in
theorem openLines {fuel : Nat} {cs : List Value} {x : DataW H × List MemPlace} (h : DataW.trod enc Try.prog W base sp held fuel 22 cs = some x) :
    ∃ (a : Option Addr) (len cap : Nat) (L : Nat → Ln), cs = [.slice a len cap] ∧ len ≤ cap ∧ cap ≤ maxLen ∧ LR W.heap.size W a len L ∧ ∀ i, i < len → (L i).n ≤ maxLen := by
  rcases Go.Deep.open_slice Try.underlying22 h with ⟨rfl, _⟩ | ⟨a, len, cap, m, n, D, Pl, rfl, hb, hl, hm, hmm, _, hx⟩
  · exact ⟨none, 0, 0, fun _ => default, rfl, Nat.le_refl _, Nat.zero_le _, .inl rfl, fun i hi => absurd hi (Nat.not_lt_zero _)⟩
  · have hlm : len ≤ m := by rw [hmm]; split <;> omega
    have each : ∀ i, i < len → ∃ l : Ln, ∃ (p : Option Addr) (c : Nat), (∀ t, t < 9 → W.cell? ((a.add (i * 9)).add t) = (lnCells p c l)[t]?) ∧ l.n ≤ c ∧ c ≤ maxLen ∧ PR W.heap.size W p l.n l.f := by
      intro i hi
      obtain ⟨cs', h1, h2⟩ := hx i (by omega)
      rw [cellsLine] at h1
      obtain ⟨_, hlen, hcell⟩ := World.cells?_some h1
      obtain ⟨l, p, c, rfl, hc1, hc2, hc3⟩ := openLine h2
      refine ⟨l, p, c, fun t ht => ?_, hc1, hc2, hc3⟩
      have := hcell t (by omega)
      rw [this]
      simp
    obtain ⟨L, hL⟩ := Go.Deep.choose_lt each
    refine ⟨some a, len, cap, L, rfl, hl, hm, ?_, fun i hi => by obtain ⟨_, c, _, h1, h2, _⟩ := hL i hi; omega⟩
    by_cases h0 : len = 0
    · exact .inl h0
    · obtain ⟨b, off, inner⟩ := a
      obtain ⟨p0, c0, hc0, _, _, _⟩ := hL 0 (by omega)
      have hc00 : W.cell? ((Addr.add ⟨b, off, inner⟩ (0 * 9)).add 0) = some (.slice p0 (L 0).n c0) := hc0 0 (by omega)
      have hin : inner = none := by simpa [Addr.add] using World.cell?_spot hc00
      subst hin
      refine .inr ⟨b, off, rfl, World.block_lt_of_cell? W _ hc00, fun i hi => ?_⟩
      obtain ⟨p, c, hc, h1, _, h3⟩ := hL i hi
      refine ⟨p, c, ?_, h1, h3⟩
      have hh : ∀ t, t < 9 → W.cell? ⟨b, off + i * 9 + t, none⟩ = (lnCells p c (L i))[t]? := fun t ht => by
        have := hc t ht
        rw [Go.WideShapes.add_plain, Go.WideShapes.add_plain] at this
        exact this
      exact ⟨hh 0 (by omega), hh 1 (by omega), hh 2 (by omega), hh 3 (by omega), hh 4 (by omega), hh 5 (by omega), hh 6 (by omega), hh 7 (by omega), hh 8 (by omega)⟩

set_option maxRecDepth 100000 in
theorem openShape {fuel : Nat} {cs : List Value} {x : DataW H × List MemPlace} (h : DataW.trod enc Try.prog W base sp held fuel 25 cs = some x) :
    ∃ (s : Sh) (a : Option Addr) (N ca : Nat) (b : Option Addr) (n c : Nat) (L : Nat → Ln) (tn : Nat → Int), ShapeIn W s a N ca b n c L tn ∧ cs = (shCells s a N ca b n c).toList := by
  obtain ⟨xs, n, rfl, hx, hl, hxl, hall⟩ := DataW.trod_struct Try.underlying25 h
  rw [cellsShape] at hl
  match cs, hl with
  | [c0, c1, c2, c3, c4, c5, c6], _ =>
  match xs, hxl with
  | [y0, y1, y2, y3, y4, y5, y6], _ =>
  have b0 : DataW.trod enc Try.prog W base sp held n 3 (([c0, c1, c2, c3, c4, c5, c6].drop 0).take (Try.prog.cellsOf 3)) = some y0 := hall 0 _ rfl
  rw [cellsInt] at b0
  replace b0 : DataW.trod enc Try.prog W base sp held n 3 [c0] = some y0 := b0
  have b1 : DataW.trod enc Try.prog W base sp held n 3 (([c0, c1, c2, c3, c4, c5, c6].drop 1).take (Try.prog.cellsOf 3)) = some y1 := hall 1 _ rfl
  rw [cellsInt] at b1
  replace b1 : DataW.trod enc Try.prog W base sp held n 3 [c1] = some y1 := b1
  have b2 : DataW.trod enc Try.prog W base sp held n 3 (([c0, c1, c2, c3, c4, c5, c6].drop 2).take (Try.prog.cellsOf 3)) = some y2 := hall 2 _ rfl
  rw [cellsInt] at b2
  replace b2 : DataW.trod enc Try.prog W base sp held n 3 [c2] = some y2 := b2
  have b3 : DataW.trod enc Try.prog W base sp held n 3 (([c0, c1, c2, c3, c4, c5, c6].drop 3).take (Try.prog.cellsOf 3)) = some y3 := hall 3 _ rfl
  rw [cellsInt] at b3
  replace b3 : DataW.trod enc Try.prog W base sp held n 3 [c3] = some y3 := b3
  have b4 : DataW.trod enc Try.prog W base sp held n 3 (([c0, c1, c2, c3, c4, c5, c6].drop 4).take (Try.prog.cellsOf 3)) = some y4 := hall 4 _ rfl
  rw [cellsInt] at b4
  replace b4 : DataW.trod enc Try.prog W base sp held n 3 [c4] = some y4 := b4
  have b5 : DataW.trod enc Try.prog W base sp held n 22 (([c0, c1, c2, c3, c4, c5, c6].drop 5).take (Try.prog.cellsOf 22)) = some y5 := hall 5 _ rfl
  rw [cellsLines] at b5
  replace b5 : DataW.trod enc Try.prog W base sp held n 22 [c5] = some y5 := b5
  have b6 : DataW.trod enc Try.prog W base sp held n 23 (([c0, c1, c2, c3, c4, c5, c6].drop 6).take (Try.prog.cellsOf 23)) = some y6 := hall 6 _ rfl
  rw [cellsInts] at b6
  replace b6 : DataW.trod enc Try.prog W base sp held n 23 [c6] = some y6 := b6
  obtain ⟨z0, rfl, i0⟩ := openInt (y := y0) b0
  obtain ⟨z1, rfl, i1⟩ := openInt (y := y1) b1
  obtain ⟨z2, rfl, i2⟩ := openInt (y := y2) b2
  obtain ⟨z3, rfl, i3⟩ := openInt (y := y3) b3
  obtain ⟨z4, rfl, i4⟩ := openInt (y := y4) b4
  obtain ⟨a, N, ca, L, hs2, l1, l2, l3, l4⟩ := openLines (x := y5) b5
  obtain ⟨b, m, cb, tn, hs3, m1, m2, m3⟩ := openInts (x := y6) b6
  simp only [List.cons.injEq, and_true] at hs2 hs3
  subst hs2 hs3
  exact ⟨⟨z0, z1, z2, z3, z4⟩, a, N, ca, b, m, cb, L, tn, ⟨i0, i1, i2, i3, i4, l1, l2, l4, m1, m2, l3, m3⟩, rfl⟩

end

set_option maxRecDepth 100000 in
theorem lifted (os : Os) (started : os.Started) (H : Type) (enc : TypeId × Value → H) :
    ReturnsInHanded {} Try.checked os 3 .any (Rows.fnExactShapePushSpec.pre6 enc Try.prog Try.f3 Rows.fnExactShapePushRow.domain false) (Rows.fnExactShapePushSpec.post enc Try.prog Try.f3 false true false false) := by
  refine returnsInHanded_of_change (C := Try.checked) own started (by kernel_rfl) Try.func3
    (ChangeSpec.witness6 (enc := enc) (C := Try.checked) false ⟨#[], #[.agg #[.int .i64 0, .int .i64 0, .int .i64 0, .int .i64 0, .int .i64 0, .slice none 0 0, .slice none 0 0], .agg #[.int .i64 0, .int .i64 0, .int .i64 0, .int .i64 0, .int .i64 0, .int .i64 0]], []⟩ 8 (by kernel_rfl) (by kernel_rfl) (by kernel_rfl) (by kernel_rfl)) ?_
  intro W base args ds gs before hval0 hW hcnd _
  have hval : ∀ (j : Nat) t v, Try.f3.params[j]? = some t → args[j]? = some v → Value.okWide Try.prog W .any base t v := hval0
  have hW' := hW
  obtain ⟨p, q, hA0, hV, rfl, hfz, hnd⟩ := hW
  have hA : DataW.TrodAll enc Try.prog W 0 (fun _ => true) true Try.f3.params.toList args.toList ds p := hA0
  rw [Try.params3] at hA hval
  obtain ⟨v0, vs0, d0, ds0, p0, q0, hargs, rfl, rfl, h0, tl0⟩ := trodAll_cons hA
  obtain ⟨v1, vs1, d1, ds1, p1, q1, rfl, rfl, rfl, h1, tl1⟩ := trodAll_cons tl0
  obtain ⟨rfl, rfl, rfl⟩ := trodAll_nil tl1
  obtain rfl : args = #[v0, v1] := by cases args; simp_all
  obtain ⟨rfl, rfl⟩ := trodVars_none hV
  have k0 := h0
  have lt0 : ∀ x ∈ p0, x.block < W.heap.size := by obtain ⟨m, hm⟩ := k0; exact DataW.trod_lt m _ _ _ hm
  have k1 := h1
  have lt1 : ∀ x ∈ p1, x.block < W.heap.size := by obtain ⟨m, hm⟩ := k1; exact DataW.trod_lt m _ _ _ hm
  obtain ⟨cs0, rfl, hcs0⟩ := okWide_struct Try.underlying25 (hval 0 25 v0 rfl rfl)
  obtain ⟨s0, a0, N0, ca0, b0, n0, cb0, L0, tn0, hin0, hrc0⟩ : ∃ (s : Sh) (a : Option Addr) (N ca : Nat) (b : Option Addr) (n c : Nat) (L : Nat → Ln) (tn : Nat → Int), ShapeIn W s a N ca b n c L tn ∧ cs0 = shCells s a N ca b n c := by
    obtain ⟨fuel, hf⟩ := h0
    obtain ⟨s, a, N, ca, b, n, c, L, tn, hin, hcs'⟩ := openShape hf
    have hc2 : cs0 = (cs0.toList).toArray := by simp
    have hcl : cs0.toList = (shCells s a N ca b n c).toList := by simpa [Value.cells] using hcs'
    rw [hcl] at hc2
    exact ⟨s, a, N, ca, b, n, c, L, tn, hin, hc2⟩
  subst hrc0
  obtain ⟨cs1, rfl, hcs1⟩ := okWide_struct Try.underlying27 (hval 1 27 v1 rfl rfl)
  obtain ⟨p1, hin1, hrc1⟩ : ∃ p1 : Pk, p1.In ∧ cs1 = #[.int .i64 p1.id, .int .i64 p1.flow, .int .i64 p1.host, .int .i64 p1.size, .int .i64 p1.tm, .int .i64 p1.ecn] := by
    obtain ⟨fuel, hf⟩ := h1
    obtain ⟨r, hin, hcs'⟩ := openPkt hf
    have hc2 : cs1 = (cs1.toList).toArray := by simp
    have hcl : cs1.toList = [.int .i64 r.id, .int .i64 r.flow, .int .i64 r.host, .int .i64 r.size, .int .i64 r.tm, .int .i64 r.ecn] := by simpa [Value.cells] using hcs'
    rw [hcl] at hc2
    exact ⟨r, hin, hc2⟩
  subst hrc1
  clear hA0 hval0
  refine (walk s0 a0 N0 ca0 b0 n0 cb0 L0 tn0 p1 hin1 W hin0).mono fun e W' ⟨he, bel⟩ => ?_
  subst he
  exact ⟨_, rfl, _, _, _, [], _, [], hW', trodAll_mk1 (shut_bool Try.underlying4 _), (trodAll_cons_mk (Below.trod laidOut (by kernel_rfl) (of_decide_eq_true (by kernel_rfl)) k0 bel lt0) (trodAll_cons_mk (Below.trod laidOut (by kernel_rfl) (of_decide_eq_true (by kernel_rfl)) k1 bel lt1) trodAll_mk0)), rfl, bel.frame _, fun h => by cases h⟩

theorem over : Rows.fnExactShapePushRow.holds Try.pinned (OpenSpec.ofChange Rows.fnExactShapePushSpec) :=
  OpenClaim.holds_of_wide 3 Try.f3 rfl rfl rfl rfl rfl rfl rfl ⟨rfl, rfl, rfl, rfl, rfl⟩ rfl rfl rfl rfl rfl (by kernel_rfl) Try.func3 (by kernel_rfl)
    (of_decide_eq_true (by kernel_rfl)) (by unfold Func.isWrapper; first | (rw [if_pos (by decide +kernel)]; kernel_rfl) | (rw [if_neg (by decide +kernel)]; exact ⟨rfl, rfl⟩))
    (fun os started H enc _ => lifted os started H enc)

theorem proved : Rows.FnExactShapePushSaid := over
end Go.Proofs.Ytehlcekfccjahaa.fnExactShapePush
namespace Go.Proofs.Ytehlcekfccjahaa
theorem fnExactShapePush_holds : Rows.FnExactShapePushSaid := fnExactShapePush.proved
#print axioms fnExactShapePush_holds
end Go.Proofs.Ytehlcekfccjahaa
