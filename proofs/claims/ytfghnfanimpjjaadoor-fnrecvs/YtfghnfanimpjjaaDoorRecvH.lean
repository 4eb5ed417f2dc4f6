/-
  WHAT A RECEIVER HAS: the iterator pieces over a receiver that is well, told piece by piece; RecvHas of both sides.
-/
import Derived.Test.YtfghnfanimpjjaaDoorRecvI
namespace Go.Proofs.YtfghnfanimpjjaaDoor
open Go.RowKit Go.Shelf
set_option linter.unusedVariables false
attribute [local go_sem] Oper.semAt_some

/-- Piece k of what a receiver has: what lies below Next, then its spans. -/
def pieceF (nx : Int) (f : Nat → Sp) (k : Nat) : Sp := if k = 0 then ⟨0, nx⟩ else f (k - 1)
/-- Where what is ahead of piece k ends. -/
def aheadF (nx : Int) (f : Nat → Sp) (k : Nat) : Int := if k = 0 then 0 else endF nx f (k - 1)
theorem pieceF_succ (nx : Int) (f : Nat → Sp) (k : Nat) : pieceF nx f (k + 1) = f k := by unfold pieceF; rw [if_neg (by omega), Nat.add_sub_cancel]
theorem aheadF_succ (nx : Int) (f : Nat → Sp) (k : Nat) : aheadF nx f (k + 1) = endF nx f k := by unfold aheadF; rw [if_neg (by omega), Nat.add_sub_cancel]
def inPc (nx : Int) (f : Nat → Sp) (at' : Int) (k : Nat) : Prop := (pieceF nx f k).fr ≤ at' ∧ at' < (pieceF nx f k).to
instance (nx : Int) (f : Nat → Sp) (at' : Int) (k : Nat) : Decidable (inPc nx f at' k) := by unfold inPc; infer_instance
def hasP (nx : Int) (f : Nat → Sp) (n : Nat) (at' : Int) : Prop := ∃ k, k < n + 1 ∧ inPc nx f at' k
instance (nx : Int) (f : Nat → Sp) (n : Nat) (at' : Int) : Decidable (hasP nx f n at') := by unfold hasP; infer_instance
def hasB (nx : Int) (f : Nat → Sp) (n : Nat) (at' : Int) : Bool := recvB nx f n && decide (hasP nx f n at')

/-- The ends of the first ones lie above 0. -/
theorem end_bd {nx : Int} {f : Nat → Sp} {n : Nat} (h : recvP nx f n) : ∀ k, k ≤ n → 0 ≤ endF nx f k ∧ endF nx f k ≤ 1000000000000 := by
  intro k
  induction k with
  | zero => intro _; exact ⟨h.1, h.2.1⟩
  | succ k ih =>
    intro hk
    have h1 := ih (by omega)
    have h2 := h.2.2.2 k (by omega)
    rw [endF_succ]
    omega
theorem piece_bd {nx : Int} {f : Nat → Sp} {n : Nat} (h : recvP nx f n) {k : Nat} (hk : k < n + 1) : 0 ≤ (pieceF nx f k).to ∧ (pieceF nx f k).to ≤ 1000000000000 := by
  by_cases e : k = 0
  · subst e; exact ⟨h.1, h.2.1⟩
  · obtain ⟨j, rfl⟩ : ∃ j, k = j + 1 := ⟨k - 1, by omega⟩
    rw [pieceF_succ]
    have := end_bd h (j + 1) (by omega)
    rwa [endF_succ] at this

abbrev UptoS (n : Nat) := { j : Nat // j < n }
theorem abides_allocS {β : Type} {B : Nat} {J : β → World → Prop} (h : AbidesFrom B J) {s : β} {W : World} (o : Obj) (hs : J s W) : J s (W.alloc o) :=
  h s W _ none hs (World.grownBy_alloc W o none) (fun r e => by cases e)
/-- What lay below n₀ stays, and so do the cells from m₀ on. -/
def KpF (n₀ m₀ : Nat) (A B : World) : Prop := Below n₀ A B ∧ ∀ (k : Nat) (c : Array Value) (t : TypeId), m₀ ≤ k → A.heap[k]? = some (.cells c t) → B.heap[k]? = some (.cells c t)
theorem kpF_t {n₀ m₀ : Nat} {A B C : World} (h : KpF n₀ m₀ A B) (k : KpF n₀ m₀ B C) : KpF n₀ m₀ A C := ⟨h.1.trans k.1, fun i c t hi hc => k.2 i c t hi (h.2 i c t hi hc)⟩
theorem kpF_b {n₀ m₀ : Nat} {w : World} (hn : n₀ ≤ w.heap.size) (W : World) (l : Nat) (o o' : Obj) (hl : w.heap.size ≤ l) (h : W.heap[l]? = some o) (hc : o.isCells = false) (hw : o.isWalk = false) : KpF n₀ m₀ W (W.putObj l o') :=
  ⟨belowK_b hn W l o o' hl h hc hw, fun k c t _ hk => (World.putObj_heap_other (fun e => by subst e; rw [h] at hk; cases hk; cases hc)).trans hk⟩
theorem KpF.refl (n₀ m₀ : Nat) (A : World) : KpF n₀ m₀ A A := ⟨Below.refl _ _, fun _ _ _ _ h => h⟩
theorem KpF.below {n₀ m₀ : Nat} {A B : World} (h : Below A.heap.size A B) (hn : n₀ ≤ A.heap.size) : KpF n₀ m₀ A B := ⟨h.mono hn, fun k c t _ hk => (h.block k (Array.getElem?_eq_some_iff.1 hk).1).trans hk⟩
theorem sits_own {β : Type} (B : Nat) (vs : Array Value) (t : TypeId) : Go.Own (fun (_ : β) W => Sits W B vs t) := fun s X Y row hs hg hrow =>
  (hg.block B (Sits.lt hs) (fun e => by obtain ⟨o, ho, hc⟩ := hrow B e.symm; rw [show X.heap[B]? = _ from hs] at ho; cases ho; cases hc)).trans hs
theorem keepsFrom_belowS {B : Nat} {W W' : World} (h : Below W.heap.size W W') : KeepsFrom B W W' := ⟨h.size, fun k o _ hk _ => (h.block k (Array.getElem?_eq_some_iff.1 hk).1).trans hk⟩

set_option maxRecDepth 100000 in
set_option maxHeartbeats 4000000 in
theorem pieces1_in (m : Nat) (hm : 1 ≤ m) (l Bs n₀ m₀ n c : Nat) (a : Option Addr) (f : Nat → Sp) (nx : Int) (hn : n ≤ 8) (J Jx : List (UptoS (n + 1)) → World → Prop) (W : World)
    (hJ : AbidesFrom W.heap.size J)
    (hY : ∀ pre x W, J pre W → pre.length < n + 1 → YieldAt Fence.wide (m - 1) Tryd.prog l #[.int .i64 (aheadF nx f x.1), (pieceF nx f x.1).val] W fun e W' =>
      (e = .returned (.bool true) ∧ J (pre ++ [x]) W' ∧ KpF n₀ m₀ W W') ∨ (e = .returned (.bool false) ∧ Jx (pre ++ [x]) W'))
    (hBs : Sits W Bs (rcCells nx a n c) 25) (hB0 : Bs < n₀) (hn₀ : n₀ ≤ W.heap.size) (hm₀ : m₀ ≤ W.heap.size) (hc : SR n₀ W a n f) (good : okS nx f n) (h0 : J [] W) :
    CallsIn Fence.wide m Tryd.prog 23 #[.func (.yield l) #[] #[], .pointer (some ⟨Bs, 0, none⟩)] W fun e W' => (∃ v, e = .returned v) ∧
      ((∃ ys, ys.map (·.1) = List.range (n + 1) ∧ J ys W') ∨ (∃ pre, True ∧ Jx pre W')) := by
  refine callsIn_of_wp Tryd.func23 rfl trivial ?_ rfl
  simp only [Tryd.ntmps23, List.size_toArray, List.length_cons, List.length_nil, Nat.reduceAdd, Nat.reduceSub, Array.replicate_succ, Array.replicate_zero, List.push_toArray, List.append_toArray, List.nil_append, List.cons_append]
  have HC : Hid (SR n₀ W a n f) := hc
  have HS : Hid (∀ V, Below n₀ W V → Sits V Bs (rcCells nx a n c) 25) := fun V h => hBs.below h hB0
  have GOOD : Hid (okS nx f n) := good
  obtain ⟨q0, q1⟩ := rc_cells hBs
  clear hc hBs good
  have hy0 := hY [] ⟨0, by omega⟩ W h0 (by simp)
  rw [show aheadF nx f 0 = 0 from rfl, show pieceF nx f 0 = ⟨0, nx⟩ from rfl] at hy0
  obtain ⟨fn, tmps, assign, body, hy, hR⟩ := hy0
  gi_wp2
  refine hR.mono ?_
  rintro e W2 (⟨rfl, hJ2, hb2⟩ | ⟨rfl, hJx2⟩)
  case inr =>
    gi_wp2
    refine bodyPost_ret (results_none rfl _ _ _) rfl ?_
    exact ⟨⟨_, rfl⟩, .inr ⟨_, trivial, hJx2⟩⟩
  case inl =>
  clear hy hR q0 q1
  obtain ⟨q0, q1⟩ := rc_cells (HS.out _ hb2.1)
  gi_wp2
  gi_loopw [3, 17] (fun e i wr => ∃ (k : Nat) (ys : List (UptoS (n + 1))), (k : Int) ≤ (n : Int) ∧ e = .int .i64 (endF nx f k) ∧ i = .int .i64 k ∧ ys.map (·.1) = List.range (k + 1) ∧ J ys wr ∧ Below n₀ W wr) (fun _ i _ => n - (intOf i).toNat)
  case atStart => exact ⟨0, [⟨0, by omega⟩], by omega, rfl, rfl, rfl, hJ2, hb2.1⟩
  case round =>
    obtain ⟨k, ys, hk, rfl, rfl, hys, hJs, hnx⟩ := hrel
    obtain ⟨E, hE⟩ : ∃ E, endF nx f k = E := ⟨_, rfl⟩
    rw [hE]
    have HEE : Hid (endF nx f k = E) := hE
    clear hE q0 q1
    by_cases hlt : k < n
    · have hyl : ys.length = k + 1 := by have := congrArg List.length hys; simpa using this
      obtain ⟨b, off, rfl, hbl, hcs⟩ := SR.at HC.out hlt
      obtain ⟨c0, c1⟩ := (hcs k hlt).below hnx hbl
      clear hcs
      have hlt' : (k : Int) < (n : Int) := by omega
      have hsz := hnx.size
      have hba : Below n₀ W (wr.alloc (.cells (spCells (f k)) 34)) := hnx.alloc (Nat.le_trans hn₀ (by omega)) _
      have gd := GOOD.out k hlt
      rw [HEE.out] at gd
      obtain ⟨g1, g2, g3⟩ := gd
      have d0 : decide ((f k).fr ≤ E) = false := by simp; omega
      have d1 : decide ((f k).to ≤ (f k).fr) = false := by simp; omega
      have d2 : decide (1000000000000 < (f k).to) = false := by simp; omega
      have hy0 := hY ys ⟨k + 1, by omega⟩ _ (abides_allocS hJ (.cells (spCells (f k)) 34) hJs) (by omega)
      dsimp only at hy0
      rw [aheadF_succ, pieceF_succ, HEE.out] at hy0
      obtain ⟨fn, tmps, assign, body, hy, hR⟩ := hy0
      gi_wp2
      refine hR.mono ?_
      rintro e W3 (⟨rfl, hJ3, hb3⟩ | ⟨rfl, hJx3⟩)
      · clear hy hR
        have g1 : Sits W3 wr.heap.size (spCells (f k)) 34 := hb3.2 _ _ _ (by omega) (Sits.new wr _ _)
        have y0 : W3.cell? ⟨wr.heap.size, 0, none⟩ = some (.int .i64 (f k).fr) := g1.cell 0
        have y1 : W3.cell? ⟨wr.heap.size, 1, none⟩ = some (.int .i64 (f k).to) := g1.cell 1
        gi_wp2
        go_roundw
        case rel => exact ⟨k + 1, ys ++ [⟨k + 1, by omega⟩], by omega, by rw [endF_succ], by go_num, by rw [List.map_append, hys, List.range_succ (n := k + 1)]; rfl, hJ3, hba.trans hb3.1⟩
        case measure => simp [intOf]; omega
      · gi_wp2
        refine bodyPost_ret (results_none rfl _ _ _) rfl ?_
        exact ⟨⟨_, rfl⟩, .inr ⟨_, trivial, hJx3⟩⟩
    · have hkn : k = n := by omega
      have hlt' : ¬ (k : Int) < (n : Int) := by omega
      have HYS : Hid (ys.map (·.1) = List.range (n + 1)) := hys.trans (congrArg (fun x => List.range (x + 1)) hkn)
      clear hkn
      gi_wp2
      go_end0
      exact ⟨⟨_, rfl⟩, .inl ⟨ys, by first | exact HYS.out | simpa [List.range_succ] using HYS.out, hJs⟩⟩

/-- pieces hands back a value that tells the pieces in order, whatever loop body keeps what lay, and the boxes laid since. -/
theorem pieces_stops (m : Nat) (hm : 1 ≤ m) (Bs n₀ n c : Nat) (a : Option Addr) (f : Nat → Sp) (nx : Int) (hn : n ≤ 8) (w : World) (hBs : Sits w Bs (rcCells nx a n c) 25) (hB0 : Bs < n₀) (hn₀ : n₀ ≤ w.heap.size) (hP : SR n₀ w a n f) (good : okS nx f n) :
    SeqStopsK Fence.wide m Tryd.prog 23 #[.pointer (some ⟨Bs, 0, none⟩)] (fun x : UptoS (n + 1) => #[Value.int .i64 (aheadF nx f x.1), (pieceF nx f x.1).val]) (KpF n₀ w.heap.size) (fun ys => ys.map (·.1) = List.range (n + 1)) (fun _ => True) (n + 1) w := fun l J Jx W hW hJ _ hY h0 =>
  pieces1_in m hm l Bs n₀ w.heap.size n c a f nx hn J Jx W hJ hY (hBs.below hW hBs.lt) hB0 (Nat.le_trans hn₀ hW.size) hW.size (hP.below (hW.mono hn₀)) good h0

end Go.Proofs.YtfghnfanimpjjaaDoor
