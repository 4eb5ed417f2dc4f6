/-
  THE ITERATOR pieces OVER A RECEIVER THAT IS WELL, where the loop's body may write into lists that lie in named boxes (own): all else stays.
-/
import Derived.Test.YtfghnfanimpjjaaDoorRecvH
namespace Go.Proofs.YtfghnfanimpjjaaDoor
open Go.RowKit Go.Shelf
set_option linter.unusedVariables false
attribute [local go_sem] Oper.semAt_some

/-- Block k is that of a list in one of the boxes. -/
def Owned (own : List Nat) (A : World) (k : Nat) : Prop := ∃ H ∈ own, ∃ l c, A.cell? ⟨H, 0, none⟩ = some (.slice (some ⟨k, 0, none⟩) l c)
/-- What lay below n₀ stays; so do the cells from m₀ on, but those of the lists in the boxes; these lists' blocks are elder ones' or new. -/
structure KpG (own : List Nat) (n₀ m₀ : Nat) (A B : World) : Prop where
  below : Below n₀ A B
  size : A.heap.size ≤ B.heap.size
  lie : (∀ k, Owned own A k → k < A.heap.size) → ∀ k, Owned own B k → k < B.heap.size
  new : ∀ k, Owned own B k → Owned own A k ∨ A.heap.size ≤ k
  cells : ∀ (k : Nat) (c : Array Value) (t : TypeId), m₀ ≤ k → ¬ Owned own A k → k ∉ own → A.heap[k]? = some (.cells c t) → B.heap[k]? = some (.cells c t)
theorem KpG.refl (own : List Nat) (n₀ m₀ : Nat) (A : World) : KpG own n₀ m₀ A A := ⟨Below.refl _ _, Nat.le_refl _, fun h => h, fun _ h => .inl h, fun _ _ _ _ _ _ h => h⟩
theorem kpG_t {own : List Nat} {n₀ m₀ : Nat} {A B C : World} (h : KpG own n₀ m₀ A B) (k : KpG own n₀ m₀ B C) : KpG own n₀ m₀ A C :=
  ⟨h.below.trans k.below, Nat.le_trans h.size k.size, fun hA => k.lie (h.lie hA), fun i hi => (k.new i hi).elim (h.new i) (fun hk => .inr (Nat.le_trans h.size hk)),
   fun i c t hi ho hm hc => k.cells i c t hi (fun hb => (h.new i hb).elim ho (fun hs => by have := (Array.getElem?_eq_some_iff.1 hc).1; omega)) hm (h.cells i c t hi ho hm hc)⟩
/-- Where the boxes hold what they held. -/
theorem KpG.same {own : List Nat} {n₀ m₀ : Nat} {A B : World} (hb : Below n₀ A B) (hs : A.heap.size ≤ B.heap.size) (ho : ∀ H ∈ own, B.cell? ⟨H, 0, none⟩ = A.cell? ⟨H, 0, none⟩) (hc : ∀ (k : Nat) (c : Array Value) (t : TypeId), A.heap[k]? = some (.cells c t) → B.heap[k]? = some (.cells c t)) : KpG own n₀ m₀ A B := by
  have e : ∀ k, Owned own B k → Owned own A k := fun k ⟨H, hH, l, c, h⟩ => ⟨H, hH, l, c, (ho H hH).symm.trans h⟩
  exact ⟨hb, hs, fun hA k hk => Nat.lt_of_lt_of_le (hA k (e k hk)) hs, fun k hk => .inl (e k hk), fun k c t _ _ _ h => hc k c t h⟩
theorem kpG_b {own : List Nat} {n₀ m₀ : Nat} {w : World} (hn : n₀ ≤ w.heap.size) (hoH : ∀ H ∈ own, H < w.heap.size) (W : World) (l : Nat) (o o' : Obj) (hl : w.heap.size ≤ l) (h : W.heap[l]? = some o) (hc : o.isCells = false) (hw : o.isWalk = false) : KpG own n₀ m₀ W (W.putObj l o') :=
  KpG.same (belowK_b hn W l o o' hl h hc hw) (by simp) (fun H hH => World.cell?_of_block (World.putObj_heap_other (by have := hoH H hH; show H ≠ l; omega)))
    (fun k c t hk => (World.putObj_heap_other (fun e => by subst e; rw [h] at hk; cases hk; cases hc)).trans hk)
theorem KpG.later {own : List Nat} {n₀ m₀ : Nat} {A B : World} (h : Below A.heap.size A B) (hn : n₀ ≤ A.heap.size) (hoH : ∀ H ∈ own, H < A.heap.size) : KpG own n₀ m₀ A B :=
  KpG.same (h.mono hn) h.size (fun H hH => h.cell (p := ⟨H, 0, none⟩) (hoH H hH)) (fun k c t hk => (h.block k (Array.getElem?_eq_some_iff.1 hk).1).trans hk)
theorem own_alloc {own : List Nat} {A : World} (hoH : ∀ H ∈ own, H < A.heap.size) (o : Obj) {k : Nat} (h : Owned own (A.alloc o) k) : Owned own A k := by
  obtain ⟨H, hH, l, c, hc⟩ := h
  exact ⟨H, hH, l, c, (World.cell?_alloc_old A o ⟨H, 0, none⟩ (by have := hoH H hH; show H ≠ _; omega)).symm.trans hc⟩

set_option maxRecDepth 100000 in
set_option maxHeartbeats 4000000 in
theorem pieces2_in (own : List Nat) (m : Nat) (hm : 1 ≤ m) (l Bs n₀ m₀ n c : Nat) (a : Option Addr) (f : Nat → Sp) (nx : Int) (hn : n ≤ 8) (J Jx : List (UptoS (n + 1)) → World → Prop) (W : World)
    (hJ : AbidesFrom W.heap.size J)
    (hY : ∀ pre x W, J pre W → pre.length < n + 1 → YieldAt Fence.wide (m - 1) Tryd.prog l #[.int .i64 (aheadF nx f x.1), (pieceF nx f x.1).val] W fun e W' =>
      (e = .returned (.bool true) ∧ J (pre ++ [x]) W' ∧ KpG own n₀ m₀ W W') ∨ (e = .returned (.bool false) ∧ Jx (pre ++ [x]) W'))
    (hoH : ∀ H ∈ own, H < W.heap.size) (hoO : ∀ k, ¬ Owned own W k) (hoB : Bs ∉ own) (hBm : m₀ ≤ Bs)
    (hBs : Sits W Bs (rcCells nx a n c) 25) (hn₀ : n₀ ≤ W.heap.size) (hm₀ : m₀ ≤ W.heap.size) (hc : SR n₀ W a n f) (good : okS nx f n) (h0 : J [] W) :
    CallsIn Fence.wide m Tryd.prog 23 #[.func (.yield l) #[] #[], .pointer (some ⟨Bs, 0, none⟩)] W fun e W' => (∃ v, e = .returned v) ∧
      ((∃ ys, ys.map (·.1) = List.range (n + 1) ∧ J ys W') ∨ (∃ pre, True ∧ Jx pre W')) := by
  refine callsIn_of_wp Tryd.func23 rfl trivial ?_ rfl
  simp only [Tryd.ntmps23, List.size_toArray, List.length_cons, List.length_nil, Nat.reduceAdd, Nat.reduceSub, Array.replicate_succ, Array.replicate_zero, List.push_toArray, List.append_toArray, List.nil_append, List.cons_append]
  have HC : Hid (SR n₀ W a n f) := hc
  have GOOD : Hid (okS nx f n) := good
  have HBS : Hid (Sits W Bs (rcCells nx a n c) 25) := hBs
  obtain ⟨q0, q1⟩ := rc_cells hBs
  clear hc hBs good
  have hy0 := hY [] ⟨0, by omega⟩ W h0 (by simp)
  rw [show aheadF nx f 0 = 0 from rfl, show pieceF nx f 0 = ⟨0, nx⟩ from rfl] at hy0
  obtain ⟨fn, tmps, assign, body, hy, hR⟩ := hy0
  gi_wp2
  refine hR.mono ?_
  rintro e W2 (⟨rfl, hJ2, hb2⟩ | ⟨rfl, hJx2⟩)
  case inr =>
    gi_wp2
    refine bodyPost_ret (results_none rfl _ _ _) rfl ?_
    exact ⟨⟨_, rfl⟩, .inr ⟨_, trivial, hJx2⟩⟩
  case inl =>
  clear hy hR q0 q1
  obtain ⟨q0, q1⟩ := rc_cells (hb2.cells Bs _ _ hBm (hoO Bs) hoB HBS.out)
  have ho2 : ∀ k, Owned own W2 k → k < W2.heap.size := hb2.lie (fun k hk => absurd hk (hoO k))
  gi_wp2
  gi_loopw [3, 17] (fun e i wr => ∃ (k : Nat) (ys : List (UptoS (n + 1))), (k : Int) ≤ (n : Int) ∧ e = .int .i64 (endF nx f k) ∧ i = .int .i64 k ∧ ys.map (·.1) = List.range (k + 1) ∧ J ys wr ∧ Below n₀ W wr ∧ W.heap.size ≤ wr.heap.size ∧ ∀ k, Owned own wr k → k < wr.heap.size) (fun _ i _ => n - (intOf i).toNat)
  case atStart => exact ⟨0, [⟨0, by omega⟩], by omega, rfl, rfl, rfl, hJ2, hb2.below, hb2.size, ho2⟩
  case round =>
    obtain ⟨k, ys, hk, rfl, rfl, hys, hJs, hnx, hsz, hob⟩ := hrel
    have HOB : Hid (∀ k, Owned own wr k → k < wr.heap.size) := hob
    obtain ⟨E, hE⟩ : ∃ E, endF nx f k = E := ⟨_, rfl⟩
    rw [hE]
    have HEE : Hid (endF nx f k = E) := hE
    clear hE q0 q1 hob ho2
    by_cases hlt : k < n
    · have hyl : ys.length = k + 1 := by have := congrArg List.length hys; simpa using this
      obtain ⟨b, off, rfl, hbl, hcs⟩ := SR.at HC.out hlt
      obtain ⟨c0, c1⟩ := (hcs k hlt).below hnx hbl
      clear hcs
      have hlt' : (k : Int) < (n : Int) := by omega
      have hba : Below n₀ W (wr.alloc (.cells (spCells (f k)) 34)) := hnx.alloc (Nat.le_trans hn₀ (by omega)) _
      have gd := GOOD.out k hlt
      rw [HEE.out] at gd
      obtain ⟨g1, g2, g3⟩ := gd
      have d0 : decide ((f k).fr ≤ E) = false := by simp; omega
      have d1 : decide ((f k).to ≤ (f k).fr) = false := by simp; omega
      have d2 : decide (1000000000000 < (f k).to) = false := by simp; omega
      have HOH : Hid (∀ H ∈ own, H < wr.heap.size) := fun H hH => Nat.lt_of_lt_of_le (hoH H hH) hsz
      have hy0 := hY ys ⟨k + 1, by omega⟩ _ (abides_allocS hJ (.cells (spCells (f k)) 34) hJs) (by omega)
      dsimp only at hy0
      rw [aheadF_succ, pieceF_succ, HEE.out] at hy0
      obtain ⟨fn, tmps, assign, body, hy, hR⟩ := hy0
      gi_wp2
      refine hR.mono ?_
      rintro e W3 (⟨rfl, hJ3, hb3⟩ | ⟨rfl, hJx3⟩)
      · clear hy hR
        have hno : ¬ Owned own (wr.alloc (.cells (spCells (f k)) 34)) wr.heap.size := fun h => by
          have := HOB.out _ (own_alloc HOH.out _ h)
          omega
        have g1 : Sits W3 wr.heap.size (spCells (f k)) 34 := hb3.cells _ _ _ (by omega) hno (fun h => by have := HOH.out _ h; omega) (Sits.new wr _ _)
        have y0 : W3.cell? ⟨wr.heap.size, 0, none⟩ = some (.int .i64 (f k).fr) := g1.cell 0
        have y1 : W3.cell? ⟨wr.heap.size, 1, none⟩ = some (.int .i64 (f k).to) := g1.cell 1
        have s3 := hb3.size
        rw [World.size_alloc] at s3
        gi_wp2
        go_roundw
        case rel => exact ⟨k + 1, ys ++ [⟨k + 1, by omega⟩], by omega, by rw [endF_succ], by go_num, by rw [List.map_append, hys, List.range_succ (n := k + 1)]; rfl, hJ3, hba.trans hb3.below, by omega, hb3.lie (fun j hj => by rw [World.size_alloc]; exact Nat.lt_succ_of_lt (HOB.out j (own_alloc HOH.out _ hj)))⟩
        case measure => simp [intOf]; omega
      · gi_wp2
        refine bodyPost_ret (results_none rfl _ _ _) rfl ?_
        exact ⟨⟨_, rfl⟩, .inr ⟨_, trivial, hJx3⟩⟩
    · have hkn : k = n := by omega
      have hlt' : ¬ (k : Int) < (n : Int) := by omega
      have HYS : Hid (ys.map (·.1) = List.range (n + 1)) := hys.trans (congrArg (fun x => List.range (x + 1)) hkn)
      clear hkn
      gi_wp2
      go_end0
      exact ⟨⟨_, rfl⟩, .inl ⟨ys, by first | exact HYS.out | simpa [List.range_succ] using HYS.out, hJs⟩⟩

/-- pieces hands back a value that tells the pieces in order, whatever loop body keeps all but the lists in the boxes. -/
theorem pieces_stopsG (own : List Nat) (m : Nat) (hm : 1 ≤ m) (Bs n₀ m₀ n c : Nat) (a : Option Addr) (f : Nat → Sp) (nx : Int) (hn : n ≤ 8) (w : World) (hoH : ∀ H ∈ own, H < w.heap.size) (hoO : ∀ k, ¬ Owned own w k) (hoB : Bs ∉ own) (hBm : m₀ ≤ Bs)
    (hBs : Sits w Bs (rcCells nx a n c) 25) (hn₀ : n₀ ≤ w.heap.size) (hm₀ : m₀ ≤ w.heap.size) (hP : SR n₀ w a n f) (good : okS nx f n) :
    SeqStopsK Fence.wide m Tryd.prog 23 #[.pointer (some ⟨Bs, 0, none⟩)] (fun x : UptoS (n + 1) => #[Value.int .i64 (aheadF nx f x.1), (pieceF nx f x.1).val]) (KpG own n₀ m₀) (fun ys => ys.map (·.1) = List.range (n + 1)) (fun _ => True) (n + 1) w := fun l J Jx W hW hJ _ hY h0 =>
  pieces2_in own m hm l Bs n₀ m₀ n c a f nx hn J Jx W hJ hY (fun H hH => Nat.lt_of_lt_of_le (hoH H hH) hW.size)
    (fun k hk => hoO k (by obtain ⟨H, hH, l', c', h⟩ := hk; exact ⟨H, hH, l', c', (hW.cell (p := ⟨H, 0, none⟩) (hoH H hH)).symm.trans h⟩)) hoB hBm
    (hBs.below hW hBs.lt) (Nat.le_trans hn₀ hW.size) (Nat.le_trans hm₀ hW.size) (hP.below (hW.mono hn₀)) good h0

end Go.Proofs.YtfghnfanimpjjaaDoor
