/-
  PACKETS IN MEMORY, AND THE ITERATOR told THAT TELLS THEM ONE BY ONE.
-/
import Derived.Test.YtmjggolllijamaaPk
import Derived.RangeFuncNested
import Derived.RangeFuncBound
import Derived.RangeFuncCalls
import Derived.RangeFuncLeaves
import Derived.Shelf.Abstract
import Derived.Shelf.RegionOpen
import Derived.OwnWalkIn
import Derived.TacticsInMore
import Derived.LoopNIn
import Derived.LoopIn
namespace Go.Proofs.Ytmjggolllijamaa
open Go.RowKit Go.Shelf
set_option linter.unusedVariables false
attribute [local go_sem] Oper.semAt_some

/-- A packet's six cells from o on in block b. -/
def PAt (w : World) (b o : Nat) (p : Pk) : Prop := w.cell? ⟨b, o, none⟩ = some (.int .i64 p.id) ∧ w.cell? ⟨b, o + 1, none⟩ = some (.int .i64 p.flow) ∧ w.cell? ⟨b, o + 2, none⟩ = some (.int .i64 p.host) ∧ w.cell? ⟨b, o + 3, none⟩ = some (.int .i64 p.size) ∧ w.cell? ⟨b, o + 4, none⟩ = some (.int .i64 p.tm) ∧ w.cell? ⟨b, o + 5, none⟩ = some (.int .i64 p.ecn)
theorem PAt.below {n₀ : Nat} {w w' : World} {b o : Nat} {p : Pk} (h : PAt w b o p) (hb : Below n₀ w w') (hlt : b < n₀) : PAt w' b o p :=
  ⟨(hb.cell (p := ⟨b, o, none⟩) hlt).trans h.1, (hb.cell (p := ⟨b, o + 1, none⟩) hlt).trans h.2.1, (hb.cell (p := ⟨b, o + 2, none⟩) hlt).trans h.2.2.1, (hb.cell (p := ⟨b, o + 3, none⟩) hlt).trans h.2.2.2.1, (hb.cell (p := ⟨b, o + 4, none⟩) hlt).trans h.2.2.2.2.1, (hb.cell (p := ⟨b, o + 5, none⟩) hlt).trans h.2.2.2.2.2⟩
/-- A list of n packets f 0, f 1 .. in a block below n₀. -/
def PR (n₀ : Nat) (w : World) (a : Option Addr) (n : Nat) (f : Nat → Pk) : Prop :=
  n = 0 ∨ ∃ b off : Nat, a = some ⟨b, off, none⟩ ∧ b < n₀ ∧ ∀ i, i < n → PAt w b (off + i * 6) (f i)
theorem PR.below {n₀ : Nat} {w w' : World} {a : Option Addr} {n : Nat} {f : Nat → Pk} (h : PR n₀ w a n f) (hb : Below n₀ w w') : PR n₀ w' a n f := by
  rcases h with h | ⟨b, off, ha, hlt, hc⟩
  · exact .inl h
  · exact .inr ⟨b, off, ha, hlt, fun i hi => (hc i hi).below hb hlt⟩
theorem PR.at {n₀ : Nat} {w : World} {a : Option Addr} {n : Nat} {f : Nat → Pk} (h : PR n₀ w a n f) {j : Nat} (hj : j < n) : ∃ b off : Nat, a = some ⟨b, off, none⟩ ∧ b < n₀ ∧ ∀ i, i < n → PAt w b (off + i * 6) (f i) := by
  rcases h with h | h
  · omega
  · exact h
theorem PR.take {n₀ : Nat} {w : World} {a : Option Addr} {n m : Nat} {f : Nat → Pk} (h : PR n₀ w a n f) (hm : m ≤ n) : PR n₀ w a m f := by
  rcases h with h | ⟨b, off, ha, hlt, hc⟩
  · exact .inl (by omega)
  · exact .inr ⟨b, off, ha, hlt, fun i hi => hc i (by omega)⟩
theorem PR.mono {n₀ n₁ : Nat} {w : World} {a : Option Addr} {n : Nat} {f : Nat → Pk} (h : PR n₀ w a n f) (hm : n₀ ≤ n₁) : PR n₁ w a n f := by
  rcases h with h | ⟨b, off, ha, hlt, hc⟩
  · exact .inl h
  · exact .inr ⟨b, off, ha, by omega, hc⟩

theorem abides_alloc {β : Type} {B : Nat} {J : β → World → Prop} (h : AbidesFrom B J) {s : β} {W : World} (o : Obj) (hs : J s W) : J s (W.alloc o) :=
  h s W _ none hs (World.grownBy_alloc W o none) (fun r e => by cases e)

/-- The numbers below len. -/
abbrev Upto (len : Nat) := { j : Nat // j < len }

set_option maxRecDepth 100000 in
set_option maxHeartbeats 2000000 in
theorem told1_in (n : Nat) (hn : 1 ≤ n) (l Bs n₀ len cap : Nat) (a : Option Addr) (f : Nat → Pk) (hlen : len ≤ 1048576) (J Jx : List (Upto len) → World → Prop)
    (W : World) (hJ : AbidesFrom W.heap.size J)
    (hY : ∀ pre x W, J pre W → pre.length < len → YieldAt Fence.wide (n - 1) Try.prog l #[.int .i64 (x.1 : Int), (f x.1).val] W fun e W' =>
      (e = .returned (.bool true) ∧ J (pre ++ [x]) W' ∧ Below n₀ W W') ∨ (e = .returned (.bool false) ∧ Jx (pre ++ [x]) W'))
    (hBs : W.cell? ⟨Bs, 0, none⟩ = some (.slice a len cap)) (hn₀ : n₀ ≤ W.heap.size) (hc : PR n₀ W a len f) (h0 : J [] W) :
    CallsIn Fence.wide n Try.prog 92 #[.func (.yield l) #[] #[], .pointer (some ⟨Bs, 0, none⟩)] W fun e W' => (∃ v, e = .returned v) ∧
      ((∃ ys, ys.map (·.1) = List.range len ∧ J ys W') ∨ (∃ pre, True ∧ Jx pre W')) := by
  refine callsIn_of_wp Try.func92 rfl trivial ?_ rfl
  simp only [Try.ntmps92, List.size_toArray, List.length_cons, List.length_nil, Nat.reduceAdd, Nat.reduceSub, Array.replicate_succ, Array.replicate_zero, List.push_toArray, List.append_toArray, List.nil_append, List.cons_append]
  have HC : Hid (PR n₀ W a len f) := hc
  clear hc
  gi_wp2
  gi_loopw [7] (fun i wr => ∃ (k : Nat) (ys : List (Upto len)), k ≤ len ∧ i = .int .i64 k ∧ ys.map (·.1) = List.range k ∧ J ys wr ∧ Below n₀ W wr)
    (fun i _ => len - (intOf i).toNat)
  case atStart => exact ⟨0, [], Nat.zero_le _, rfl, rfl, h0, Below.refl _ _⟩
  case round =>
    obtain ⟨k, ys, hk, rfl, hys, hJs, hnx⟩ := hrel
    by_cases hlt : k < len
    · have hyl : ys.length = k := by have := congrArg List.length hys; simpa using this
      obtain ⟨b, off, rfl, hbl, hcs⟩ := PR.at HC.out hlt
      obtain ⟨c0, c1, c2, c3, c4, c5⟩ := (hcs k hlt).below hnx hbl
      clear hcs
      obtain ⟨fn, tmps, assign, body, hy, hR⟩ := hY ys ⟨k, hlt⟩ (wr.alloc (.cells (pkCells (f k)) 31)) (abides_alloc hJ _ hJs) (by rw [hyl]; exact hlt)
      dsimp only at hy
      gi_wp2
      refine hR.mono ?_
      have hba : Below n₀ W (wr.alloc (.cells (pkCells (f k)) 31)) := hnx.alloc (Nat.le_trans hn₀ (by have := hnx.size; omega)) _
      rintro e W3 (⟨rfl, hJ3, hk3⟩ | ⟨rfl, hJx3⟩)
      · gi_wp2
        go_roundw
        case rel => exact ⟨k + 1, ys ++ [⟨k, hlt⟩], by omega, by simp, by rw [List.map_append, hys, List.range_succ]; rfl, hJ3, hba.trans hk3⟩
        case measure => simp [intOf]; omega
      · gi_wp2
        refine bodyPost_ret (results_none rfl _ _ _) rfl ?_
        exact ⟨⟨_, rfl⟩, .inr ⟨_, trivial, hJx3⟩⟩
    · obtain rfl : k = len := by omega
      gi_wp2
      go_end0
      exact ⟨⟨_, rfl⟩, .inl ⟨_, hys, hJs⟩⟩

set_option maxHeartbeats 1000000 in
theorem told_in (n : Nat) (a : Option Addr) (len cap : Nat) (w : World) :
    CallsIn Fence.wide n Try.prog 75 #[.slice a len cap] w fun e w' => e = .returned (.func (.func 92) #[] #[.pointer (some ⟨w.heap.size, 0, none⟩)]) ∧ w' = w.alloc (.cells #[.slice a len cap] 48) := by
  refine callsIn_of_wp Try.func75 rfl trivial ?_ rfl
  simp only [Try.ntmps75, List.size_toArray, List.length_cons, List.length_nil, Nat.reduceAdd, Nat.reduceSub, Array.replicate_succ, Array.replicate_zero, List.push_toArray, List.append_toArray, List.nil_append, List.cons_append]
  gi_wp2
  go_ret
  exact ⟨rfl, rfl⟩

/-- told hands back a value that tells the packets in order, whatever loop body keeps what lay below n₀. -/
theorem told_stops (n : Nat) (hn : 1 ≤ n) (Bs n₀ len cap : Nat) (a : Option Addr) (f : Nat → Pk) (hlen : len ≤ 1048576) (w : World) (hBs : Bs < w.heap.size) (hn₀ : n₀ ≤ w.heap.size)
    (hc : w.cell? ⟨Bs, 0, none⟩ = some (.slice a len cap)) (hP : PR n₀ w a len f) :
    SeqStopsK Fence.wide n Try.prog 92 #[.pointer (some ⟨Bs, 0, none⟩)] (fun x : Upto len => #[Value.int .i64 (x.1 : Int), (f x.1).val]) (Below n₀) (fun ys => ys.map (·.1) = List.range len) (fun _ => True) len w := fun l J Jx W hW hJ _ hY h0 =>
  told1_in n hn l Bs n₀ len cap a f hlen J Jx W hJ hY ((hW.cell (p := ⟨Bs, 0, none⟩) hBs).trans hc) (Nat.le_trans hn₀ hW.size) (hP.below (hW.mono hn₀)) h0

end Go.Proofs.Ytmjggolllijamaa
