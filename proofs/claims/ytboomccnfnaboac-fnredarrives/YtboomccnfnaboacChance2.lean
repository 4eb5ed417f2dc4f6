/-
  THE PROGRAM's CHANCE, asked: the first time it is reckoned, afterwards it is there; rest, grown, RedProb.
-/
import Derived.Test.YtboomccnfnaboacChance
namespace Go.Proofs.Ytboomccnfnaboac
open Go.RowKit
set_option linter.unusedVariables false

/-- Of what was there nothing has turned but block B. -/
structure Just (B : Nat) (w w' : World) : Prop where
  os : w'.os = w.os
  tape : w'.tape = w.tape
  output : w'.output = w.output
  size : w.heap.size ≤ w'.heap.size
  block : ∀ k, k < w.heap.size → k ≠ B → w'.heap[k]? = w.heap[k]?
theorem Just.refl (B : Nat) (w : World) : Just B w w := ⟨rfl, rfl, rfl, Nat.le_refl _, fun _ _ _ => rfl⟩
theorem Just.trans {B : Nat} {a b c : World} (h : Just B a b) (k : Just B b c) : Just B a c :=
  ⟨k.os.trans h.os, k.tape.trans h.tape, k.output.trans h.output, Nat.le_trans h.size k.size, fun i hi hn => (k.block i (Nat.lt_of_lt_of_le hi h.size) hn).trans (h.block i hi hn)⟩
theorem Just.drew {B : Nat} {a w : World} (h : Just B a w) : Just B a w.drew := ⟨h.os, h.tape, h.output, h.size, h.block⟩
theorem Just.alloc {B : Nat} {a w : World} (h : Just B a w) (o : Obj) : Just B a (w.alloc o) :=
  h.trans ⟨rfl, rfl, rfl, by simp, fun k hk _ => Below.heap_alloc _ _ _ hk⟩
theorem Just.set {B : Nat} {a w : World} (h : Just B a w) (o : Nat) (u : Value) : Just B a (w.setCell ⟨B, o, none⟩ u) :=
  h.trans ⟨rfl, rfl, rfl, by simp [World.setCell], fun k hk hn => Below.heap_setCell _ _ _ _ hn⟩
theorem Just.below {B C : Nat} {w w' : World} (h : Just B w w') (hB : C ≤ B) (hC : C ≤ w.heap.size) : Below C w w' :=
  ⟨h.os, h.tape, h.output, h.size, fun k hk => h.block k (by omega) (by omega)⟩
theorem Just.cell {B : Nat} {w w' : World} (h : Just B w w') {p : Addr} (hp : p.block < w.heap.size) (hn : p.block ≠ B) : w'.cell? p = w.cell? p := World.cell?_of_block (w := w) (h.block p.block hp hn)

set_option maxRecDepth 100000 in
set_option maxHeartbeats 1600000 in
theorem slow_any (r : Rd) (h : r.mid) (B : Nat) (pl : Addr) (hpb : ¬ B = pl.block) (x p : Int) (t : TypeId) (w : World) (hp : w.cell? pl = some (.pointer (some ⟨B, 0, none⟩))) (hs : Sits w B (chCells r 0 0 x p) t) :
    Calls Try.prog 32 #[.pointer (some ⟨B, 5, none⟩), .func (.func 26) #[] #[.pointer (some pl)]] w fun e w' => e = .returned (.tuple #[]) ∧
      w' = ((((w.setCell ⟨B, 6, none⟩ (.int .i32 1)).setCell ⟨B, 8, none⟩ (.int .i64 (plainF r))).drew.drew).drew.setCell ⟨B, 5, none⟩ (.int .u32 1)).setCell ⟨B, 6, none⟩ (.int .i32 0) := by
  obtain ⟨c0, c1, c2, c3, c4, c5, c6, c8⟩ := ch_cells hs
  have fz := hs.frozen
  have f5 := fz 5
  have f6 := fz 6
  have f8 := fz 8
  have hl := run_call_load (P := Try.prog) Try.func35 (by kernel_rfl) (by kernel_rfl) (by kernel_rfl) .u32 (by kernel_rfl) (w := w.setCell ⟨B, 6, none⟩ (.int .i32 1)) (a := ⟨B, 5, none⟩) (x := 0) ((World.cell?_setCell_other _ ⟨B, 6, none⟩ ⟨B, 5, none⟩ _ (by simp)).trans c5)
  have s1 : Sits (w.setCell ⟨B, 6, none⟩ (.int .i32 1)) B (chCells r 0 1 x p) t := hs.set 6 _
  have hp1 : (w.setCell ⟨B, 6, none⟩ (.int .i32 1)).cell? pl = some (.pointer (some ⟨B, 0, none⟩)) := (World.cell?_setCell_other _ ⟨B, 6, none⟩ pl _ (fun h => hpb (by rw [← h]))).trans hp
  obtain ⟨d0, d1, d2, d3, d4, d5, d6, d8⟩ := ch_cells s1
  have e8 := s1.frozen 8
  have hnot : ∀ (x : Bool) (w : World), (Op.unary .not (.bool x)).run Try.prog w = .ok (.bool (!x)) w := fun _ _ => rfl
  clear hs s1 fz
  go_enter_defers Try.func32, Try.ntmps32
  go_wp2_with (first | (go_at_call 36; refine (lock_free ⟨B, 6, none⟩ _ c6 f6).mono ?_; rintro e w' ⟨rfl, rfl⟩) | (go_at_call 26; refine (plain1_any r h B pl hpb _ hp1 d0 d1 d2 d3 _ d8 e8).mono ?_; rintro e w' ⟨rfl, rfl⟩) | (go_at_call 31; go_in))
  -- THE DOOR: two deferred calls, the last laid first
  refine leaves_cons (f := 38) (args := #[.pointer (some ⟨B, 5, none⟩), .bool true]) (by simp) (by simp [go_sem]) ?_
  refine (store_deferred ⟨B, 5, none⟩ (.int .u32 0) .returning _ ?_ (by simp [f5])).mono ?_
  · exact (World.cell?_setCell_other _ ⟨B, 8, none⟩ ⟨B, 5, none⟩ _ (by simp)).trans ((World.cell?_setCell_other _ ⟨B, 6, none⟩ ⟨B, 5, none⟩ _ (by simp)).trans c5)
  rintro e u' w'' ⟨rfl, rfl, rfl⟩
  refine leaves_cons (f := 37) (args := #[.pointer (some ⟨B, 6, none⟩)]) (by simp [settle]) (by simp [go_sem]) ?_
  refine (unlock_deferred ⟨B, 6, none⟩ _ _ ?_ (by simp [f6])).mono ?_
  · refine (World.cell?_setCell_other _ ⟨B, 5, none⟩ ⟨B, 6, none⟩ _ (by simp)).trans ?_
    rw [World.cell?_drew]
    exact (World.cell?_setCell_other _ ⟨B, 8, none⟩ ⟨B, 6, none⟩ _ (by simp)).trans (World.cell?_setCell_same w _ _ c6)
  rintro e u' w'' ⟨rfl, rfl, rfl⟩
  simp [Leaves, settle, results, Try.results32]

set_option maxRecDepth 100000 in
set_option maxHeartbeats 1600000 in
/-- Do, the first time. -/
theorem do_first (r : Rd) (h : r.mid) (B : Nat) (pl : Addr) (hpb : ¬ B = pl.block) (x p : Int) (t : TypeId) (w : World) (hp : w.cell? pl = some (.pointer (some ⟨B, 0, none⟩))) (hs : Sits w B (chCells r 0 0 x p) t) :
    Calls Try.prog 25 #[.pointer (some ⟨B, 5, none⟩), .func (.func 26) #[] #[.pointer (some pl)]] w fun e w' => e = .returned (.tuple #[]) ∧ Sits w' B (chCells r 1 0 x (plainF r)) t ∧ Just B w w' := by
  have c5 := (ch_cells hs).2.2.2.2.2.1
  have hl := run_call_load (P := Try.prog) Try.func35 (by kernel_rfl) (by kernel_rfl) (by kernel_rfl) .u32 (by kernel_rfl) c5
  have hnot : ∀ (x : Bool) (w : World), (Op.unary .not (.bool x)).run Try.prog w = .ok (.bool (!x)) w := fun _ _ => rfl
  have HS : Hid (Sits w B (chCells r 0 0 x p) t) := hs
  clear hs
  go_enter Try.func25, Try.ntmps25
  go_wp2_with (first | (go_at_call 32; refine (slow_any r h B pl hpb x p t _ hp HS.out).mono ?_; rintro e w' ⟨rfl, rfl⟩) | (go_at_call 31; go_in))
  go_end0
  refine ⟨rfl, ?_, ?_⟩
  · exact (((Sits.set HS.out 6 (.int .i32 1)).set 8 (.int .i64 (plainF r))).set 5 (.int .u32 1)).set 6 (.int .i32 0)
  · exact (((((((Just.refl B w).set 6 _).set 8 _).drew).drew).drew).set 5 _).set 6 _

set_option maxRecDepth 100000 in
/-- Do, done already: the function is not called. -/
theorem do_done (a : Addr) (fv : Value) (w : World) (h0 : w.cell? a = some (.int .u32 1)) :
    Calls Try.prog 25 #[.pointer (some a), fv] w fun e w' => e = .returned (.tuple #[]) ∧ w' = w := by
  have hl := run_call_load (P := Try.prog) Try.func35 (by kernel_rfl) (by kernel_rfl) (by kernel_rfl) .u32 (by kernel_rfl) h0
  have hnot : ∀ (x : Bool) (w : World), (Op.unary .not (.bool x)).run Try.prog w = .ok (.bool (!x)) w := fun _ _ => rfl
  go_enter Try.func25, Try.ntmps25
  go_wp2
  go_end0
  exact ⟨rfl, rfl⟩

end Go.Proofs.Ytboomccnfnaboac
