/-
  PICKS OUT OF LISTS OF TWO TO FIVE NUMBERS.
-/
import Derived.Test.YtkhfcemjmnjkdaaDrawR0
namespace Go.Proofs.Ytkhfcemjmnjkdaa
open Go.RowKit
set_option linter.unusedVariables false

theorem pick2q (Q : Int → Prop) (B : Nat) (a : Option Addr) (len cap : Nat) (w : World) (hc : Cur w B a len cap) (L : Nat) (t : TypeId) (x y : Int) (hs : Sits w L #[.int .i64 x, .int .i64 y] t) (hne : L ≠ B) (hx : Q x) (hy : Q y) :
    Calls Try.prog 26 #[.pointer (some ⟨B, 0, none⟩), .slice (some ⟨L, 0, none⟩) 2 2] w fun e w' => ∃ x : Int, e = .returned (.int .i64 x) ∧ Q x ∧ Cur w' B a len cap ∧ Only B w w' := by
  refine pick_sits Q B a len cap w hc L 2 _ t hs hne rfl (by omega) (by omega) ?_
  intro v hv
  simp only [List.mem_cons, List.not_mem_nil, or_false] at hv
  rcases hv with rfl | rfl
  · exact ⟨_, rfl, hx⟩
  · exact ⟨_, rfl, hy⟩

theorem pick3q (Q : Int → Prop) (B : Nat) (a : Option Addr) (len cap : Nat) (w : World) (hc : Cur w B a len cap) (L : Nat) (t : TypeId) (x y z : Int) (hs : Sits w L #[.int .i64 x, .int .i64 y, .int .i64 z] t) (hne : L ≠ B) (hx : Q x) (hy : Q y) (hz : Q z) :
    Calls Try.prog 26 #[.pointer (some ⟨B, 0, none⟩), .slice (some ⟨L, 0, none⟩) 3 3] w fun e w' => ∃ x : Int, e = .returned (.int .i64 x) ∧ Q x ∧ Cur w' B a len cap ∧ Only B w w' := by
  refine pick_sits Q B a len cap w hc L 3 _ t hs hne rfl (by omega) (by omega) ?_
  intro v hv
  simp only [List.mem_cons, List.not_mem_nil, or_false] at hv
  rcases hv with rfl | rfl | rfl
  · exact ⟨_, rfl, hx⟩
  · exact ⟨_, rfl, hy⟩
  · exact ⟨_, rfl, hz⟩

theorem pick4q (Q : Int → Prop) (B : Nat) (a : Option Addr) (len cap : Nat) (w : World) (hc : Cur w B a len cap) (L : Nat) (t : TypeId) (x y z u : Int) (hs : Sits w L #[.int .i64 x, .int .i64 y, .int .i64 z, .int .i64 u] t) (hne : L ≠ B) (hx : Q x) (hy : Q y) (hz : Q z) (hu : Q u) :
    Calls Try.prog 26 #[.pointer (some ⟨B, 0, none⟩), .slice (some ⟨L, 0, none⟩) 4 4] w fun e w' => ∃ x : Int, e = .returned (.int .i64 x) ∧ Q x ∧ Cur w' B a len cap ∧ Only B w w' := by
  refine pick_sits Q B a len cap w hc L 4 _ t hs hne rfl (by omega) (by omega) ?_
  intro v hv
  simp only [List.mem_cons, List.not_mem_nil, or_false] at hv
  rcases hv with rfl | rfl | rfl | rfl
  · exact ⟨_, rfl, hx⟩
  · exact ⟨_, rfl, hy⟩
  · exact ⟨_, rfl, hz⟩
  · exact ⟨_, rfl, hu⟩

theorem pick5q (Q : Int → Prop) (B : Nat) (a : Option Addr) (len cap : Nat) (w : World) (hc : Cur w B a len cap) (L : Nat) (t : TypeId) (x y z u v : Int) (hs : Sits w L #[.int .i64 x, .int .i64 y, .int .i64 z, .int .i64 u, .int .i64 v] t) (hne : L ≠ B) (hx : Q x) (hy : Q y) (hz : Q z) (hu : Q u) (hv : Q v) :
    Calls Try.prog 26 #[.pointer (some ⟨B, 0, none⟩), .slice (some ⟨L, 0, none⟩) 5 5] w fun e w' => ∃ x : Int, e = .returned (.int .i64 x) ∧ Q x ∧ Cur w' B a len cap ∧ Only B w w' := by
  refine pick_sits Q B a len cap w hc L 5 _ t hs hne rfl (by omega) (by omega) ?_
  intro k hk
  simp only [List.mem_cons, List.not_mem_nil, or_false] at hk
  rcases hk with rfl | rfl | rfl | rfl | rfl
  · exact ⟨_, rfl, hx⟩
  · exact ⟨_, rfl, hy⟩
  · exact ⟨_, rfl, hz⟩
  · exact ⟨_, rfl, hu⟩
  · exact ⟨_, rfl, hv⟩

end Go.Proofs.Ytkhfcemjmnjkdaa
