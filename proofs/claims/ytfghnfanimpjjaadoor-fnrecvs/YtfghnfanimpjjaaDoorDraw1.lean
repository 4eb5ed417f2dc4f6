/-
  WHAT THE DRAWS OF CHAPTER 1 ANSWER: whatever the bytes are, ints; nothing that was there turns.
-/
import Derived.Test.YtfghnfanimpjjaaDoorDraw
namespace Go.Proofs.YtfghnfanimpjjaaDoor
open Go.RowKit
set_option linter.unusedVariables false

/-- An int. -/
def In64 (x : Int) : Prop := -9223372036854775808 ≤ x ∧ x ≤ 9223372036854775807
theorem in_wrap (x : Int) : In64 (wrap64 x) := by unfold In64 wrap64; omega

/-- A list that is written out: each of its numbers has what is asked. -/
theorem cells_all {w : World} {Q : Int → Prop} (c : Array Value) (t : TypeId) (hc : ∀ v ∈ c.toList, ∃ x : Int, v = .int .i64 x ∧ Q x) : ∀ k, k < c.size → ∃ x : Int, (w.alloc (.cells c t)).cell? ⟨w.heap.size, k, none⟩ = some (.int .i64 x) ∧ Q x := by
  intro k hk
  obtain ⟨x, hx, hq⟩ := hc c[k] (by simp)
  refine ⟨x, ?_, hq⟩
  rw [World.cell?_alloc_new, getElem?_pos c k hk, hx]

theorem pick_lit (Q : Int → Prop) (B : Nat) (a : Option Addr) (len cap : Nat) (w : World) (hc : Cur w B a len cap) (c : Array Value) (t : TypeId) (n : Nat) (hn : c.size = n) (n0 : 1 ≤ n) (n1 : n ≤ 256) (hq : ∀ v ∈ c.toList, ∃ x : Int, v = .int .i64 x ∧ Q x) :
    Calls Tryd.prog 12 #[.pointer (some ⟨B, 0, none⟩), .slice (some ⟨w.heap.size, 0, none⟩) n n] (w.alloc (.cells c t)) fun e w' => ∃ x : Int, e = .returned (.int .i64 x) ∧ Q x ∧ Cur w' B a len cap ∧ Only B w w' := by
  have hB := hc.1
  refine (pick_any Q B a len cap _ (hc.alloc c t) w.heap.size n n0 n1 (by simp) (by omega) (by subst hn; exact cells_all c t hq)).mono ?_
  rintro e w' ⟨x, rfl, hx, hc', ho⟩
  exact ⟨x, rfl, hx, hc', ((Only.refl _ _).alloc _).trans ho⟩

end Go.Proofs.YtfghnfanimpjjaaDoor
