/-
  WHAT DrawTupleOf ANSWERS: whatever the bytes are, a frame of ints.
-/
import Derived.Test.YtboomccnfnaboabBentFr
namespace Go.Proofs.Ytboomccnfnaboab
open Go.RowKit
set_option linter.unusedVariables false

set_option maxRecDepth 100000 in
set_option maxHeartbeats 1000000 in
theorem drawTupleOf (a : Option Addr) (len cap : Nat) (w : World) (hl : len ≤ 9223372036854775807) (hcode : Code w w.heap.size a len) :
    Calls Try.prog 16 #[.slice a len cap] w fun e w' => ∃ (r : Fr) (x : Option Addr) (m c : Nat), e = .returned (r.val x m c) ∧ r.In ∧ m ≤ 100 ∧ Below w.heap.size w w' := by
  obtain ⟨W, hW⟩ : ∃ x, w.alloc (.cells #[.int .i64 0, .int .i64 0, .int .i64 0, .int .i64 0, .int .i64 0, .int .i64 0, .int .i64 0, .int .i64 0, .int .i64 0, .slice none 0 0] 32) = x := ⟨_, rfl⟩
  have hsz : W.heap.size = w.heap.size + 1 := by rw [← hW]; simp
  have z0 : Sits W w.heap.size #[.int .i64 0, .int .i64 0, .int .i64 0, .int .i64 0, .int .i64 0, .int .i64 0, .int .i64 0, .int .i64 0, .int .i64 0, .slice none 0 0] 32 := by rw [← hW]; exact Sits.new _ _ _
  have b0 : Below w.heap.size w W := by rw [← hW]; exact (Below.refl _ _).alloc (Nat.le_refl _) _
  have hcd : Code W W.heap.size a len := by
    rw [hsz, ← hW]
    rcases hcode with h | ⟨b, off, ha, hb, hk⟩
    · exact .inl h
    · refine .inr ⟨b, off, ha, by omega, fun k hk' => ?_⟩
      obtain ⟨v, v0, v1, hv⟩ := hk k hk'
      exact ⟨v, v0, v1, (World.cell?_alloc_old w _ ⟨b, off + k, none⟩ (by show b ≠ _; omega)).trans hv⟩
  clear hcode
  go_enter Try.func16, Try.ntmps16
  go_wp2_with fail
  clear hW
  refine (new_any a len cap W hl hcd).mono ?_
  rintro e w1 ⟨rfl, c1, b1⟩
  obtain ⟨B, hB⟩ : ∃ B, W.heap.size = B := ⟨_, rfl⟩
  rw [hB] at c1 ⊢
  have z1 := z0.below b1 z0.lt
  replace b1 := b0.trans (b1.mono b0.size)
  have lB : w.heap.size < B := by omega
  clear hcd z0 b0 hB
  go_wp2_with fail
  refine (l2bent_in B a len cap _ c1).mono ?_
  rintro e w2 ⟨r, x, m, c, rfl, hr, hm, c2, o2⟩
  have ZZ : Hid (Sits w2 w.heap.size #[.int .i64 0, .int .i64 0, .int .i64 0, .int .i64 0, .int .i64 0, .int .i64 0, .int .i64 0, .int .i64 0, .int .i64 0, .slice none 0 0] 32) := z1.only o2 (by omega)
  replace b1 := b1.trans (o2.below (by omega) b1.size)
  have HM : Hid (m ≤ 100) := hm
  have HI : Hid r.In := hr
  clear z1 c1 o2 c2 hm hr
  obtain ⟨q0, q1, q2, q3, q4, q5, q6, q7, q8, q9⟩ := fr_cells' ZZ.out
  have fy := Sits.frozen ZZ.out
  go_wp2_with fail
  refine bodyPost_ret (ret_fr (r := r) (x := x) (m := m) (c := c) (t := 32) (B := w.heap.size) Try.results16 rfl (fr_store ZZ.out)) rfl ⟨r, x, m, c, rfl, HI.out, HM.out, ?_⟩
  exact (((((((((b1.setCell (Nat.le_refl _) _).setCell (Nat.le_refl _) _).setCell (Nat.le_refl _) _).setCell (Nat.le_refl _) _).setCell (Nat.le_refl _) _).setCell (Nat.le_refl _) _).setCell (Nat.le_refl _) _).setCell (Nat.le_refl _) _).setCell (Nat.le_refl _) _).setCell (Nat.le_refl _) _

end Go.Proofs.Ytboomccnfnaboab
