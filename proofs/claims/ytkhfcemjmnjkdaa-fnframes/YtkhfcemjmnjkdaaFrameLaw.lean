/-
  WHAT THE LAW FnFrames ASKS: what is drawn; a frame that comes back, by numbers.
-/
import Derived.Test.YtkhfcemjmnjkdaaBentFr2
import Derived.Test.YtkhfcemjmnjkdaaFrameEq
import Derived.Test.YtkhfcemjmnjkdaaSBuild2
import Derived.Test.YtkhfcemjmnjkdaaSpoil
import Derived.Test.YtkhfcemjmnjkdaaSame
namespace Go.Proofs.Ytkhfcemjmnjkdaa
open Go.RowKit
set_option linter.unusedVariables false

set_option maxRecDepth 100000 in
set_option maxHeartbeats 1000000 in
theorem drawBuild (a : Option Addr) (len cap : Nat) (w : World) (hl : len ≤ 9223372036854775807) (hcode : Code w w.heap.size a len) :
    Calls Try.prog 4 #[.slice a len cap] w fun e w' => ∃ (r : Fr) (x : Option Addr) (m c : Nat) (g : Nat → Int), e = .returned (r.val x m c) ∧ r.In ∧ m ≤ 100 ∧ Row .u8 w' x m g ∧ Byt m g ∧ Below w.heap.size w w' := by
  obtain ⟨W, hW⟩ : ∃ x, w.alloc (.cells #[.int .i64 0, .int .i64 0, .int .i64 0, .int .i64 0, .int .i64 0, .int .i64 0, .int .i64 0, .int .i64 0, .int .i64 0, .slice none 0 0] 26) = x := ⟨_, rfl⟩
  have hsz : W.heap.size = w.heap.size + 1 := by rw [← hW]; simp
  have z0 : Sits W w.heap.size #[.int .i64 0, .int .i64 0, .int .i64 0, .int .i64 0, .int .i64 0, .int .i64 0, .int .i64 0, .int .i64 0, .int .i64 0, .slice none 0 0] 26 := by rw [← hW]; exact Sits.new _ _ _
  have b0 : Below w.heap.size w W := by rw [← hW]; exact (Below.refl _ _).alloc (Nat.le_refl _) _
  have hcd : Code W W.heap.size a len := by
    rw [hsz, ← hW]
    rcases hcode with h | ⟨b, off, ha, hb, hk⟩
    · exact .inl h
    · refine .inr ⟨b, off, ha, by omega, fun k hk' => ?_⟩
      obtain ⟨v, v0, v1, hv⟩ := hk k hk'
      exact ⟨v, v0, v1, (World.cell?_alloc_old w _ ⟨b, off + k, none⟩ (by show b ≠ _; omega)).trans hv⟩
  clear hcode
  go_enter Try.func4, Try.ntmps4
  go_wp2_with fail
  clear hW
  refine (new_any a len cap W hl hcd).mono ?_
  rintro e w1 ⟨rfl, c1, b1⟩
  obtain ⟨B, hB⟩ : ∃ B, W.heap.size = B := ⟨_, rfl⟩
  rw [hB] at c1 ⊢
  have z1 := z0.below b1 z0.lt
  have h1s : w.heap.size < w1.heap.size := z1.lt
  replace b1 := b0.trans (b1.mono b0.size)
  have lB : w.heap.size < B := by omega
  clear hcd z0 b0 hB
  go_wp2_with fail
  refine (l2bent_row B a len cap _ c1).mono ?_
  rintro e w2 ⟨r, x, m, c, g, LL, UU, rfl, hr, hm, hLL, hz, hby, c2, o2⟩
  have ZZ : Hid (Sits w2 w.heap.size #[.int .i64 0, .int .i64 0, .int .i64 0, .int .i64 0, .int .i64 0, .int .i64 0, .int .i64 0, .int .i64 0, .int .i64 0, .slice none 0 0] 26) := z1.only o2 (by omega)
  replace b1 := b1.trans (o2.below (by omega) b1.size)
  have HM : Hid (m ≤ 100) := hm
  have HI : Hid r.In := hr
  have HZN : Hid (Zn LL UU w2 x m g) := hz
  have HBY : Hid (Byt m g) := hby
  have hL : w.heap.size < LL := by omega
  clear z1 c1 o2 c2 hm hr hz hby
  obtain ⟨q0, q1, q2, q3, q4, q5, q6, q7, q8, q9⟩ := fr_cells' ZZ.out
  have fy := Sits.frozen ZZ.out
  go_wp2_with fail
  refine bodyPost_ret (ret_fr (r := r) (x := x) (m := m) (c := c) (t := 26) (B := w.heap.size) Try.results4 rfl (fr_store ZZ.out)) rfl ⟨r, x, m, c, g, rfl, HI.out, HM.out, ?_, HBY.out, ?_⟩
  · exact Zn.row (zn_set (zn_set (zn_set (zn_set (zn_set (zn_set (zn_set (zn_set (zn_set (zn_set HZN.out (.inl hL) _ _) (.inl hL) _ _) (.inl hL) _ _) (.inl hL) _ _) (.inl hL) _ _) (.inl hL) _ _) (.inl hL) _ _) (.inl hL) _ _) (.inl hL) _ _) (.inl hL) _ _)
  · exact (((((((((b1.setCell (Nat.le_refl _) _).setCell (Nat.le_refl _) _).setCell (Nat.le_refl _) _).setCell (Nat.le_refl _) _).setCell (Nat.le_refl _) _).setCell (Nat.le_refl _) _).setCell (Nat.le_refl _) _).setCell (Nat.le_refl _) _).setCell (Nat.le_refl _) _).setCell (Nat.le_refl _) _

/-- Any bytes that are drawn. -/
theorem drawParse (a : Option Addr) (len cap : Nat) (w : World) (hl : len ≤ 9223372036854775807) (hcode : Code w w.heap.size a len) :
    Calls Try.prog 11 #[.slice a len cap] w fun e w' => ∃ (y : Option Addr) (m cy : Nat) (g : Nat → Int), e = .returned (.slice y m cy) ∧ m ≤ 101 ∧ m ≤ cy ∧ Row .u8 w' y m g ∧ Byt m g ∧ Below w.heap.size w w' := by
  go_enter Try.func11, Try.ntmps11
  go_wp2_with (first | (go_at_call 13; refine (new_any a len cap w hl hcode).mono ?_; rintro e w1 ⟨rfl, c1, b1⟩) | (go_at_call 22; refine (l2bytes_any _ a len cap _ c1).mono ?_; rintro e w2 ⟨y, m, cy, g, rfl, h1, h2, h3, h4, c2, o2⟩))
  go_ret
  exact ⟨y, m, cy, g, rfl, h1, h2, h3, h4, b1.trans (o2.below (Nat.le_refl _) b1.size)⟩

theorem row_two (w : World) (t : TypeId) : Row .u8 (w.alloc (.cells #[.int .u8 1, .int .u8 2] t)) (some ⟨w.heap.size, 0, none⟩) 2 (fun i => if i = 0 then 1 else 2) := by
  refine .inr ⟨w.heap.size, 0, rfl, by simp, fun i hi => ?_⟩
  rcases (by omega : i = 0 ∨ i = 1) with rfl | rfl <;> simp [go_sem]
theorem isum_two (w : World) (t : TypeId) : Calls Try.prog 10 #[.slice (some ⟨w.heap.size, 0, none⟩) 2 2] (w.alloc (.cells #[.int .u8 1, .int .u8 2] t)) fun e w' => e = .returned (.int .i64 65277) ∧ w' = w.alloc (.cells #[.int .u8 1, .int .u8 2] t) := by
  have := isum_any (some ⟨w.heap.size, 0, none⟩) 2 2 (fun i => if i = 0 then 1 else 2) _ (row_two w t) (fun i hi => by dsimp only; split <;> omega) (by omega)
  rw [show (65535 : Int) - sumF (fun i => if i = 0 then 1 else 2) 2 = 65277 by decide] at this
  exact this
theorem frNo_good : (frNo).good 0 = true := by decide
theorem frNo_in : (frNo).In := by unfold Fr.In frNo; decide

end Go.Proofs.Ytkhfcemjmnjkdaa
