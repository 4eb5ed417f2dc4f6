/-
  WHAT DrawCodelPop ANSWERS: what DrawLate does.
-/
import Derived.Test.YthdlpgehojdhkacDrawLate
namespace Go.Proofs.Ythdlpgehojdhkac
open Go.RowKit
set_option linter.unusedVariables false

set_option maxRecDepth 100000 in
set_option maxHeartbeats 2000000 in
theorem drawCodelPop (a : Option Addr) (len cap : Nat) (w : World) (hl : len ≤ 9223372036854775807) (hcode : Code w w.heap.size a len) :
    Calls Try.prog 16 #[.slice a len cap] w fun e w' => ∃ (r : Cd) (x : Option Addr) (n k : Nat) (lim now : Int) (g : Nat → Pk), e = .returned (.tuple #[r.val, .agg #[.slice x n k, .int .i64 lim], .int .i64 now]) ∧ r.low ∧ ZI w.heap.size w'.heap.size w' x (n * 6) (flat g) ∧ n ≤ k ∧ n ≤ 13 ∧ (∀ j, j < n → (g j).small) ∧ (0 ≤ lim ∧ lim ≤ 41) ∧ (-1 ≤ now ∧ now ≤ 1000200000000) ∧ Below w.heap.size w w' := by
  obtain ⟨W, hW⟩ : ∃ x, (w.alloc (.cells (cdCells Cd.zero) 38)).alloc (.cells #[.slice none 0 0, .int .i64 0] 41) = x := ⟨_, rfl⟩
  have hsz : W.heap.size = w.heap.size + 2 := by rw [← hW]; simp
  have z0 : Sits W w.heap.size (cdCells Cd.zero) 38 := by rw [← hW]; exact (Sits.new _ _ _).alloc _
  have y0 : Sits W (w.heap.size + 1) #[.slice none 0 0, .int .i64 0] 41 := by rw [← hW]; exact Sits.new' (by simp)
  have b0 : Below w.heap.size w W := by rw [← hW]; exact ((Below.refl _ _).alloc (Nat.le_refl _) _).alloc (by simp) _
  have hcd : Code W W.heap.size a len := by
    rcases hcode with h | ⟨b, off, ha, hb, hk⟩
    · exact .inl h
    · refine .inr ⟨b, off, ha, by omega, fun k hk' => ?_⟩
      obtain ⟨v, v0, v1, hv⟩ := hk k hk'
      exact ⟨v, v0, v1, (b0.cell (p := ⟨b, off + k, none⟩) (by show b < _; omega)).trans hv⟩
  clear hcode
  go_enter Try.func16, Try.ntmps16
  go_wp2_with fail
  rw [show (w.alloc (.cells #[.int .i64 0, .int .i64 0, .int .i64 0, .int .i64 0, .int .i64 0, .int .i64 0, .bool false] 38)).alloc (.cells #[.slice none 0 0, .int .i64 0] 41) = W from hW]
  refine (drawLate a len cap W hl hcd).mono ?_
  rintro e w6 ⟨⟨tg, iv, fi, nx, ct, la', dr⟩, x, n, k, lim, now, g, rfl, hr, hz, hnk, hn, hg, hlim, hnow, b6⟩
  have z6 := z0.below b6 z0.lt
  have y6 := y0.below b6 y0.lt
  have B6 : Hid _ := b0.trans (b6.mono b0.size)
  have hs6 := b6.size
  have X6 : Hid _ := hz
  have HR : Hid _ := hr
  have HG : Hid _ := hg
  obtain ⟨u0, u1, u2, u3, u4, u5, u6⟩ := cd_cells z6
  have v0 : w6.cell? ⟨w.heap.size + 1, 0, none⟩ = some (.slice none 0 0) := y6.cell 0
  have v1 : w6.cell? ⟨w.heap.size + 1, 1, none⟩ = some (.int .i64 0) := y6.cell 1
  have fz := z6.frozen
  have fy := y6.frozen
  have Z6 : Hid _ := z6
  have Y6 : Hid _ := y6
  clear z6 y6 b6 hz hr hg hcd hW z0 y0 b0
  go_wp2
  refine bodyPost_ret (ret_cfi (q := ⟨tg, iv, fi, nx, ct, la', dr⟩) (v := .slice x n k) (u := .int .i64 lim) (m := now) (t1 := 38) (t2 := 41) (B := w.heap.size) (C := w.heap.size + 1) Try.results16 rfl rfl rfl ?s1 ?s2) rfl ⟨_, x, n, k, lim, now, g, rfl, HR.out, ?zz, hnk, hn, HG.out, hlim, hnow, ?bb⟩
  case s1 => exact Sits.other (Sits.other (Sits.set (Sits.set (Sits.set (Sits.set (Sits.set (Sits.set (Sits.set Z6.out 0 _) 1 _) 2 _) 3 _) 4 _) 5 _) 6 _) (by omega) _) (by omega) _
  case s2 => exact Sits.set (Sits.set (Sits.other (Sits.other (Sits.other (Sits.other (Sits.other (Sits.other (Sits.other Y6.out (by omega) _) (by omega) _) (by omega) _) (by omega) _) (by omega) _) (by omega) _) (by omega) _) 0 _) 1 _
  case zz => exact ZI.wide (zi_low (zi_low (zi_low (zi_low (zi_low (zi_low (zi_low (zi_low (zi_low X6.out (by omega) _ _) (by omega) _ _) (by omega) _ _) (by omega) _ _) (by omega) _ _) (by omega) _ _) (by omega) _ _) (by omega) _ _) (by omega) _ _) (by omega) (by simp)
  case bb => exact (Below.setCell (Below.setCell (Below.setCell (Below.setCell (Below.setCell (Below.setCell (Below.setCell (Below.setCell (Below.setCell B6.out (Nat.le_refl _) _) (Nat.le_refl _) _) (Nat.le_refl _) _) (Nat.le_refl _) _) (Nat.le_refl _) _) (Nat.le_refl _) _) (Nat.le_refl _) _) (Nat.le_succ _) _) (Nat.le_succ _) _)

end Go.Proofs.Ythdlpgehojdhkac
