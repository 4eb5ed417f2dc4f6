/-
  WHAT DrawLate ANSWERS: a Codel, a queue and a moment; nothing that was there turns.
-/
import Derived.Test.YthdlpgehojdhkacBentCd
namespace Go.Proofs.Ythdlpgehojdhkac
open Go.RowKit
set_option linter.unusedVariables false

theorem ret_cfi {fn : Func} {tmps : Array Value} {W : World} {i j k B C : Nat} {q : Cd} {v u : Value} {m : Int} {t1 t2 : TypeId} (hr : fn.results = #[.cell i 38, .cell j 41, .tmp k]) (hi : tmps[i]?.getD undef = .pointer (some ⟨B, 0, none⟩)) (hj : tmps[j]?.getD undef = .pointer (some ⟨C, 0, none⟩)) (hk : tmps[k]?.getD undef = .int .i64 m) (hs : Sits W B (cdCells q) t1) (h2 : Sits W C #[v, u] t2) : (results fn tmps).run Try.prog W = .ok (.tuple #[q.val, .agg #[v, u], .int .i64 m]) W := by
  obtain ⟨c0, c1, c2, c3, c4, c5, c6⟩ := cd_cells hs
  have e0 : W.cell? ⟨C, 0, none⟩ = some v := h2.cell 0
  have e1 : W.cell? ⟨C, 1, none⟩ = some u := h2.cell 1
  simp [results, hr, hi, hj, hk, go_sem, c0, c1, c2, c3, c4, c5, c6, e0, e1]

set_option maxRecDepth 100000 in
set_option maxHeartbeats 2000000 in
theorem drawLate (a : Option Addr) (len cap : Nat) (w : World) (hl : len ≤ 9223372036854775807) (hcode : Code w w.heap.size a len) :
    Calls Try.prog 32 #[.slice a len cap] w fun e w' => ∃ (r : Cd) (x : Option Addr) (n k : Nat) (lim now : Int) (g : Nat → Pk), e = .returned (.tuple #[r.val, .agg #[.slice x n k, .int .i64 lim], .int .i64 now]) ∧ r.low ∧ ZI w.heap.size w'.heap.size w' x (n * 6) (flat g) ∧ n ≤ k ∧ n ≤ 13 ∧ (∀ j, j < n → (g j).small) ∧ (0 ≤ lim ∧ lim ≤ 41) ∧ (-1 ≤ now ∧ now ≤ 1000200000000) ∧ Below w.heap.size w w' := by
  obtain ⟨W, hW⟩ : ∃ x, (w.alloc (.cells (cdCells Cd.zero) 38)).alloc (.cells #[.slice none 0 0, .int .i64 0] 41) = x := ⟨_, rfl⟩
  have hsz : W.heap.size = w.heap.size + 2 := by rw [← hW]; simp
  have z0 : Sits W w.heap.size (cdCells Cd.zero) 38 := by rw [← hW]; exact (Sits.new _ _ _).alloc _
  have y0 : Sits W (w.heap.size + 1) #[.slice none 0 0, .int .i64 0] 41 := by rw [← hW]; exact Sits.new' (by simp)
  have b0 : Below w.heap.size w W := by rw [← hW]; exact ((Below.refl _ _).alloc (Nat.le_refl _) _).alloc (by simp) _
  have hcd : Code W W.heap.size a len := by
    rcases hcode with h | ⟨b, off, ha, hb, hk⟩
    · exact .inl h
    · refine .inr ⟨b, off, ha, by omega, fun k hk' => ?_⟩
      obtain ⟨v, v0, v1, hv⟩ := hk k hk'
      exact ⟨v, v0, v1, (b0.cell (p := ⟨b, off + k, none⟩) (by show b < _; omega)).trans hv⟩
  clear hcode
  go_enter Try.func32, Try.ntmps32
  go_wp2_with fail
  rw [show (w.alloc (.cells #[.int .i64 0, .int .i64 0, .int .i64 0, .int .i64 0, .int .i64 0, .int .i64 0, .bool false] 38)).alloc (.cells #[.slice none 0 0, .int .i64 0] 41) = W from hW]
  refine (new_any a len cap W hl hcd).mono ?_
  rintro e w1 ⟨rfl, c1, b1⟩
  obtain ⟨B, hB⟩ : ∃ B, W.heap.size = B := ⟨_, rfl⟩
  rw [hB] at c1 ⊢
  have z1 := z0.below b1 z0.lt
  have y1 := y0.below b1 y0.lt
  replace b1 := b0.trans (b1.mono b0.size)
  have lB : w.heap.size + 1 < B := by omega
  clear hcd hW z0 b0 hB y0
  go_wp2_with fail
  refine (l3bent_any B a len cap _ c1).mono ?_
  rintro e w2 ⟨x, n, k, lim, g, rfl, hz, hnk, hn, hg, hlim, c2, o2⟩
  have hB1 := c1.1
  have z2 := z1.only o2 (by omega)
  have y2 := y1.only o2 (by omega)
  have b2 := b1.trans (o2.below (by omega) b1.size)
  clear z1 c1 o2 y1 b1
  have HZ : Hid _ := hz
  have HG : Hid _ := hg
  have C2 : Hid _ := c2
  clear hz hg c2
  go_wp2_with fail
  obtain ⟨V, hV⟩ : ∃ V, w2.heap.size = V := ⟨_, rfl⟩
  obtain ⟨W2, hW2⟩ : ∃ u, w2.alloc (.cells #[.slice x n k, .int .i64 lim] 41) = u := ⟨_, rfl⟩
  have hV2 : W2.heap.size = V + 1 := by rw [← hW2, ← hV]; simp
  have z3 : Sits W2 w.heap.size (cdCells Cd.zero) 38 := by rw [← hW2]; exact z2.alloc _
  have y3 : Sits W2 (w.heap.size + 1) #[.slice none 0 0, .int .i64 0] 41 := by rw [← hW2]; exact y2.alloc _
  have f3 : Sits W2 V #[.slice x n k, .int .i64 lim] 41 := by rw [← hW2]; exact Sits.new' hV
  have b3 : Below w.heap.size w W2 := by rw [← hW2]; exact b2.alloc b2.size _
  have c3 : Cur W2 B a len cap := by rw [← hW2]; exact Cur.alloc C2.out _ _
  have lV : B < V := by rw [← hV]; exact C2.out.1
  have x3 : ZI w1.heap.size V W2 x (n * 6) (flat g) := by
    have h := HZ.out
    rw [hV] at h
    rw [← hW2]
    exact ZI.below h ((Below.refl _ _).alloc (Nat.le_refl _) _)
  rw [hW2, hV]
  clear hW2 hV z2 y2 b2 C2 HZ
  refine (l3last_any x n k g lim W2 (by omega) x3.pr).mono ?_
  rintro e w4 ⟨rfl, rfl⟩
  have lb := lastF_bd HG.out
  obtain ⟨la, hla⟩ : ∃ la, lastF g n = la := ⟨_, rfl⟩
  rw [hla] at lb ⊢
  have z4 := z3.alloc (.cells #[.slice x n k, .int .i64 lim] 41)
  have y4 := y3.alloc (.cells #[.slice x n k, .int .i64 lim] 41)
  have f4 := f3.alloc (.cells #[.slice x n k, .int .i64 lim] 41)
  have b4 := b3.alloc b3.size (.cells #[.slice x n k, .int .i64 lim] 41)
  have c4 := c3.alloc #[.slice x n k, .int .i64 lim] 41
  have x4 := x3.below ((Below.refl W2.heap.size W2).alloc (Nat.le_refl _) (.cells #[.slice x n k, .int .i64 lim] 41))
  generalize hW4 : W2.alloc (.cells #[.slice x n k, .int .i64 lim] 41) = W4 at *
  have HF : Hid _ := f4
  clear hW4 hla z3 y3 f3 b3 c3 x3 f4
  go_wp2_with fail
  have l4 := c4.1
  have c4' := c4.alloc #[.int .i64 0, .int .i64 1000000, .int .i64 30000000, .int .i64 200000000, .int .i64 (-1)] 3
  refine (pick5q (fun x => -1 ≤ x ∧ x ≤ 200000000) B a len cap _ c4' _ 3 0 1000000 30000000 200000000 (-1) (Sits.new' rfl) (by omega) (by omega) (by omega) (by omega) (by omega) (by omega)).mono ?_
  rintro e w5 ⟨d, rfl, ⟨d0, d1⟩, c5, o5⟩
  have z5 := (z4.alloc _).only o5 (by omega)
  have y5 := (y4.alloc _).only o5 (by omega)
  have f5 := Sits.only (Sits.alloc HF.out _) o5 (by omega)
  have b5 := b4.alloc b4.size (.cells #[.int .i64 0, .int .i64 1000000, .int .i64 30000000, .int .i64 200000000, .int .i64 (-1)] 3)
  replace b5 := b5.trans (o5.below (by omega) b5.size)
  have x5 := zi_only (ZI.below x4 ((Below.refl _ _).alloc (Nat.le_refl _) _)) o5 hB1
  clear HF z4 y4 b4 c4 c4' x4 o5 l4
  obtain ⟨now, hnow⟩ : ∃ now, la + d = now := ⟨_, rfl⟩
  have C5 : Hid _ := c5
  have f50 : w5.cell? ⟨V, 0, none⟩ = some (.slice x n k) := f5.cell 0
  have f51 : w5.cell? ⟨V, 1, none⟩ = some (.int .i64 lim) := f5.cell 1
  have Z5 : Hid _ := z5
  have Y5 : Hid _ := y5
  have F5 : Hid _ := f5
  have X5 : Hid _ := x5
  have B5 : Hid _ := b5
  have hs5 : w.heap.size < w5.heap.size := z5.lt
  clear z5 y5 f5 x5 b5 c5
  go_wp2_with fail
  go_region_with (go_at_call 49; refine (l5bent_any B a len cap now (by omega) (by omega) _ (Cur.drew C5.out)).mono ?_; rintro e w6 ⟨⟨tg, iv, fi, nx, ct, la', dr⟩, rfl, hr, c6, o6⟩; have z6 := Sits.only (Sits.drew Z5.out) o6 (by omega); have y6 := Sits.only (Sits.drew Y5.out) o6 (by omega); have f6 := Sits.only (Sits.drew F5.out) o6 (by omega); have b6 := (Below.drew B5.out).trans (o6.below (by omega) (Below.drew B5.out).size); have s6 : V < w6.heap.size := f6.lt; have X6 : Hid _ := zi_only (B := B) (w' := w6) (ZI.below X5.out ((Below.refl _ _).drew)) o6 hB1; have HR : Hid _ := hr; have f60 : w6.cell? ⟨V, 0, none⟩ = some (.slice x n k) := f6.cell 0; have f61 : w6.cell? ⟨V, 1, none⟩ = some (.int .i64 lim) := f6.cell 1; obtain ⟨u0, u1, u2, u3, u4, u5, u6⟩ := cd_cells z6; have v0 : w6.cell? ⟨w.heap.size + 1, 0, none⟩ = some (.slice none 0 0) := y6.cell 0; have v1 : w6.cell? ⟨w.heap.size + 1, 1, none⟩ = some (.int .i64 0) := y6.cell 1; have fz := z6.frozen; have fy := y6.frozen; have Z6 : Hid _ := z6; have Y6 : Hid _ := y6; have B6 : Hid _ := b6; clear z6 y6 f6 b6 hr c6 o6)
  all_goals
    go_wp2
    refine bodyPost_ret (ret_cfi (q := ⟨tg, iv, fi, nx, ct, la', dr⟩) (v := .slice x n k) (u := .int .i64 lim) (m := now) (t1 := 38) (t2 := 41) (B := w.heap.size) (C := w.heap.size + 1) Try.results32 rfl rfl rfl ?s1 ?s2) rfl ⟨_, x, n, k, lim, now, g, rfl, HR.out, ?zz, hnk, hn, HG.out, hlim, ⟨by omega, by omega⟩, ?bb⟩
    case s1 => exact Sits.other (Sits.other (Sits.set (Sits.set (Sits.set (Sits.set (Sits.set (Sits.set (Sits.set Z6.out 0 _) 1 _) 2 _) 3 _) 4 _) 5 _) 6 _) (by omega) _) (by omega) _
    case s2 => exact Sits.set (Sits.set (Sits.other (Sits.other (Sits.other (Sits.other (Sits.other (Sits.other (Sits.other Y6.out (by omega) _) (by omega) _) (by omega) _) (by omega) _) (by omega) _) (by omega) _) (by omega) _) 0 _) 1 _
    case zz => exact ZI.wide (zi_low (zi_low (zi_low (zi_low (zi_low (zi_low (zi_low (zi_low (zi_low X6.out (by omega) _ _) (by omega) _ _) (by omega) _ _) (by omega) _ _) (by omega) _ _) (by omega) _ _) (by omega) _ _) (by omega) _ _) (by omega) _ _) (by omega) (by simp; omega)
    case bb => exact (Below.setCell (Below.setCell (Below.setCell (Below.setCell (Below.setCell (Below.setCell (Below.setCell (Below.setCell (Below.setCell B6.out (Nat.le_refl _) _) (Nat.le_refl _) _) (Nat.le_refl _) _) (Nat.le_refl _) _) (Nat.le_refl _) _) (Nat.le_refl _) _) (Nat.le_refl _) _) (Nat.le_succ _) _) (Nat.le_succ _) _)

end Go.Proofs.Ythdlpgehojdhkac
