/-
  A VISIT BEGINS: visitOf.
-/
import Derived.Test.YtlhiadehohikdaaRun
import Derived.Deep.RegionHeld3
namespace Go.Proofs.Ytlhiadehohikdaa
open Go.RowKit
set_option linter.unusedVariables false

@[reducible] def SV (s : Nat) (r : Cd) (v : Nat) (a : Option Addr) (n c : Nat) (lim : Int) (w' : World) : Prop := (w'.cell? ⟨s, 0, none⟩ = some (.int .i64 r.tg) ∧ w'.cell? ⟨s, 1, none⟩ = some (.int .i64 r.iv) ∧ w'.cell? ⟨s, 2, none⟩ = some (.int .i64 r.fi) ∧ w'.cell? ⟨s, 3, none⟩ = some (.int .i64 r.nx) ∧ w'.cell? ⟨s, 4, none⟩ = some (.int .i64 r.ct) ∧ w'.cell? ⟨s, 5, none⟩ = some (.int .i64 r.la) ∧ w'.cell? ⟨s, 6, none⟩ = some (.bool r.dr)) ∧ (w'.cell? ⟨v, 0, none⟩ = some (.slice a n c) ∧ w'.cell? ⟨v, 1, none⟩ = some (.int .i64 lim))

theorem vst_new {H : Nat} {W : World} {c : Cd} {n : Nat} {f : Nat → Pk} {lim now st : Int} {x : Option Addr} {cp : Nat} (hpo : PO H W x n cp f) (hH : H ≤ W.heap.size) : Vst H W.heap.size (W.alloc (.cells (vsCells ⟨c, x, n, cp, lim, now, st, false, false, none, 0, 0⟩) 59)) c n f lim now st false false 0 f := by
  have b : Below W.heap.size W (W.alloc (.cells (vsCells ⟨c, x, n, cp, lim, now, st, false, false, none, 0, 0⟩) 59)) := (Below.refl _ _).alloc (Nat.le_refl _) _
  refine ⟨x, cp, none, 0, Sits.new _ _ _, ⟨hpo.cap, ?_⟩, PO.nil _ _ _, hH⟩
  rcases hpo.zi with h0 | ⟨g, h1, h2, h3, h4⟩
  · exact .inl (by omega)
  · exact .inr ⟨g, h1, by omega, h2, by simp [Value.ownBlock], own_same h4 (b.block g h3) b.size⟩

set_option maxHeartbeats 4000000 in
theorem visitOf_any (c : Cd) (a : Option Addr) (n cap : Nat) (f : Nat → Pk) (lim now : Int) (w : World) (hn : n ≤ 1048576) (hP : PR w.heap.size w a n f) :
    Calls Try.prog 24 #[c.val, fiVal a n cap lim, .int .i64 now] w fun e w' => ∃ V : Nat, e = .returned (.pointer (some ⟨V, 0, none⟩)) ∧ Vst w.heap.size V w' c n f lim now (if c.dr then 1 else 0) false false 0 f ∧ Below w.heap.size w w' := by
  have HP : Hid (PR w.heap.size w a n f) := hP
  clear hP
  obtain ⟨tg, iv, fi, nx, ct, la, dr⟩ := c
  cases dr
  case false =>
    obtain ⟨W0, hW0⟩ : ∃ W0, (w.alloc (.cells #[.int .i64 tg, .int .i64 iv, .int .i64 fi, .int .i64 nx, .int .i64 ct, .int .i64 la, .bool false] 28)).alloc (.cells #[.slice a n cap, .int .i64 lim] 31) = W0 := ⟨_, rfl⟩
    have B0 : Below w.heap.size w W0 := by rw [← hW0]; exact ((Below.refl _ w).alloc (Nat.le_refl _) _).alloc (by simp) _
    have lC : Sits W0 w.heap.size (cdCells ⟨tg, iv, fi, nx, ct, la, false⟩) 28 := by rw [← hW0]; exact (Sits.new _ _ _).alloc _
    have lF : Lies W0 (w.heap.size + 1) #[.slice a n cap, .int .i64 lim] 31 := by rw [← hW0]; have := Lies.new (w.alloc (.cells (cdCells ⟨tg, iv, fi, nx, ct, la, false⟩) 28)) #[.slice a n cap, .int .i64 lim] 31; simp only [World.size_alloc] at this; exact this
    have H0 : Hid (PR W0.heap.size W0 a n f) := (PR.below HP.out B0).mono B0.size
    have LC : Hid (Sits W0 w.heap.size (cdCells ⟨tg, iv, fi, nx, ct, la, false⟩) 28) := lC
    have LF : Hid (Lies W0 (w.heap.size + 1) #[.slice a n cap, .int .i64 lim] 31) := lF
    obtain ⟨c0, c1, c2, c3, c4, c5, c6⟩ := cd_cells lC
    obtain ⟨x0, x1⟩ := fi2_cells lF
    have hs0 : w.heap.size + 1 < W0.heap.size := lF.lt
    clear lC lF
    have hSB : ∀ W, Below W0.heap.size W0 W → SV w.heap.size ⟨tg, iv, fi, nx, ct, la, false⟩ (w.heap.size + 1) a n cap lim W := fun W hW => ⟨cd_cells (Sits.below LC.out hW LC.out.lt), fi2_cells (Lies.below LF.out hW LF.out.lt)⟩
    dsimp only at *
    go_enter Try.func24, Try.ntmps24
    go_wp2
    set_option maxRecDepth 100000 in go_region_held3 (fun w' => SV w.heap.size ⟨tg, iv, fi, nx, ct, la, false⟩ (w.heap.size + 1) a n cap lim w') (first | exact hSB _ (by (repeat first | (with_reducible exact Below.refl _ _) | (with_reducible assumption) | (with_reducible apply Below.drew) | (with_reducible refine Below.setCell ?_ (by first | omega | (simp; done) | (simp; omega)) _) | (with_reducible refine Below.alloc ?_ (by first | omega | (simp; done) | (simp; omega)) _))) | fail)
      (first | (go_at_call 35; refine (copied_any a n cap f _ ((PR.below H0.out (by (repeat first | (with_reducible exact Below.refl _ _) | (with_reducible assumption) | (with_reducible apply Below.drew) | (with_reducible refine Below.setCell ?_ (by first | omega | (simp; done) | (simp; omega)) _) | (with_reducible refine Below.alloc ?_ (by first | omega | (simp; done) | (simp; omega)) _)))).mono (by first | omega | (simp; done) | (simp; omega))) hn).mono ?_; rintro o v2 ⟨x2, k2, rfl, hpo, b2⟩; have hs2 := b2.size; (try simp at hs2); have hb2 : Below W0.heap.size W0 v2 := Below.trans (by (repeat first | (with_reducible exact Below.refl _ _) | (with_reducible assumption) | (with_reducible apply Below.drew) | (with_reducible refine Below.setCell ?_ (by first | omega | (simp; done) | (simp; omega)) _) | (with_reducible refine Below.alloc ?_ (by first | omega | (simp; done) | (simp; omega)) _))) (b2.mono (by first | omega | (simp; done) | (simp; omega)))))
    all_goals
      obtain ⟨⟨y0, y1, y2, y3, y4, y5, y6⟩, y7, y8⟩ := hSB v2 hb2
      have hb2s := hb2.size
      have v5 := vst_new (c := ⟨tg, iv, fi, nx, ct, la, false⟩) (lim := lim) (now := now) (st := 0) (hpo.mono (base' := w.heap.size) (by first | omega | (simp; omega))) (by omega)
      have bb : Below w.heap.size w v2 := B0.trans (hb2.mono B0.size)
      go_wp2
      go_ret
      exact ⟨_, rfl, v5, bb.alloc (by omega) _⟩
  case true =>
    obtain ⟨W0, hW0⟩ : ∃ W0, (w.alloc (.cells #[.int .i64 tg, .int .i64 iv, .int .i64 fi, .int .i64 nx, .int .i64 ct, .int .i64 la, .bool true] 28)).alloc (.cells #[.slice a n cap, .int .i64 lim] 31) = W0 := ⟨_, rfl⟩
    have B0 : Below w.heap.size w W0 := by rw [← hW0]; exact ((Below.refl _ w).alloc (Nat.le_refl _) _).alloc (by simp) _
    have lC : Sits W0 w.heap.size (cdCells ⟨tg, iv, fi, nx, ct, la, true⟩) 28 := by rw [← hW0]; exact (Sits.new _ _ _).alloc _
    have lF : Lies W0 (w.heap.size + 1) #[.slice a n cap, .int .i64 lim] 31 := by rw [← hW0]; have := Lies.new (w.alloc (.cells (cdCells ⟨tg, iv, fi, nx, ct, la, true⟩) 28)) #[.slice a n cap, .int .i64 lim] 31; simp only [World.size_alloc] at this; exact this
    have H0 : Hid (PR W0.heap.size W0 a n f) := (PR.below HP.out B0).mono B0.size
    have LC : Hid (Sits W0 w.heap.size (cdCells ⟨tg, iv, fi, nx, ct, la, true⟩) 28) := lC
    have LF : Hid (Lies W0 (w.heap.size + 1) #[.slice a n cap, .int .i64 lim] 31) := lF
    obtain ⟨c0, c1, c2, c3, c4, c5, c6⟩ := cd_cells lC
    obtain ⟨x0, x1⟩ := fi2_cells lF
    have hs0 : w.heap.size + 1 < W0.heap.size := lF.lt
    clear lC lF
    have hSB : ∀ W, Below W0.heap.size W0 W → SV w.heap.size ⟨tg, iv, fi, nx, ct, la, true⟩ (w.heap.size + 1) a n cap lim W := fun W hW => ⟨cd_cells (Sits.below LC.out hW LC.out.lt), fi2_cells (Lies.below LF.out hW LF.out.lt)⟩
    dsimp only at *
    go_enter Try.func24, Try.ntmps24
    go_wp2
    set_option maxRecDepth 100000 in go_region_held3 (fun w' => SV w.heap.size ⟨tg, iv, fi, nx, ct, la, true⟩ (w.heap.size + 1) a n cap lim w') (first | exact hSB _ (by (repeat first | (with_reducible exact Below.refl _ _) | (with_reducible assumption) | (with_reducible apply Below.drew) | (with_reducible refine Below.setCell ?_ (by first | omega | (simp; done) | (simp; omega)) _) | (with_reducible refine Below.alloc ?_ (by first | omega | (simp; done) | (simp; omega)) _))) | fail)
      (first | (go_at_call 35; refine (copied_any a n cap f _ ((PR.below H0.out (by (repeat first | (with_reducible exact Below.refl _ _) | (with_reducible assumption) | (with_reducible apply Below.drew) | (with_reducible refine Below.setCell ?_ (by first | omega | (simp; done) | (simp; omega)) _) | (with_reducible refine Below.alloc ?_ (by first | omega | (simp; done) | (simp; omega)) _)))).mono (by first | omega | (simp; done) | (simp; omega))) hn).mono ?_; rintro o v2 ⟨x2, k2, rfl, hpo, b2⟩; have hs2 := b2.size; (try simp at hs2); have hb2 : Below W0.heap.size W0 v2 := Below.trans (by (repeat first | (with_reducible exact Below.refl _ _) | (with_reducible assumption) | (with_reducible apply Below.drew) | (with_reducible refine Below.setCell ?_ (by first | omega | (simp; done) | (simp; omega)) _) | (with_reducible refine Below.alloc ?_ (by first | omega | (simp; done) | (simp; omega)) _))) (b2.mono (by first | omega | (simp; done) | (simp; omega)))))
    all_goals
      obtain ⟨⟨y0, y1, y2, y3, y4, y5, y6⟩, y7, y8⟩ := hSB v2 hb2
      have hb2s := hb2.size
      have v5 := vst_new (c := ⟨tg, iv, fi, nx, ct, la, true⟩) (lim := lim) (now := now) (st := 1) (hpo.mono (base' := w.heap.size) (by first | omega | (simp; omega))) (by omega)
      have bb : Below w.heap.size w v2 := B0.trans (hb2.mono B0.size)
      go_wp2
      go_ret
      exact ⟨_, rfl, v5, bb.alloc (by omega) _⟩

end Go.Proofs.Ytlhiadehohikdaa
