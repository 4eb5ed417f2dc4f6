/-
  A VISIT: look.
-/
import Derived.Test.YtlhiadehohikdaaVisit
namespace Go.Proofs.Ytlhiadehohikdaa
open Go.RowKit
set_option linter.unusedVariables false

theorem look_end {w w1 : World} {V : Nat} {s : Vs} {q : Cd} {l : Bool} {t : TypeId} (h : Sits w1 V (vsCells s) t) (b1 : Below w.drew.heap.size w.drew w1) :
    Sits ((((((((w1.setCell ⟨V, 0, none⟩ (.int .i64 q.tg)).setCell ⟨V, 1, none⟩ (.int .i64 q.iv)).setCell ⟨V, 2, none⟩ (.int .i64 q.fi)).setCell ⟨V, 3, none⟩ (.int .i64 q.nx)).setCell ⟨V, 4, none⟩ (.int .i64 q.ct)).setCell ⟨V, 5, none⟩ (.int .i64 q.la)).setCell ⟨V, 6, none⟩ (.bool q.dr)).setCell ⟨V, 11, none⟩ (.bool l)) V (vsCells { s with c := q, lt := l }) t ∧ Only V w ((((((((w1.setCell ⟨V, 0, none⟩ (.int .i64 q.tg)).setCell ⟨V, 1, none⟩ (.int .i64 q.iv)).setCell ⟨V, 2, none⟩ (.int .i64 q.fi)).setCell ⟨V, 3, none⟩ (.int .i64 q.nx)).setCell ⟨V, 4, none⟩ (.int .i64 q.ct)).setCell ⟨V, 5, none⟩ (.int .i64 q.la)).setCell ⟨V, 6, none⟩ (.bool q.dr)).setCell ⟨V, 11, none⟩ (.bool l)) :=
  ⟨vs_lt (vs_dr (vs_la (vs_ct (vs_nx (vs_fi (vs_iv (vs_tg h _) _) _) _) _) _) _) _, ((((((((((Only.refl V w).drew).trans (only_of_below b1)).set 0 _).set 1 _).set 2 _).set 3 _).set 4 _).set 5 _).set 6 _).set 11 _⟩

set_option maxHeartbeats 2000000 in
theorem look_visit (s : Vs) (f : Nat → Pk) (V : Nat) (w : World) (hs : Sits w V (vsCells s) 59) (hn : s.n ≤ 1048576) (hnc : s.n ≤ s.cap) (hP : PR w.heap.size w s.a s.n f) (hl : lookB s.c f s.n s.lim s.now = true) :
    Calls Try.prog 36 #[.pointer (some ⟨V, 0, none⟩)] w fun e w' => e = .returned (.tuple #[]) ∧ Sits w' V (vsCells { s with c := lateC s.c f s.n s.now, lt := lateB s.c f s.n s.now }) 59 ∧ Only V w w' := by
  obtain ⟨c, a, n, cap, lim, now, st, lt, mq, x, m, cp⟩ := s
  have HS : Hid (Sits w V (vsCells ⟨c, a, n, cap, lim, now, st, lt, mq, x, m, cp⟩) 59) := hs
  obtain ⟨⟨c0, c1, c2, c3, c4, c5, c6⟩, ⟨x0, x1⟩, c9, c10, c11, c12, c13⟩ := vs_cells hs
  have hVl := hs.lt
  have HP : Hid (PR w.heap.size w a n f) := hP
  clear hs hP
  dsimp only at *
  obtain ⟨hg, hf, hi, hlast⟩ := look_parts hl
  obtain ⟨n0, n1⟩ : 0 ≤ now ∧ now ≤ 1000000000000 := by simpa [inB] using hi
  obtain ⟨q, hq⟩ : ∃ q, lateC c f n now = q := ⟨_, rfl⟩
  obtain ⟨lt', hlt⟩ : ∃ l, lateB c f n now = l := ⟨_, rfl⟩
  have HL : Hid (∀ W : World, PR W.heap.size W a n f → Calls Try.prog 41 #[c.val, fiVal a n cap lim, .int .i64 now] W fun e w' => e = .returned (.tuple #[q.val, .bool lt']) ∧ Below W.heap.size W w') := fun W hW => by
    refine (ilate_any c a n cap f lim now W hn hnc hW (by omega) (by omega)).mono ?_
    rintro e w' ⟨rfl, hb⟩
    unfold lateQ
    rw [hl, hq, hlt]
    exact ⟨rfl, hb⟩
  rw [hq, hlt]
  clear hq hlt hlast hg hf hi hl
  go_enter Try.func36, Try.ntmps36
  go_wp2
  set_option maxRecDepth 20000 in go_region_with (go_at_call 41; refine (HL.out w.drew HP.out).mono ?_; rintro e w1 ⟨rfl, b1⟩; have s1 := Sits.below (W := w.drew) HS.out b1 hVl; obtain ⟨⟨d0, d1, d2, d3, d4, d5, d6⟩, ⟨y0, y1⟩, d9, d10, d11, d12, d13⟩ := vs_cells s1; have fz := s1.frozen; have S1 : Hid (Sits w1 V (vsCells ⟨c, a, n, cap, lim, now, st, lt, mq, x, m, cp⟩) 59) := s1; clear s1)
  all_goals
    go_wp2
    go_end0
    exact ⟨rfl, look_end S1.out b1⟩

end Go.Proofs.Ytlhiadehohikdaa
