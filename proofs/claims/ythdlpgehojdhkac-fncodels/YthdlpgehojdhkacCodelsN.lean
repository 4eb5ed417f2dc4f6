/-
  WHAT A CODEL LETS OUT AND DROPS, by numbers: what was dropped has no marks, what was marked knows them, and the Codel stays one.
-/
import Derived.Test.YthdlpgehojdhkacCalmN
namespace Go.Proofs.Ythdlpgehojdhkac
open Go.RowKit
set_option linter.unusedVariables false

theorem noDr_good {c : Cd} (hg : c.good = true) : (dropR.noDr c).good = true := by
  have := c.good_iff.1 hg
  refine (Cd.good_iff _).2 ?_
  unfold dropR.noDr
  dsimp only
  omega

theorem begC_good {c : Cd} {now : Int} (hg : c.good = true) (h0 : 0 ≤ now) (h1 : now ≤ 1000000000000) : (begC c now).good = true := by
  obtain ⟨g1, g2, g3, g4, g5, g6, g7, g8, g9, g10, g11⟩ := c.good_iff.1 hg
  have hm := moreF_bd (c := c) (now := now) g8 g9 g10 g11
  have hn := nextF_bd (t := now) (n := moreF c now) (show 1 ≤ c.iv by omega) g3
  exact (Cd.good_iff _).2 ⟨g1, g2, g3, g4, g5, by show 0 ≤ nextF now c.iv (moreF c now); omega, by show nextF now c.iv (moreF c now) ≤ _; omega, by show 0 ≤ moreF c now; omega, hm.2, by show 0 ≤ moreF c now; omega, hm.2⟩

theorem dropR_all (f : Nat → Pk) (n : Nat) (now : Int) (h0 : 0 ≤ now) (h1 : now ≤ 1000000000000) : ∀ (k : Nat) (c : Cd) (m : Nat), c.good = true →
    (dropR f n now k c m).c.tg = c.tg ∧ (dropR f n now k c m).c.iv = c.iv ∧ (dropR f n now k c m).c.good = true ∧ m ≤ (dropR f n now k c m).m ∧ (∀ i, m ≤ i → i < (dropR f n now k c m).m → (f i).ecn = 0) ∧ ((dropR f n now k c m).mk' = true → (f (dropR f n now k c m).m).ecn ≠ 0) := by
  intro k
  induction k with
  | zero =>
    intro c m hg
    exact ⟨rfl, rfl, hg, Nat.le_refl _, fun i a b => absurd (Nat.lt_of_le_of_lt a b) (Nat.lt_irrefl _), fun h => (by cases h)⟩
  | succ k ih =>
    intro c m hg
    have hb := c.good_iff.1 hg
    unfold dropR
    split
    · exact ⟨rfl, rfl, hg, Nat.le_refl _, fun i a b => absurd (Nat.lt_of_le_of_lt a b) (Nat.lt_irrefl _), fun h => (by cases h)⟩
    · rename_i hnx
      have hu := upC_good hg
      split
      · rename_i he
        exact ⟨rfl, rfl, next_good hu (t := c.nx) (by omega) (by omega), Nat.le_refl _, fun i a b => absurd (Nat.lt_of_le_of_lt a b) (Nat.lt_irrefl _), fun _ => he⟩
      · rename_i he
        have he0 : (f m).ecn = 0 := by omega
        obtain ⟨c1, hc1⟩ : ∃ c1 : Cd, c1 = ⟨c.tg, c.iv, c.fi, c.nx, upF c.ct, c.la, c.dr⟩ := ⟨_, rfl⟩
        rw [← hc1] at hu ⊢
        obtain ⟨c2, hc2⟩ : ∃ c2, lateC c1 (shiftF f (m + 1)) (n - (m + 1)) now = c2 := ⟨_, rfl⟩
        have hg2 : c2.good = true := by rw [← hc2]; exact lateC_good hu h0 h1
        obtain ⟨x1, x2, x3, x4, x5, x6⟩ := lateC_nx c1 (shiftF f (m + 1)) (n - (m + 1)) now
        rw [hc2] at x1 x2 x6 ⊢
        have y1 : c2.nx = c.nx := by rw [x1, hc1]
        have y2 : c2.iv = c.iv := by rw [x2, hc1]
        have y6 : c2.tg = c.tg := by rw [x6, hc1]
        split
        · obtain ⟨a1, a2, a3, a4, a5, a6⟩ := ih ⟨c2.tg, c2.iv, c2.fi, nextF c2.nx c2.iv c2.ct, c2.ct, c2.la, c2.dr⟩ (m + 1) (next_good hg2 (t := c2.nx) (by omega) (by omega))
          refine ⟨a1.trans y6, a2.trans y2, a3, by omega, fun i p q => ?_, a6⟩
          by_cases e : i = m
          · rw [e]; exact he0
          · exact a5 i (by omega) q
        · refine ⟨y6, y2, noDr_good hg2, Nat.le_succ _, fun i p q => ?_, fun h => (by cases h)⟩
          obtain rfl : i = m := by
            have : i < m + 1 := q
            omega
          exact he0

theorem popR_all {f : Nat → Pk} {n : Nat} {now : Int} {c : Cd} (hg : c.good = true) (h0 : 0 ≤ now) (h1 : now ≤ 1000000000000) :
    (popR f n now c).c.tg = c.tg ∧ (popR f n now c).c.iv = c.iv ∧ (popR f n now c).c.good = true ∧ (∀ i, i < (popR f n now c).m → (f i).ecn = 0) ∧ ((popR f n now c).mk' = true → (f (popR f n now c).m).ecn ≠ 0) ∧ (lateB c f n now = false → (popR f n now c).m = 0 ∧ (popR f n now c).mk' = false) := by
  have hg2 := lateC_good (f := f) (n := n) hg h0 h1
  obtain ⟨x1, x2, x3, x4, x5, x6⟩ := lateC_nx c f n now
  unfold popR
  split
  · exact ⟨x6, x2, noDr_good hg2, fun i h => absurd h (Nat.not_lt_zero _), fun h => (by cases h), fun _ => ⟨rfl, rfl⟩⟩
  · rename_i hl
    split
    · obtain ⟨a1, a2, a3, a4, a5, a6⟩ := dropR_all f n now h0 h1 n (lateC c f n now) 0 hg2
      exact ⟨a1.trans x6, a2.trans x2, a3, fun i h => a5 i (Nat.zero_le _) h, a6, fun h => absurd h hl⟩
    · unfold begR
      split
      · rename_i he
        exact ⟨x6, x2, begC_good hg2 h0 h1, fun i h => absurd h (Nat.not_lt_zero _), fun _ => he, fun h => absurd h hl⟩
      · rename_i he
        have hg3 := lateC_good (c := lateC c f n now) (f := shiftF f 1) (n := n - 1) hg2 h0 h1
        obtain ⟨z1, z2, z3, z4, z5, z6⟩ := lateC_nx (lateC c f n now) (shiftF f 1) (n - 1) now
        refine ⟨z6.trans x6, z2.trans x2, begC_good hg3 h0 h1, fun i h => ?_, fun h => (by cases h), fun h => absurd h hl⟩
        obtain rfl : i = 0 := by
          have : i < 1 := h
          omega
        omega

end Go.Proofs.Ythdlpgehojdhkac
