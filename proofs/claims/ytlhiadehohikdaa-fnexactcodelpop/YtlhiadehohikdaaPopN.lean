/-
  WHAT ONE CALL OF CodelPop COMES TO, in numbers. No Go in sight.
-/
import Derived.Test.YtlhiadehohikdaaBegin
namespace Go.Proofs.Ytlhiadehohikdaa
open Go.RowKit
set_option linter.unusedVariables false

/-- What is left behind m that were dropped. -/
def shiftF (f : Nat → Pk) (m : Nat) : Nat → Pk := fun i => f (m + i)
theorem shiftF_0 (f : Nat → Pk) : shiftF f 0 = f := by funext i; simp [shiftF]
theorem popF_shift (f : Nat → Pk) (m : Nat) : popF (shiftF f m) = shiftF f (m + 1) := by funext i; unfold popF shiftF; congr 1; omega
theorem putAt_self (f : Nat → Pk) (m : Nat) : putAt f m (shiftF f m 0) = f := by
  funext i
  unfold putAt shiftF
  split
  · next h => rw [h, Nat.add_zero]
  · rfl

/-- What a call comes to: the Codel, how many were dropped, whether the first one left was marked. -/
structure Res where
  c : Cd
  m : Nat
  mk' : Bool

/-- The drops of a time of Dropping. -/
def dropR (f : Nat → Pk) (n : Nat) (now : Int) : Nat → Cd → Nat → Res
  | 0, c, m => ⟨c, m, false⟩
  | k + 1, c, m =>
    if now < c.nx then ⟨c, m, false⟩
    else if (f m).ecn ≠ 0 then ⟨⟨c.tg, c.iv, c.fi, nextF c.nx c.iv (upF c.ct), upF c.ct, c.la, c.dr⟩, m, true⟩
    else if lateB ⟨c.tg, c.iv, c.fi, c.nx, upF c.ct, c.la, c.dr⟩ (shiftF f (m + 1)) (n - (m + 1)) now then
      dropR f n now k ⟨(lateC ⟨c.tg, c.iv, c.fi, c.nx, upF c.ct, c.la, c.dr⟩ (shiftF f (m + 1)) (n - (m + 1)) now).tg, (lateC ⟨c.tg, c.iv, c.fi, c.nx, upF c.ct, c.la, c.dr⟩ (shiftF f (m + 1)) (n - (m + 1)) now).iv, (lateC ⟨c.tg, c.iv, c.fi, c.nx, upF c.ct, c.la, c.dr⟩ (shiftF f (m + 1)) (n - (m + 1)) now).fi, nextF (lateC ⟨c.tg, c.iv, c.fi, c.nx, upF c.ct, c.la, c.dr⟩ (shiftF f (m + 1)) (n - (m + 1)) now).nx (lateC ⟨c.tg, c.iv, c.fi, c.nx, upF c.ct, c.la, c.dr⟩ (shiftF f (m + 1)) (n - (m + 1)) now).iv (lateC ⟨c.tg, c.iv, c.fi, c.nx, upF c.ct, c.la, c.dr⟩ (shiftF f (m + 1)) (n - (m + 1)) now).ct, (lateC ⟨c.tg, c.iv, c.fi, c.nx, upF c.ct, c.la, c.dr⟩ (shiftF f (m + 1)) (n - (m + 1)) now).ct, (lateC ⟨c.tg, c.iv, c.fi, c.nx, upF c.ct, c.la, c.dr⟩ (shiftF f (m + 1)) (n - (m + 1)) now).la, (lateC ⟨c.tg, c.iv, c.fi, c.nx, upF c.ct, c.la, c.dr⟩ (shiftF f (m + 1)) (n - (m + 1)) now).dr⟩ (m + 1)
    else ⟨noDr (lateC ⟨c.tg, c.iv, c.fi, c.nx, upF c.ct, c.la, c.dr⟩ (shiftF f (m + 1)) (n - (m + 1)) now), m + 1, false⟩
where noDr (c : Cd) : Cd := ⟨c.tg, c.iv, c.fi, c.nx, c.ct, c.la, false⟩

/-- Dropping begins. -/
def begC (c : Cd) (now : Int) : Cd := ⟨c.tg, c.iv, c.fi, nextF now c.iv (moreF c now), moreF c now, moreF c now, true⟩
def begR (f : Nat → Pk) (n : Nat) (now : Int) (c : Cd) : Res := if (f 0).ecn ≠ 0 then ⟨begC c now, 0, true⟩ else ⟨begC (lateC c (shiftF f 1) (n - 1) now) now, 1, false⟩
def popR (f : Nat → Pk) (n : Nat) (now : Int) (c : Cd) : Res :=
  if lateB c f n now = false then ⟨dropR.noDr (lateC c f n now), 0, false⟩
  else if c.dr then dropR f n now n (lateC c f n now) 0 else begR f n now (lateC c f n now)
/-- What is left, the first one marked if it was. -/
def outF (f : Nat → Pk) (r : Res) : Nat → Pk := if r.mk' then markF (shiftF f r.m) else shiftF f r.m

theorem lateC_nx (c : Cd) (f : Nat → Pk) (n : Nat) (now : Int) : (lateC c f n now).nx = c.nx ∧ (lateC c f n now).iv = c.iv ∧ (lateC c f n now).ct = c.ct ∧ (lateC c f n now).la = c.la ∧ (lateC c f n now).dr = c.dr ∧ (lateC c f n now).tg = c.tg := by
  unfold lateC
  split
  · exact ⟨rfl, rfl, rfl, rfl, rfl, rfl⟩
  · split <;> exact ⟨rfl, rfl, rfl, rfl, rfl, rfl⟩
theorem late_pos {c : Cd} {f : Nat → Pk} {n : Nat} {now : Int} (h : lateB c f n now = true) : 0 < n := by
  unfold lateB calmB at h
  rcases (show n = 0 ∨ 0 < n by omega) with e | e
  · subst e; simp at h
  · exact e
theorem upC_good {c : Cd} (hg : c.good = true) : (Cd.mk c.tg c.iv c.fi c.nx (upF c.ct) c.la c.dr).good = true := by
  obtain ⟨g1, g2, g3, g4, g5, g6, g7, g8, g9, g10, g11⟩ := c.good_iff.1 hg
  have := upF_bd g8 g9
  exact (Cd.good_iff _).2 ⟨g1, g2, g3, g4, g5, g6, g7, by show 0 ≤ upF c.ct; omega, this.2, g10, g11⟩
theorem con_of_good {c : Cd} {t : Int} (hg : c.good = true) (h0 : 0 ≤ t) (h1 : t ≤ 1000000000000) : conF t c.iv c.ct = nextF t c.iv c.ct := by
  obtain ⟨g1, g2, g3, g4, g5, g6, g7, g8, g9, g10, g11⟩ := c.good_iff.1 hg
  unfold conF inB
  rw [if_pos]
  simp only [Bool.and_eq_true, decide_eq_true_eq]
  omega
theorem next_good {c : Cd} {t : Int} (hg : c.good = true) (h0 : 0 ≤ t) (h1 : t ≤ 1000000000000) : (Cd.mk c.tg c.iv c.fi (nextF t c.iv c.ct) c.ct c.la c.dr).good = true := by
  obtain ⟨g1, g2, g3, g4, g5, g6, g7, g8, g9, g10, g11⟩ := c.good_iff.1 hg
  have := nextF_bd (t := t) (n := c.ct) (show 1 ≤ c.iv by omega) g3
  exact (Cd.good_iff _).2 ⟨g1, g2, g3, g4, g5, by show 0 ≤ nextF t c.iv c.ct; omega, by show nextF t c.iv c.ct ≤ _; omega, g8, g9, g10, g11⟩
theorem look_cong {c c' : Cd} {f : Nat → Pk} {n : Nat} {lim now : Int} (h : lookB c f n lim now = true) (hg : c'.good = true) : lookB c' f n lim now = true := by
  unfold lookB at *
  rw [hg]
  simp only [Bool.and_eq_true] at h
  simp [h.2]

end Go.Proofs.Ytlhiadehohikdaa
