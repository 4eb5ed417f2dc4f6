/-
  A CODEL OF WHICH NOBODY WAITS FOR THE TARGET, by numbers: nothing is dropped, nothing is marked.
-/
import Derived.Test.YthdlpgehojdhkacCPopI
namespace Go.Proofs.Ythdlpgehojdhkac
open Go.RowKit
set_option linter.unusedVariables false

/-- The Codel behind a calm look. -/
def calmC (c : Cd) : Cd := ⟨c.tg, c.iv, 0, c.nx, c.ct, c.la, false⟩
theorem calmC_good {c : Cd} (hg : c.good = true) : (calmC c).good = true := by
  have := c.good_iff.1 hg
  refine (Cd.good_iff _).2 ?_
  unfold calmC
  dsimp only
  omega
theorem calm_pop {c : Cd} {f : Nat → Pk} {n : Nat} {lim now : Int} (hl : lookB c f n lim now = true) (hn : 0 < n) (hc : now - (f 0).tm < c.tg) :
    popC c f n lim now = calmC c ∧ popM c f n lim now = 0 ∧ popK c f n lim now = n - 1 ∧ popT c f n lim now = lim ∧ popO c f n lim now = true ∧ popU c f n lim now = f 0 ∧ popQ c f n lim now = shiftF f 1 := by
  have h1 : calmB c f n now = true := by unfold calmB; exact decide_eq_true (.inr (.inl hc))
  have h2 : lateB c f n now = false := by unfold lateB; rw [h1]; rfl
  have h3 : lateC c f n now = ⟨c.tg, c.iv, 0, c.nx, c.ct, c.la, c.dr⟩ := by unfold lateC; rw [h1]; rfl
  have hr : popR f n now c = ⟨calmC c, 0, false⟩ := by
    unfold popR
    rw [if_pos h2, h3]
    rfl
  have ho : popO c f n lim now = true := by unfold popO; rw [hl, hr]; simp [hn]
  have hf : outF f ⟨calmC c, 0, false⟩ = f := by unfold outF; simp [shiftF_0]
  refine ⟨?_, ?_, ?_, ?_, ho, ?_, ?_⟩
  · unfold popC; rw [hl, hr]; rfl
  · unfold popM; rw [hl, hr]; rfl
  · unfold popK; rw [hl, hr]; rfl
  · unfold popT; rw [hl]; rfl
  · unfold popU; rw [ho, hr, hf]; rfl
  · unfold popQ; rw [hr, hf, ← shiftF_0 f, popF_shift, shiftF_0]
theorem calm_look {c : Cd} {f : Nat → Pk} {n : Nat} {lim last : Int} (hg : c.good = true) (hf : fifoB f n lim = true) (h0 : 0 ≤ last) (h1 : last ≤ 1000000000000) (hl : ∀ j, j < n → (f j).tm ≤ last) : lookB c f n lim last = true := by
  unfold lookB mayB inB
  rw [hg, hf]
  simp only [Bool.true_and, Bool.and_eq_true, decide_eq_true_eq]
  refine ⟨⟨h0, h1⟩, ?_⟩
  by_cases hn : n = 0
  · exact .inl hn
  · exact .inr (hl (n - 1) (by omega))
/-- How many are left, as a queue's cell says. -/
def flen (W : World) (F : Nat) : Nat := match W.cell? ⟨F, 0, none⟩ with | some (.slice _ n _) => n | _ => 0
theorem flen_of {W : World} {F n cap : Nat} {a : Option Addr} {v : Value} {t : TypeId} (h : Sits W F #[.slice a n cap, v] t) : flen W F = n := by
  have : W.cell? ⟨F, 0, none⟩ = some (.slice a n cap) := h.cell 0
  unfold flen
  rw [this]

end Go.Proofs.Ythdlpgehojdhkac
