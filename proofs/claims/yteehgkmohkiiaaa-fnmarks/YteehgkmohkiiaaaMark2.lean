/-
  MarkCe OF BOTH SIDES.
-/
import Derived.Test.YteehgkmohkiiaaaMarkEq
import Derived.Test.YteehgkmohkiiaaaMarkS
namespace Go.Proofs.Yteehgkmohkiiaaa
open Go.RowKit
set_option linter.unusedVariables false

/-- Is it a frame whose sender knows marks? -/
def mkB (f : Nat → Int) (n : Nat) : Bool := decide (codeF f n = 0) && !decide ((frR f n).ecn = 0)
def mkN (f : Nat → Int) (n : Nat) : Nat := if mkB f n = true then n else 0
theorem mkB_true {f : Nat → Int} {n : Nat} (h : mkB f n = true) : codeF f n = 0 ∧ frR f n = frOf f ∧ ¬ (frR f n).ecn = 0 := by
  unfold mkB at h
  simp at h
  exact ⟨h.1, by unfold frR; rw [if_pos h.1], h.2⟩
theorem mkN_le (f : Nat → Int) (n : Nat) : mkN f n ≤ 100 := by
  unfold mkN
  split
  · next h => exact (codeF_zero (mkB_true h).1).2.1
  · omega
theorem good_In {r : Fr} {n : Nat} (h : r.good n = true) : r.In := by
  obtain ⟨bd, be, bi, bt, bp, bs, bq, bsp, bdp, bn⟩ := good_bd h
  unfold Fr.In
  omega
theorem BO.zn' {base : Nat} {w : World} {x : Option Addr} {m cap : Nat} {f : Nat → Int} (h : BO base w x m cap f) : Zn base w.heap.size w x m f := by
  rcases h.fresh with h1 | ⟨g, rfl, hg, ho⟩
  · exact .inl h1
  · exact .inr ⟨g, rfl, hg, ho.1, ho⟩

set_option maxRecDepth 100000 in
set_option maxHeartbeats 2000000 in
theorem imark_any (a : Option Addr) (n : Nat) (f : Nat → Int) (w : World) (hr : Row .u8 w a n f) (hf : Byt n f) (hn : n ≤ 1048576) :
    Calls Try.prog 5 #[.slice a n n] w fun e w' => ∃ (x : Option Addr) (c : Nat), e = .returned (.tuple #[.slice x (mkN f n) c, .bool (mkB f n)]) ∧ Zn w.heap.size w'.heap.size w' x (mkN f n) (markF f) ∧ Below w.heap.size w w' := by
  have HR : Hid (Row .u8 w a n f) := hr
  have HF : Hid (Byt n f) := hf
  clear hr hf
  cases hm : mkB f n
  case false =>
    have hN : mkN f n = 0 := by unfold mkN; simp [hm]
    rw [hN]
    clear hN
    obtain ⟨C, hC⟩ : ∃ C, codeF f n = C := ⟨_, rfl⟩
    obtain ⟨E, hE⟩ : ∃ E, (frR f n).ecn = E := ⟨_, rfl⟩
    have hcase : (C != 0) = true ∨ ((C != 0) = false ∧ (E == 0) = true) := by
      unfold mkB at hm
      rw [hC, hE] at hm
      simp at hm
      by_cases h : C = 0
      · exact .inr (by simp [h, hm h])
      · exact .inl (by simp [h])
    obtain ⟨R, hR⟩ : ∃ R, frR f n = R := ⟨_, rfl⟩
    have HC : Hid (codeF f n = C ∧ frR f n = R) := ⟨hC, hR⟩
    rw [hR] at hE
    clear hC hm hR
    obtain ⟨d, e, i, t, p, s, q, sp, dp⟩ := R
    dsimp only at hE
    subst hE
    rcases hcase with h1 | ⟨h1, h2⟩
    all_goals
      go_enter Try.func5, Try.ntmps5
      go_wp2_with (go_at_call 8; refine (iparse_all a n n f _ HR.out HF.out hn (Nat.le_refl _)).mono ?_; rintro o w1 ⟨x1, c1, rfl, z1, b1⟩; rw [HC.out.1, HC.out.2]; dsimp only [Fr.val])
      go_ret2
      exact ⟨none, 0, rfl, .inl rfl, b1.alloc b1.size _⟩
  case true =>
    have hN : mkN f n = n := by unfold mkN; rw [if_pos hm]
    rw [hN]
    obtain ⟨hc, hfr, he⟩ := mkB_true hm
    obtain ⟨h24, h100, _⟩ := codeF_zero hc
    have hg := ce_good f n hc HF.out
    have hdat : datN f n = n - 24 := by unfold datN; rw [if_pos hc]
    have HE : Hid (∀ i, i < n → buildF (frOf f).ce (n - 24) (fun i => f (24 + i)) i = markF f i) := fun i hi => mark_eq f n hc HF.out i hi
    obtain ⟨R, hR⟩ : ∃ R, frOf f = R := ⟨_, rfl⟩
    rw [hR] at hg HE
    have HC : Hid (codeF f n = 0 ∧ frR f n = R ∧ datN f n = n - 24) := ⟨hc, hfr.trans hR, hdat⟩
    have HG : Hid (R.ce.good (n - 24) = true) := hg
    have he' : (R.ecn == 0) = false := by rw [hfr, hR] at he; simpa using he
    clear hc hm hfr he hdat hg hR hN
    obtain ⟨d, e, i, t, p, s, q, sp, dp⟩ := R
    dsimp only at he'
    go_enter Try.func5, Try.ntmps5
    go_wp2_with (first | (go_at_call 8; refine (iparse_all a n n f _ HR.out HF.out hn (Nat.le_refl _)).mono ?_; rintro o w1 ⟨x1, c1, rfl, z1, b1⟩; rw [HC.out.2.2] at z1; rw [HC.out.1, HC.out.2.1, HC.out.2.2]; dsimp only [Fr.val]; have zr := z1.row))
    have hnn : 24 + (n - 24) = n := by omega
    refine (ibuild_yes ⟨d, 3, i, t, p, s, q, sp, dp⟩ x1 (n - 24) c1 (fun i => f (24 + i)) _ (good_In HG.out) (by omega) HG.out (Row.below zr ((Below.refl _ _).alloc (Nat.le_refl _) _))).mono ?_
    rintro o w2 ⟨x2, c2, rfl, ho, b2⟩
    rw [hnn] at ho
    rw [hnn]
    go_wp2_with fail
    go_ret2
    refine ⟨x2, c2, rfl, ?_, (b1.alloc b1.size _).trans (b2.mono (by have := b1.size; simp; omega))⟩
    exact Zn.congr ((ho.mono (by have := b1.size; simp; omega)).zn') fun k hk => HE.out k hk

end Go.Proofs.Yteehgkmohkiiaaa
