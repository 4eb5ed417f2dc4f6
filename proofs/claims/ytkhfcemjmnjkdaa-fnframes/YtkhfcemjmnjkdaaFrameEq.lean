/-
  FRAMES COME BACK FROM THEIR BYTES; whatever bytes are read as one are just its bytes.
-/
import Derived.Test.YtkhfcemjmnjkdaaSParse
import Derived.Test.YtkhfcemjmnjkdaaBuildEq
import Derived.Test.YtkhfcemjmnjkdaaDrawFr
namespace Go.Proofs.Ytkhfcemjmnjkdaa
open Go.RowKit
set_option linter.unusedVariables false

theorem fr_built (r : Fr) (n : Nat) (g : Nat → Int) (hg : r.good n = true) : frOf (buildF r n g) = r := by
  obtain ⟨bd, be, bi, bt, bp, bs, bq, bsp, bdp, bn⟩ := good_bd hg
  obtain ⟨s0, s1, s2⟩ := wsum_bd r n hg
  have hS : 0 ≤ wsumF r n ∧ wsumF r n ≤ 65535 := by omega
  have e : ∀ i, i < 20 → buildF r n g i = _ := fun i hi => (built_head r n g i hi).trans (head_at r n hg _ hS i hi)
  have e1 := e 1 (by omega)
  have e4 := e 4 (by omega)
  have e5 := e 5 (by omega)
  have e8 := e 8 (by omega)
  have e9 := e 9 (by omega)
  have e12 := e 12 (by omega)
  have e13 := e 13 (by omega)
  have e14 := e 14 (by omega)
  have e15 := e 15 (by omega)
  have e16 := e 16 (by omega)
  have e17 := e 17 (by omega)
  have e18 := e 18 (by omega)
  have e19 := e 19 (by omega)
  simp at e1 e4 e5 e8 e9 e12 e13 e14 e15 e16 e17 e18 e19
  obtain ⟨p1, p2⟩ := built_port r n g hg
  obtain ⟨d, ec, i, t, p, s, q, sp, dp⟩ := r
  dsimp only at *
  unfold frOf get16F
  simp only [Nat.reduceAdd]
  rw [p1, p2, e1, e4, e5, e8, e9, e12, e13, e14, e15, e16, e17, e18, e19]
  congr 1 <;> omega
/-- The bytes of what was read. -/
theorem read_built (f : Nat → Int) (n : Nat) (hc : codeF f n = 0) (hf : Byt n f) : (frOf f).good (n - 24) = true ∧ ∀ i, i < n → buildF (frOf f) (n - 24) (fun i => f (24 + i)) i = f i := by
  obtain ⟨h1, h2, h3, h4, h5, h6, h7⟩ := codeF_zero hc
  have b0 := hf 0 (by omega); have b1 := hf 1 (by omega); have b2 := hf 2 (by omega); have b3 := hf 3 (by omega); have b4 := hf 4 (by omega)
  have b5 := hf 5 (by omega); have b6 := hf 6 (by omega); have b7 := hf 7 (by omega); have b8 := hf 8 (by omega); have b9 := hf 9 (by omega)
  have b10 := hf 10 (by omega); have b11 := hf 11 (by omega)
  have b12 := hf 12 (by omega); have b13 := hf 13 (by omega); have b14 := hf 14 (by omega); have b15 := hf 15 (by omega); have b16 := hf 16 (by omega)
  have b17 := hf 17 (by omega); have b18 := hf 18 (by omega); have b19 := hf 19 (by omega)
  have b20 := hf 20 (by omega); have b21 := hf 21 (by omega); have b22 := hf 22 (by omega); have b23 := hf 23 (by omega)
  unfold get16F at h4 h5 h7
  simp only [Nat.reduceAdd] at h4 h5 h7
  have hgood : (frOf f).good (n - 24) = true := by
    have k1 : okB (frOf f).dscp 6 = true := okB_in (by show 0 ≤ f 1 / 4; omega) (by show f 1 / 4 < _; simp; omega)
    have k2 : okB (frOf f).ecn 2 = true := okB_in (by show 0 ≤ f 1 % 4; omega) (by show f 1 % 4 < _; simp; omega)
    have k3 : okB (frOf f).id 16 = true := okB_in (by show 0 ≤ f 4 * 256 + f 5; omega) (by show f 4 * 256 + f 5 < _; simp; omega)
    have k4 : okB (frOf f).ttl 8 = true := okB_in (by show 0 ≤ f 8; omega) (by show f 8 < _; simp; omega)
    have k5 : okB (frOf f).proto 8 = true := okB_in (by show 0 ≤ f 9; omega) (by show f 9 < _; simp; omega)
    have k6 : okB (frOf f).src 32 = true := okB_in (by show 0 ≤ (f 12 * 256 + f 13) * 65536 + (f 14 * 256 + f 15); omega) (by show (f 12 * 256 + f 13) * 65536 + (f 14 * 256 + f 15) < _; simp; omega)
    have k7 : okB (frOf f).dst 32 = true := okB_in (by show 0 ≤ (f 16 * 256 + f 17) * 65536 + (f 18 * 256 + f 19); omega) (by show (f 16 * 256 + f 17) * 65536 + (f 18 * 256 + f 19) < _; simp; omega)
    have k8 : okB (frOf f).srcP 16 = true := okB_in (by show 0 ≤ f 20 * 256 + f 21; omega) (by show f 20 * 256 + f 21 < _; simp; omega)
    have k9 : okB (frOf f).dstP 16 = true := okB_in (by show 0 ≤ f 22 * 256 + f 23; omega) (by show f 22 * 256 + f 23 < _; simp; omega)
    unfold Fr.good flB
    rw [k1, k2, k3, k4, k5, k6, k7, k8, k9, decide_eq_true (show ((n - 24 : Nat) : Int) ≤ 76 by omega)]
    rfl
  refine ⟨hgood, ?_⟩
  obtain ⟨s0, s1, s2⟩ := wsum_bd (frOf f) (n - 24) hgood
  have hn : (24 : Int) + ((n - 24 : Nat) : Int) = f 2 * 256 + f 3 := by omega
  have hS0 : 0 ≤ wsumF (frOf f) (n - 24) ∧ wsumF (frOf f) (n - 24) ≤ 65535 := by omega
  have hd : ∀ (S : Int) (bS : 0 ≤ S ∧ S ≤ 65535) (i : Nat), i < 20 → headF (frOf f).dscp (frOf f).ecn (24 + (n - 24 : Nat)) (frOf f).id (frOf f).ttl (frOf f).proto S (frOf f).src (frOf f).dst i = if i = 11 then S % 256 else if i = 10 then S / 256 else f i := by
    intro S bS i hi
    rw [head_at (frOf f) (n - 24) hgood S bS i hi, hn]
    rcases lt20 hi with rfl | rfl | rfl | rfl | rfl | rfl | rfl | rfl | rfl | rfl | rfl | rfl | rfl | rfl | rfl | rfl | rfl | rfl | rfl | rfl
    all_goals simp [frOf, get16F]
    all_goals omega
  have hw : wsumF (frOf f) (n - 24) = f 10 * 256 + f 11 := by
    have e := s2
    have hp : pairsF (headF (frOf f).dscp (frOf f).ecn (24 + (n - 24 : Nat)) (frOf f).id (frOf f).ttl (frOf f).proto (wsumF (frOf f) (n - 24)) (frOf f).src (frOf f).dst) 20 10 = pairsF f 20 10 - (f 10 * 256 + f 11) + wsumF (frOf f) (n - 24) := by
      rw [pairs20, pairs20, hd _ hS0 0 (by omega), hd _ hS0 1 (by omega), hd _ hS0 2 (by omega), hd _ hS0 3 (by omega), hd _ hS0 4 (by omega), hd _ hS0 5 (by omega), hd _ hS0 6 (by omega), hd _ hS0 7 (by omega), hd _ hS0 8 (by omega), hd _ hS0 9 (by omega), hd _ hS0 10 (by omega), hd _ hS0 11 (by omega), hd _ hS0 12 (by omega), hd _ hS0 13 (by omega), hd _ hS0 14 (by omega), hd _ hS0 15 (by omega), hd _ hS0 16 (by omega), hd _ hS0 17 (by omega), hd _ hS0 18 (by omega), hd _ hS0 19 (by omega)]
      simp
      omega
    have e' : foldF (pairsF f 20 10 - (f 10 * 256 + f 11) + wsumF (frOf f) (n - 24)) = 65535 := by rw [← hp]; exact e
    have e6 : foldF (pairsF f 20 10) = 65535 := h6
    have pp : f 0 * 256 ≤ pairsF f 20 10 - (f 10 * 256 + f 11) := by rw [pairs20]; omega
    generalize pairsF f 20 10 = T at *
    generalize wsumF (frOf f) (n - 24) = S at *
    unfold foldF at e' e6
    rw [if_neg (by omega)] at e' e6
    omega
  intro i hi
  by_cases h24 : i < 24
  · by_cases h20 : i < 20
    · rw [built_head _ _ _ _ h20, hd _ hS0 i h20, hw]
      split
      · next h => subst h; omega
      · split
        · next h => subst h; omega
        · rfl
    · unfold buildF joinF
      rw [if_pos h24]
      rcases (by omega : i = 20 ∨ i = 21 ∨ i = 22 ∨ i = 23) with rfl | rfl | rfl | rfl
      all_goals simp [wireF, putF, frOf, get16F]
      all_goals omega
  · obtain ⟨j, rfl⟩ : ∃ j, i = 24 + j := ⟨i - 24, by omega⟩
    rw [built_data]

end Go.Proofs.Ytkhfcemjmnjkdaa
