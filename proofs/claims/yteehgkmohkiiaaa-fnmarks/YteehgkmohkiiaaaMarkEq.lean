/-
  WHAT IS MARKED: the bytes of the frame with EcCe are the bytes that were, but for the mark and the sum.
-/
import Derived.Test.YteehgkmohkiiaaaSParse
import Derived.Test.YteehgkmohkiiaaaMark0
namespace Go.Proofs.Yteehgkmohkiiaaa
open Go.RowKit
set_option linter.unusedVariables false

/-- The head with a mark, without a sum. -/
def bareF (f : Nat → Int) (i : Nat) : Int := if i = 11 then 0 else if i = 10 then 0 else if i = 1 then or3 (f 1) else f i
theorem lt20' {i : Nat} (h : i < 20) : i = 0 ∨ i = 1 ∨ i = 2 ∨ i = 3 ∨ i = 4 ∨ i = 5 ∨ i = 6 ∨ i = 7 ∨ i = 8 ∨ i = 9 ∨ i = 10 ∨ i = 11 ∨ i = 12 ∨ i = 13 ∨ i = 14 ∨ i = 15 ∨ i = 16 ∨ i = 17 ∨ i = 18 ∨ i = 19 := by omega
theorem headCe (f : Nat → Int) (n : Nat) (hc : codeF f n = 0) (hf : Byt n f) (S : Int) (bS : 0 ≤ S ∧ S ≤ 65535) (i : Nat) (hi : i < 20) :
    headF (frOf f).ce.dscp (frOf f).ce.ecn (24 + (n - 24 : Nat)) (frOf f).ce.id (frOf f).ce.ttl (frOf f).ce.proto S (frOf f).ce.src (frOf f).ce.dst i = if i = 11 then S % 256 else if i = 10 then S / 256 % 256 else if i = 1 then or3 (f 1) else f i := by
  obtain ⟨h1, h2, h3, h4, h5, h6, h7⟩ := codeF_zero hc
  have b0 := hf 0 (by omega); have b1 := hf 1 (by omega); have b2 := hf 2 (by omega); have b3 := hf 3 (by omega); have b4 := hf 4 (by omega)
  have b5 := hf 5 (by omega); have b6 := hf 6 (by omega); have b7 := hf 7 (by omega); have b8 := hf 8 (by omega); have b9 := hf 9 (by omega)
  have b12 := hf 12 (by omega); have b13 := hf 13 (by omega); have b14 := hf 14 (by omega); have b15 := hf 15 (by omega); have b16 := hf 16 (by omega)
  have b17 := hf 17 (by omega); have b18 := hf 18 (by omega); have b19 := hf 19 (by omega)
  unfold get16F at h4 h5
  simp only [Nat.reduceAdd] at h4 h5
  have hn : (24 : Int) + ((n - 24 : Nat) : Int) = f 2 * 256 + f 3 := by omega
  rw [hn]
  rcases lt20' hi with rfl | rfl | rfl | rfl | rfl | rfl | rfl | rfl | rfl | rfl | rfl | rfl | rfl | rfl | rfl | rfl | rfl | rfl | rfl | rfl
  all_goals simp [headF, putF, frOf, Fr.ce, get16F, or3]
  all_goals omega

theorem halfF_congr' {f g : Nat → Int} {n : Nat} (h : ∀ i, i < n → f i = g i) : ∀ k, k ≤ n → halfF f k = halfF g k
  | 0, _ => rfl
  | k + 1, hk => by rw [halfF, halfF, halfF_congr' h k (by omega), h k (by omega)]
theorem sumF_congr' {f g : Nat → Int} {n : Nat} (h : ∀ i, i < n → f i = g i) : sumF f n = sumF g n := by
  unfold sumF
  rw [← halfF_all, ← halfF_all, halfF_congr' h n (Nat.le_refl _)]
theorem fold_same {t c e : Int} (ht : 0 < t) (hs : foldF t = 65535) (hc : 0 ≤ c) (hc1 : c ≤ 65534) (he : 0 ≤ e) (hp : 0 < t - c + e) : foldF (t - c + e) = foldF (65535 - c + 65535 + e) := by
  unfold foldF at *
  rw [if_neg (by omega)] at hs
  rw [if_neg (by omega), if_neg (by omega)]
  omega
theorem sumCe (f : Nat → Int) (n : Nat) (hc : codeF f n = 0) (hf : Byt n f) : wsumF (frOf f).ce (n - 24) = msumF f := by
  obtain ⟨h1, h2, h3, h4, h5, h6, h7⟩ := codeF_zero hc
  have b0 := hf 0 (by omega); have b1 := hf 1 (by omega); have b2 := hf 2 (by omega); have b3 := hf 3 (by omega); have b4 := hf 4 (by omega)
  have b5 := hf 5 (by omega); have b6 := hf 6 (by omega); have b7 := hf 7 (by omega); have b8 := hf 8 (by omega); have b9 := hf 9 (by omega)
  have b10 := hf 10 (by omega); have b11 := hf 11 (by omega)
  have b12 := hf 12 (by omega); have b13 := hf 13 (by omega); have b14 := hf 14 (by omega); have b15 := hf 15 (by omega); have b16 := hf 16 (by omega)
  have b17 := hf 17 (by omega); have b18 := hf 18 (by omega); have b19 := hf 19 (by omega)
  have e1 : sumF (headF (frOf f).ce.dscp (frOf f).ce.ecn (24 + (n - 24 : Nat)) (frOf f).ce.id (frOf f).ce.ttl (frOf f).ce.proto 0 (frOf f).ce.src (frOf f).ce.dst) 20 = sumF (bareF f) 20 := sumF_congr' fun i hi => by
    rw [headCe f n hc hf 0 (by omega) i hi]
    rfl
  have eF : pairsF f 20 10 = f 0 * 256 + f 1 + (f 2 * 256 + f 3) + (f 4 * 256 + f 5) + (f 6 * 256 + f 7) + (f 8 * 256 + f 9) + (f 10 * 256 + f 11) + (f 12 * 256 + f 13) + (f 14 * 256 + f 15) + (f 16 * 256 + f 17) + (f 18 * 256 + f 19) := by
    simp only [pairsF]
    simp
    omega
  have eB : pairsF (bareF f) 20 10 = f 0 * 256 + or3 (f 1) + (f 2 * 256 + f 3) + (f 4 * 256 + f 5) + (f 6 * 256 + f 7) + (f 8 * 256 + f 9) + (f 12 * 256 + f 13) + (f 14 * 256 + f 15) + (f 16 * 256 + f 17) + (f 18 * 256 + f 19) := by
    simp only [pairsF]
    simp [bareF]
    omega
  have o3 : 0 ≤ or3 (f 1) - f 1 := by unfold or3; omega
  unfold get16F at h7
  simp only [Nat.reduceAdd] at h7
  have hs : foldF (pairsF f 20 10) = 65535 := h6
  have key := fold_same (t := pairsF f 20 10) (c := f 10 * 256 + f 11) (e := or3 (f 1) - f 1) (by omega) hs (by omega) (by omega) o3 (by omega)
  unfold wsumF msumF
  rw [e1]
  have e2 : sumF (bareF f) 20 = foldF (pairsF f 20 10 - (f 10 * 256 + f 11) + (or3 (f 1) - f 1)) := by
    show foldF (pairsF (bareF f) 20 10) = _
    congr 1
    omega
  rw [e2, key]
  unfold get16F
  simp only [Nat.reduceAdd]
  congr 2
  omega
theorem msum_bd (f : Nat → Int) (n : Nat) (hc : codeF f n = 0) (hf : Byt n f) : 0 ≤ msumF f ∧ msumF f ≤ 65535 := by
  rw [← sumCe f n hc hf]
  have := sumF_bd (headF_byt (frOf f).ce.dscp (frOf f).ce.ecn (24 + (n - 24 : Nat)) (frOf f).ce.id (frOf f).ce.ttl (frOf f).ce.proto 0 (frOf f).ce.src (frOf f).ce.dst)
  unfold wsumF
  omega
theorem okB_of {x k : Int} (h0 : 0 ≤ x) (h1 : x < 2 ^ k.toNat) : okB x k = true := by unfold okB; exact decide_eq_true ⟨h0, h1⟩
theorem ce_good (f : Nat → Int) (n : Nat) (hc : codeF f n = 0) (hf : Byt n f) : (frOf f).ce.good (n - 24) = true := by
  obtain ⟨h1, h2, h3, h4, h5, h6, h7⟩ := codeF_zero hc
  have b1 := hf 1 (by omega); have b4 := hf 4 (by omega)
  have b5 := hf 5 (by omega); have b8 := hf 8 (by omega); have b9 := hf 9 (by omega)
  have b12 := hf 12 (by omega); have b13 := hf 13 (by omega); have b14 := hf 14 (by omega); have b15 := hf 15 (by omega); have b16 := hf 16 (by omega)
  have b17 := hf 17 (by omega); have b18 := hf 18 (by omega); have b19 := hf 19 (by omega)
  have b20 := hf 20 (by omega); have b21 := hf 21 (by omega); have b22 := hf 22 (by omega); have b23 := hf 23 (by omega)
  have k1 : okB (frOf f).ce.dscp 6 = true := okB_of (by show 0 ≤ f 1 / 4; omega) (by show f 1 / 4 < _; simp; omega)
  have k2 : okB (frOf f).ce.ecn 2 = true := okB_of (by show (0 : Int) ≤ 3; omega) (by show (3 : Int) < _; simp)
  have k3 : okB (frOf f).ce.id 16 = true := okB_of (by show 0 ≤ f 4 * 256 + f 5; omega) (by show f 4 * 256 + f 5 < _; simp; omega)
  have k4 : okB (frOf f).ce.ttl 8 = true := okB_of (by show 0 ≤ f 8; omega) (by show f 8 < _; simp; omega)
  have k5 : okB (frOf f).ce.proto 8 = true := okB_of (by show 0 ≤ f 9; omega) (by show f 9 < _; simp; omega)
  have k6 : okB (frOf f).ce.src 32 = true := okB_of (by show 0 ≤ (f 12 * 256 + f 13) * 65536 + (f 14 * 256 + f 15); omega) (by show (f 12 * 256 + f 13) * 65536 + (f 14 * 256 + f 15) < _; simp; omega)
  have k7 : okB (frOf f).ce.dst 32 = true := okB_of (by show 0 ≤ (f 16 * 256 + f 17) * 65536 + (f 18 * 256 + f 19); omega) (by show (f 16 * 256 + f 17) * 65536 + (f 18 * 256 + f 19) < _; simp; omega)
  have k8 : okB (frOf f).ce.srcP 16 = true := okB_of (by show 0 ≤ f 20 * 256 + f 21; omega) (by show f 20 * 256 + f 21 < _; simp; omega)
  have k9 : okB (frOf f).ce.dstP 16 = true := okB_of (by show 0 ≤ f 22 * 256 + f 23; omega) (by show f 22 * 256 + f 23 < _; simp; omega)
  unfold Fr.good flB
  rw [k1, k2, k3, k4, k5, k6, k7, k8, k9, decide_eq_true (show ((n - 24 : Nat) : Int) ≤ 76 by omega)]
  rfl
theorem mark_eq (f : Nat → Int) (n : Nat) (hc : codeF f n = 0) (hf : Byt n f) (i : Nat) (hi : i < n) : buildF (frOf f).ce (n - 24) (fun i => f (24 + i)) i = markF f i := by
  obtain ⟨h1, h2, h3, h4, h5, h6, h7⟩ := codeF_zero hc
  have hb := msum_bd f n hc hf
  unfold buildF
  rw [sumCe f n hc hf]
  unfold joinF
  by_cases h24 : i < 24
  · rw [if_pos h24]
    unfold wireF
    by_cases h20 : i < 20
    · unfold putF
      rw [if_pos (by omega), if_pos h20, headCe f n hc hf _ hb i h20]
      rfl
    · have b20 := hf 20 (by omega); have b21 := hf 21 (by omega); have b22 := hf 22 (by omega); have b23 := hf 23 (by omega)
      rcases (by omega : i = 20 ∨ i = 21 ∨ i = 22 ∨ i = 23) with rfl | rfl | rfl | rfl
      all_goals simp [putF, markF, frOf, Fr.ce, get16F]
      all_goals omega
  · rw [if_neg h24]
    unfold markF
    rw [if_neg (by omega), if_neg (by omega), if_neg (by omega)]
    show f (24 + (i - 24)) = f i
    rw [show 24 + (i - 24) = i by omega]

end Go.Proofs.Yteehgkmohkiiaaa
