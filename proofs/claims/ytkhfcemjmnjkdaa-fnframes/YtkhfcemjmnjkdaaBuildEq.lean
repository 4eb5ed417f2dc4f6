/-
  WHAT IS BUILT IS READ AS IT WAS: the bytes of a frame are one, and its numbers come back.
-/
import Derived.Test.YtkhfcemjmnjkdaaSBuild
namespace Go.Proofs.Ytkhfcemjmnjkdaa
open Go.RowKit
set_option linter.unusedVariables false

theorem pairs20 (f : Nat → Int) : pairsF f 20 10 = f 0 * 256 + f 1 + (f 2 * 256 + f 3) + (f 4 * 256 + f 5) + (f 6 * 256 + f 7) + (f 8 * 256 + f 9) + (f 10 * 256 + f 11) + (f 12 * 256 + f 13) + (f 14 * 256 + f 15) + (f 16 * 256 + f 17) + (f 18 * 256 + f 19) := by
  simp only [pairsF]
  simp
  omega
/-- The twenty bytes of a head, one by one. -/
theorem head_at (r : Fr) (n : Nat) (hg : r.good n = true) (S : Int) (bS : 0 ≤ S ∧ S ≤ 65535) (i : Nat) (hi : i < 20) :
    headF r.dscp r.ecn (24 + n) r.id r.ttl r.proto S r.src r.dst i = if i = 0 then 69 else if i = 1 then r.dscp * 4 + r.ecn else if i = 2 then (24 + n) / 256 else if i = 3 then (24 + n) % 256 else if i = 4 then r.id / 256 else if i = 5 then r.id % 256 else if i = 6 then 0 else if i = 7 then 0 else if i = 8 then r.ttl else if i = 9 then r.proto else if i = 10 then S / 256 else if i = 11 then S % 256 else if i = 12 then r.src / 16777216 else if i = 13 then r.src / 65536 % 256 else if i = 14 then r.src / 256 % 256 else if i = 15 then r.src % 256 else if i = 16 then r.dst / 16777216 else if i = 17 then r.dst / 65536 % 256 else if i = 18 then r.dst / 256 % 256 else r.dst % 256 := by
  obtain ⟨bd, be, bi, bt, bp, bs, bq, bsp, bdp, bn⟩ := good_bd hg
  rcases lt20 hi with rfl | rfl | rfl | rfl | rfl | rfl | rfl | rfl | rfl | rfl | rfl | rfl | rfl | rfl | rfl | rfl | rfl | rfl | rfl | rfl
  all_goals simp [headF, putF]
  all_goals omega
theorem wsum_bd (r : Fr) (n : Nat) (hg : r.good n = true) : 0 ≤ wsumF r n ∧ wsumF r n ≤ 65534 ∧ sumF (headF r.dscp r.ecn (24 + n) r.id r.ttl r.proto (wsumF r n) r.src r.dst) 20 = 65535 := by
  obtain ⟨bd, be, bi, bt, bp, bs, bq, bsp, bdp, bn⟩ := good_bd hg
  have h0 := sumF_bd (headF_byt r.dscp r.ecn (24 + n) r.id r.ttl r.proto 0 r.src r.dst)
  have hS : 0 ≤ wsumF r n ∧ wsumF r n ≤ 65535 := by unfold wsumF; omega
  have key : pairsF (headF r.dscp r.ecn (24 + n) r.id r.ttl r.proto (wsumF r n) r.src r.dst) 20 10 = pairsF (headF r.dscp r.ecn (24 + n) r.id r.ttl r.proto 0 r.src r.dst) 20 10 + wsumF r n := by
    rw [pairs20, pairs20]
    have e : ∀ i, i < 20 → i ≠ 10 → i ≠ 11 → headF r.dscp r.ecn (24 + n) r.id r.ttl r.proto (wsumF r n) r.src r.dst i = headF r.dscp r.ecn (24 + n) r.id r.ttl r.proto 0 r.src r.dst i := fun i hi h10 h11 => by
      rw [head_at r n hg _ hS i hi, head_at r n hg 0 (by omega) i hi]
      simp only [if_neg h10, if_neg h11]
    have e10 := head_at r n hg _ hS 10 (by omega)
    have e11 := head_at r n hg _ hS 11 (by omega)
    have z10 := head_at r n hg 0 (by omega) 10 (by omega)
    have z11 := head_at r n hg 0 (by omega) 11 (by omega)
    simp at e10 e11 z10 z11
    rw [e 0 (by omega) (by omega) (by omega), e 1 (by omega) (by omega) (by omega), e 2 (by omega) (by omega) (by omega), e 3 (by omega) (by omega) (by omega), e 4 (by omega) (by omega) (by omega), e 5 (by omega) (by omega) (by omega), e 6 (by omega) (by omega) (by omega), e 7 (by omega) (by omega) (by omega), e 8 (by omega) (by omega) (by omega), e 9 (by omega) (by omega) (by omega), e 12 (by omega) (by omega) (by omega), e 13 (by omega) (by omega) (by omega), e 14 (by omega) (by omega) (by omega), e 15 (by omega) (by omega) (by omega), e 16 (by omega) (by omega) (by omega), e 17 (by omega) (by omega) (by omega), e 18 (by omega) (by omega) (by omega), e 19 (by omega) (by omega) (by omega), e10, e11, z10, z11]
    omega
  have pos : 0 < pairsF (headF r.dscp r.ecn (24 + n) r.id r.ttl r.proto 0 r.src r.dst) 20 10 := by
    have hb := headF_byt r.dscp r.ecn (24 + n) r.id r.ttl r.proto 0 r.src r.dst
    have z0 := head_at r n hg 0 (by omega) 0 (by omega)
    simp at z0
    rw [pairs20, z0]
    have := hb 1 (by omega); have := hb 2 (by omega); have := hb 3 (by omega); have := hb 4 (by omega); have := hb 5 (by omega); have := hb 6 (by omega); have := hb 7 (by omega); have := hb 8 (by omega); have := hb 9 (by omega); have := hb 10 (by omega); have := hb 11 (by omega); have := hb 12 (by omega); have := hb 13 (by omega); have := hb 14 (by omega); have := hb 15 (by omega); have := hb 16 (by omega); have := hb 17 (by omega); have := hb 18 (by omega); have := hb 19 (by omega)
    omega
  have hw : wsumF r n = 65535 - foldF (pairsF (headF r.dscp r.ecn (24 + n) r.id r.ttl r.proto 0 r.src r.dst) 20 10) := rfl
  generalize pairsF (headF r.dscp r.ecn (24 + n) r.id r.ttl r.proto 0 r.src r.dst) 20 10 = T at *
  have hs : sumF (headF r.dscp r.ecn (24 + n) r.id r.ttl r.proto (wsumF r n) r.src r.dst) 20 = foldF (T + wsumF r n) := by
    show foldF (pairsF _ 20 10) = _
    rw [key]
  rw [hs]
  generalize wsumF r n = S at *
  unfold foldF at *
  rw [if_neg (by omega)] at hw
  rw [if_neg (by omega)]
  omega

theorem built_head (r : Fr) (n : Nat) (g : Nat → Int) (i : Nat) (hi : i < 20) : buildF r n g i = headF r.dscp r.ecn (24 + n) r.id r.ttl r.proto (wsumF r n) r.src r.dst i := by
  unfold buildF joinF
  rw [if_pos (by omega)]
  unfold wireF putF
  rw [if_pos (by omega), if_pos hi]
theorem built_port (r : Fr) (n : Nat) (g : Nat → Int) (hg : r.good n = true) : buildF r n g 20 * 256 + buildF r n g 21 = r.srcP ∧ buildF r n g 22 * 256 + buildF r n g 23 = r.dstP := by
  obtain ⟨bd, be, bi, bt, bp, bs, bq, bsp, bdp, bn⟩ := good_bd hg
  unfold buildF joinF
  simp [wireF, putF]
  omega
theorem built_data (r : Fr) (n : Nat) (g : Nat → Int) (i : Nat) : buildF r n g (24 + i) = g i := by
  unfold buildF joinF
  rw [if_neg (by omega), Nat.add_sub_cancel_left]
/-- What is built is a frame. -/
theorem code_built (r : Fr) (n : Nat) (g : Nat → Int) (hg : r.good n = true) : codeF (buildF r n g) (24 + n) = 0 := by
  obtain ⟨bd, be, bi, bt, bp, bs, bq, bsp, bdp, bn⟩ := good_bd hg
  obtain ⟨s0, s1, s2⟩ := wsum_bd r n hg
  have hS : 0 ≤ wsumF r n ∧ wsumF r n ≤ 65535 := by omega
  have e : ∀ i, i < 20 → buildF r n g i = _ := fun i hi => (built_head r n g i hi).trans (head_at r n hg _ hS i hi)
  have e0 := e 0 (by omega)
  have e2 := e 2 (by omega)
  have e3 := e 3 (by omega)
  have e6 := e 6 (by omega)
  have e7 := e 7 (by omega)
  have e10 := e 10 (by omega)
  have e11 := e 11 (by omega)
  simp at e0 e2 e3 e6 e7 e10 e11
  have h6 : get16F (buildF r n g) 6 = 0 := by unfold get16F; rw [e6, e7]; rfl
  have h2 : get16F (buildF r n g) 2 = ((24 + n : Nat) : Int) := by unfold get16F; rw [e2, e3]; omega
  have h10 : get16F (buildF r n g) 10 = wsumF r n := by unfold get16F; rw [e10, e11]; omega
  have hs : sumF (buildF r n g) 20 = 65535 := by rw [sumF_congr (fun i hi => built_head r n g i hi)]; exact s2
  unfold codeF
  rw [if_neg (by omega), if_neg (by rw [e0, h6]; simp), if_neg (by rw [h2]; simp; omega), if_neg (by rw [hs, h10]; simp; omega)]

end Go.Proofs.Ytkhfcemjmnjkdaa
