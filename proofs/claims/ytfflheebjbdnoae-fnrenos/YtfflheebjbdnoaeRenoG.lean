/-
  RENO BY NUMBERS: what an ack, an echo, a time-out make of a sender that is well is one, too.
-/
import Derived.Test.YtfflheebjbdnoaeRenoC
namespace Go.Proofs.Ytfflheebjbdnoae
open Go.RowKit
set_option linter.unusedVariables false

theorem Rn.half_in {r : Rn} (hg : r.good = true) : 2 * r.mss ≤ r.half ∧ r.half ≤ 100000000 := by
  obtain ⟨g1, g2, g3, g4, g5, g6, g7, g8, g9, g10, g11, g12, g13, g14, g15, g16, g17, g18⟩ := r.good_iff.1 hg
  have h1 := maxI_bd (r.fl / 2) (2 * r.mss)
  have h2 := minI_bd (maxI (r.fl / 2) (2 * r.mss)) 100000000
  unfold Rn.half
  omega

theorem widen_good {r : Rn} {b : Int} (hg : r.good = true) (b0 : 0 ≤ b) : (r.widen b).good = true := by
  obtain ⟨g1, g2, g3, g4, g5, g6, g7, g8, g9, g10, g11, g12, g13, g14, g15, g16, g17, g18⟩ := r.good_iff.1 hg
  have h1 := minI_bd (r.cw + b) 100000000
  rw [Rn.good_iff]
  simp only [Rn.widen]
  exact ⟨g1, g2, by omega, by omega, g5, g6, g7, g8, g9, g10, g11, g12, g13, g14, g15, g16, g17, g18⟩

theorem slow_good {r : Rn} {h : Int} (hg : r.good = true) (h0 : 2 * r.mss ≤ h) (h1 : h ≤ 100000000) : (r.slow h).good = true := by
  obtain ⟨g1, g2, g3, g4, g5, g6, g7, g8, g9, g10, g11, g12, g13, g14, g15, g16, g17, g18⟩ := r.good_iff.1 hg
  rw [Rn.good_iff]
  simp only [Rn.slow]
  exact ⟨g1, g2, by omega, by omega, by omega, by omega, by omega, by omega, g9, g10, g11, g12, g13, g14, g15, by omega, by omega, g18⟩

theorem anew_good {r : Rn} {h : Int} (hg : r.good = true) (h0 : 2 * r.mss ≤ h) (h1 : h ≤ 100000000) : (r.anew h).good = true := by
  obtain ⟨g1, g2, g3, g4, g5, g6, g7, g8, g9, g10, g11, g12, g13, g14, g15, g16, g17, g18⟩ := r.good_iff.1 hg
  have m := minI_bd r.cut r.una
  rw [Rn.good_iff]
  simp only [Rn.anew]
  exact ⟨g1, g2, by omega, by omega, by omega, by omega, by omega, by omega, g9, by omega, by omega, by omega, by omega, by omega, by omega, by omega, by omega, fun h => by cases h⟩

theorem ac_good {r : Rn} {x : Int} (hg : r.good = true) (h0 : 0 ≤ x) (h1 : x ≤ 100000000) : (Rn.mk r.mss r.cw r.th x r.una r.nx r.du r.rc r.inn r.cut).good = true := by
  obtain ⟨g1, g2, g3, g4, g5, g6, g7, g8, g9, g10, g11, g12, g13, g14, g15, g16, g17, g18⟩ := r.good_iff.1 hg
  exact (Rn.good_iff _).2 ⟨g1, g2, g3, g4, g5, g6, h0, h1, g9, g10, g11, g12, g13, g14, g15, g16, g17, g18⟩
theorem cw_good {r : Rn} {x : Int} (hg : r.good = true) (h0 : r.mss ≤ x) (h1 : x ≤ 100000000) : (Rn.mk r.mss x r.th r.ac r.una r.nx r.du r.rc r.inn r.cut).good = true := by
  obtain ⟨g1, g2, g3, g4, g5, g6, g7, g8, g9, g10, g11, g12, g13, g14, g15, g16, g17, g18⟩ := r.good_iff.1 hg
  exact (Rn.good_iff _).2 ⟨g1, g2, h0, h1, g5, g6, g7, g8, g9, g10, g11, g12, g13, g14, g15, g16, g17, g18⟩
theorem du_good {r : Rn} {x : Int} (hg : r.good = true) (h0 : 0 ≤ x) (h1 : x ≤ 1000000) : (Rn.mk r.mss r.cw r.th r.ac r.una r.nx x r.rc r.inn r.cut).good = true := by
  obtain ⟨g1, g2, g3, g4, g5, g6, g7, g8, g9, g10, g11, g12, g13, g14, g15, g16, g17, g18⟩ := r.good_iff.1 hg
  exact (Rn.good_iff _).2 ⟨g1, g2, g3, g4, g5, g6, g7, g8, g9, g10, g11, h0, h1, g14, g15, g16, g17, g18⟩

theorem grow_good {r : Rn} {b : Int} (hg : r.good = true) (b0 : 0 ≤ b) : (r.grow b).good = true := by
  obtain ⟨g1, g2, g3, g4, g5, g6, g7, g8, g9, g10, g11, g12, g13, g14, g15, g16, g17, g18⟩ := r.good_iff.1 hg
  have m1 := minI_bd b r.mss
  have m2 := minI_bd (r.ac + b) 100000000
  unfold Rn.grow
  split
  · exact widen_good hg (by omega)
  · split
    · exact ac_good hg (by omega) (by omega)
    · exact widen_good (ac_good hg (by omega) (by omega)) (by omega)

theorem part_good {r : Rn} {b : Int} (hg : r.good = true) (b0 : 0 ≤ b) : (r.part b).good = true := by
  obtain ⟨g1, g2, g3, g4, g5, g6, g7, g8, g9, g10, g11, g12, g13, g14, g15, g16, g17, g18⟩ := r.good_iff.1 hg
  have m1 := maxI_bd (r.cw - b) r.mss
  unfold Rn.part
  split
  · exact cw_good hg (by omega) (by omega)
  · exact widen_good (cw_good hg (by omega) (by omega)) (by omega)

theorem prog_good {r : Rn} {b : Int} (hg : r.good = true) (b0 : 0 ≤ b) (b1 : r.una + b ≤ r.nx) : (r.prog b).good = true := by
  obtain ⟨g1, g2, g3, g4, g5, g6, g7, g8, g9, g10, g11, g12, g13, g14, g15, g16, g17, g18⟩ := r.good_iff.1 hg
  unfold Rn.prog
  split
  · rename_i hi
    split
    · have m1 := maxI_bd (r.nx - (r.una + b)) r.mss
      have m2 := minI_bd r.th (r.mss + maxI (r.nx - (r.una + b)) r.mss)
      rw [Rn.good_iff]
      simp only [Rn.recov, Rn.fl]
      exact ⟨g1, g2, by omega, by omega, g5, g6, g7, g8, by omega, by omega, g11, by omega, by omega, g14, g15, g16, g17, fun h => by cases h⟩
    · refine part_good ((Rn.good_iff _).2 ?_) b0
      dsimp only
      exact ⟨g1, g2, g3, g4, g5, g6, g7, g8, by omega, by omega, g11, by omega, by omega, g14, g15, g16, g17, fun _ => by omega⟩
  · rename_i hi
    refine grow_good ((Rn.good_iff _).2 ?_) b0
    dsimp only
    exact ⟨g1, g2, g3, g4, g5, g6, g7, g8, by omega, by omega, g11, by omega, by omega, g14, g15, g16, g17, fun h => absurd h hi⟩

theorem rep_good {r : Rn} {h : Int} (hg : r.good = true) (h0 : 2 * r.mss ≤ h) (h1 : h ≤ 100000000) (hf : 0 < r.fl) : (r.rep h).good = true := by
  obtain ⟨g1, g2, g3, g4, g5, g6, g7, g8, g9, g10, g11, g12, g13, g14, g15, g16, g17, g18⟩ := r.good_iff.1 hg
  have m := minI_bd (r.du + 1) 1000000
  have hf' : 0 < r.nx - r.una := hf
  unfold Rn.rep
  split
  · exact widen_good (du_good hg (by omega) (by omega)) (by omega)
  · split
    · have m2 := minI_bd (h + 3 * r.mss) 100000000
      rw [Rn.good_iff]
      simp only [Rn.recg]
      exact ⟨g1, g2, by omega, by omega, by omega, by omega, by omega, by omega, g9, g10, g11, by omega, by omega, by omega, by omega, g16, g17, fun _ => by omega⟩
    · exact du_good hg (by omega) (by omega)

/-- The first step of an ack. -/
def Rn.ack1 (r : Rn) (ack : Int) : Rn := if r.una < ack then r.prog (ack - r.una) else if 0 < r.fl then r.rep r.half else r
/-- What an echo makes of it, halved to h. -/
def Rn.ack2 (r : Rn) (h : Int) : Rn := if r.inn = false ∧ r.cut ≤ r.una then r.slow h else r
theorem ack1_good {r : Rn} {ack : Int} (hg : r.good = true) (h1 : ack ≤ r.nx) : (r.ack1 ack).good = true := by
  obtain ⟨k1, k2⟩ := Rn.half_in hg
  unfold Rn.ack1
  split
  · exact prog_good hg (by omega) (by omega)
  · split
    · exact rep_good hg k1 k2 (by assumption)
    · exact hg
theorem ack2_good {r : Rn} {h : Int} (hg : r.good = true) (h0 : 2 * r.mss ≤ h) (h1 : h ≤ 100000000) : (r.ack2 h).good = true := by
  unfold Rn.ack2
  split
  · exact slow_good hg h0 h1
  · exact hg
theorem prog_same (r : Rn) (b : Int) : (r.prog b).mss = r.mss ∧ (r.prog b).nx = r.nx ∧ (r.prog b).una = r.una + b ∧ (r.prog b).cut = r.cut := by
  unfold Rn.prog Rn.grow Rn.part Rn.recov Rn.widen
  (repeat' split) <;> simp
theorem rep_same (r : Rn) (h : Int) : (r.rep h).mss = r.mss ∧ (r.rep h).nx = r.nx ∧ (r.rep h).una = r.una ∧ (r.rep h).cut = r.cut := by
  unfold Rn.rep Rn.recg Rn.widen
  (repeat' split) <;> simp
theorem ack1_same {r : Rn} {ack : Int} (h : r.una ≤ ack) : (r.ack1 ack).mss = r.mss ∧ (r.ack1 ack).nx = r.nx ∧ (r.ack1 ack).una = ack ∧ (r.ack1 ack).cut = r.cut := by
  unfold Rn.ack1
  split
  · obtain ⟨a, b, c, d⟩ := prog_same r (ack - r.una)
    exact ⟨a, b, by rw [c]; omega, d⟩
  · split
    · obtain ⟨a, b, c, d⟩ := rep_same r r.half
      exact ⟨a, b, by rw [c]; omega, d⟩
    · exact ⟨rfl, rfl, by omega, rfl⟩

end Go.Proofs.Ytfflheebjbdnoae
