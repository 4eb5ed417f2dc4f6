/-
  GROWTH AND LOSS OF A CUBIC, by numbers.
-/
import Derived.Test.YtfflheebjbdnoafDoorCubicN
namespace Go.Proofs.YtfflheebjbdnoafDoor
open Go.RowKit
set_option linter.unusedVariables false

def cmin (a b : Int) : Int := if b < a then b else a
def cmax (a b : Int) : Int := if a < b then b else a
/-- now is a moment of this one. -/
def Cb.timeB (r : Cb) (now : Int) : Bool := decide (0 ≤ now ∧ now ≤ 1048576000 ∧ (r.bg = true → r.st ≤ now ∧ now ≤ r.st + 1048576))
theorem Cb.timeB_iff (r : Cb) (now : Int) : r.timeB now = true ↔ (0 ≤ now ∧ now ≤ 1048576000 ∧ (r.bg = true → r.st ≤ now ∧ now ≤ r.st + 1048576)) := by unfold Cb.timeB; exact decide_eq_true_iff
def Cb.loB (r : Cb) (now : Int) : Bool := r.good && r.timeB now
def Cb.grB (r : Cb) (now : Int) : Bool := r.loB now && decide (r.wn < 1048576)
def Cb.beg (r : Cb) (now : Int) : Cb := { r with bg := true, st := now, kk := kF r.mx r.wn }
def Cb.opn (r : Cb) (now : Int) : Cb := if r.bg then r else Cb.beg { r with mx := cmax r.mx r.wn } now
def towF (w c : Int) : Int := cmin (cmin (cmax c w) (w + (w + 1) / 2)) 1048576
def Cb.grw (r : Cb) (now : Int) : Cb := if r.wn < r.th then { r with wn := r.wn + 1 } else { r.opn now with wn := towF (r.opn now).wn (wF (r.opn now).mx (r.opn now).kk (now - (r.opn now).st)) }
def Cb.grF (r : Cb) (now : Int) : Cb := if r.grB now then r.grw now else Cb.zero
def heiF (w m : Int) : Int := if w < m then w * 17 / 20 else w
def Cb.los (r : Cb) (now : Int) : Cb := Cb.beg { r with mx := heiF r.wn r.mx, wn := cmax (r.wn * 7 / 10) 1, th := cmax (cmax (r.wn * 7 / 10) 1) 2 } now
def Cb.loF (r : Cb) (now : Int) : Cb := if r.loB now then r.los now else Cb.zero
theorem cmin_bd (a b : Int) : cmin a b ≤ a ∧ cmin a b ≤ b ∧ (cmin a b = a ∨ cmin a b = b) := by unfold cmin; split <;> omega
theorem cmax_bd (a b : Int) : a ≤ cmax a b ∧ b ≤ cmax a b ∧ (cmax a b = a ∨ cmax a b = b) := by unfold cmax; split <;> omega
theorem towF_bd {w c : Int} (h0 : 1 ≤ w) (h1 : w ≤ 1048576) : w ≤ towF w c ∧ towF w c ≤ 1048576 ∧ towF w c ≤ w + (w + 1) / 2 := by
  unfold towF
  have k1 := cmax_bd c w
  have k2 := cmin_bd (cmax c w) (w + (w + 1) / 2)
  have k3 := cmin_bd (cmin (cmax c w) (w + (w + 1) / 2)) 1048576
  omega
theorem Cb.opn_same (r : Cb) (now : Int) : (r.opn now).wn = r.wn ∧ (r.opn now).th = r.th := by
  unfold Cb.opn
  split
  · exact ⟨rfl, rfl⟩
  · exact ⟨rfl, rfl⟩
theorem Cb.opn_good {r : Cb} {now : Int} (hg : r.good = true) (h0 : 0 ≤ now) (h1 : now ≤ 1048576000) : (r.opn now).good = true := by
  unfold Cb.opn
  split
  · exact hg
  · obtain ⟨g1, g2, g3, g4, g5, g6, g7, g8, g9, g10⟩ := r.good_iff.1 hg
    rw [Cb.good_iff]
    have hm := cmax_bd r.mx r.wn
    have hk := kF_bd (cmax r.mx r.wn) r.wn
    unfold Cb.beg
    dsimp only
    omega
theorem Cb.grw_good {r : Cb} {now : Int} (hg : r.good = true) (h0 : 0 ≤ now) (h1 : now ≤ 1048576000) (hw : r.wn < 1048576) : (r.grw now).good = true := by
  obtain ⟨g1, g2, g3, g4, g5, g6, g7, g8, g9, g10⟩ := r.good_iff.1 hg
  unfold Cb.grw
  split
  · rw [Cb.good_iff]; dsimp only; omega
  · have ho := (Cb.good_iff _).1 (Cb.opn_good hg h0 h1)
    have ht := towF_bd (w := (r.opn now).wn) (c := wF (r.opn now).mx (r.opn now).kk (now - (r.opn now).st)) (by omega) (by omega)
    rw [Cb.good_iff]
    dsimp only
    omega
theorem Cb.grw_wn {r : Cb} {now : Int} (hg : r.good = true) (hw : r.wn < 1048576) : r.wn ≤ (r.grw now).wn ∧ (r.grw now).wn ≤ r.wn + (r.wn + 1) / 2 := by
  obtain ⟨g1, g2, g3, g4, g5, g6, g7, g8, g9, g10⟩ := r.good_iff.1 hg
  unfold Cb.grw
  split
  · dsimp only; omega
  · have ht := towF_bd (w := (r.opn now).wn) (c := wF (r.opn now).mx (r.opn now).kk (now - (r.opn now).st)) (by rw [(r.opn_same now).1]; omega) (by rw [(r.opn_same now).1]; omega)
    rw [(r.opn_same now).1] at ht ⊢
    dsimp only
    omega
theorem Cb.los_good {r : Cb} {now : Int} (hg : r.good = true) (h0 : 0 ≤ now) (h1 : now ≤ 1048576000) : (r.los now).good = true := by
  obtain ⟨g1, g2, g3, g4, g5, g6, g7, g8, g9, g10⟩ := r.good_iff.1 hg
  rw [Cb.good_iff]
  unfold Cb.los Cb.beg
  dsimp only
  have k1 := cmax_bd (r.wn * 7 / 10) 1
  have k2 := cmax_bd (cmax (r.wn * 7 / 10) 1) 2
  have k3 := kF_bd (heiF r.wn r.mx) (cmax (r.wn * 7 / 10) 1)
  have k4 : 0 ≤ heiF r.wn r.mx ∧ heiF r.wn r.mx ≤ 1048576 := by unfold heiF; split <;> omega
  omega

end Go.Proofs.YtfflheebjbdnoafDoor
