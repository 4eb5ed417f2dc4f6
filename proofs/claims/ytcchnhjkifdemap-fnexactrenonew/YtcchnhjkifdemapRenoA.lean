/-
  RENO's SMALL PARTS in the program: underWay, halfOf, widened, halved.
-/
import Derived.Test.YtcchnhjkifdemapReno
import Derived.Deep.RegionWith
import Derived.Deep.Cut
namespace Go.Proofs.Ytcchnhjkifdemap
open Go.RowKit
set_option linter.unusedVariables false

/-- What is under way. -/
def Rn.fl (r : Rn) : Int := r.nx - r.una
/-- Numbers that no sum takes too far. -/
def Rn.fit (r : Rn) : Prop := 1 ≤ r.mss ∧ r.mss ≤ 10000 ∧ 0 ≤ r.cw ∧ r.cw ≤ 100000000 ∧ 0 ≤ r.th ∧ r.th ≤ 100000000 ∧ 0 ≤ r.ac ∧ r.ac ≤ 100000000 ∧ 0 ≤ r.una ∧ r.una ≤ r.nx ∧ r.nx ≤ 1000000000000 ∧ 0 ≤ r.du ∧ r.du ≤ 1000000 ∧ 0 ≤ r.rc ∧ r.rc ≤ 1000000000000 ∧ 0 ≤ r.cut ∧ r.cut ≤ 1000000000000
theorem good_fit {r : Rn} (h : r.good = true) : r.fit := by
  obtain ⟨g1, g2, g3, g4, g5, g6, g7, g8, g9, g10, g11, g12, g13, g14, g15, g16, g17, g18⟩ := r.good_iff.1 h
  unfold Rn.fit; omega
def maxI (a b : Int) : Int := if a < b then b else a
def minI (a b : Int) : Int := if b < a then b else a
/-- Half of what is under way, two segments at least. -/
def Rn.half (r : Rn) : Int := minI (maxI (r.fl / 2) (2 * r.mss)) 100000000
def Rn.widen (r : Rn) (b : Int) : Rn := { r with cw := minI (r.cw + b) 100000000 }
def Rn.halve (r : Rn) (h : Int) : Rn := { r with th := h, cw := h, ac := 0 }

theorem wrap_id {x : Int} (h0 : -9223372036854775808 ≤ x) (h1 : x ≤ 9223372036854775807) : IntKind.i64.wrap x = x := by rw [IntKind.wrap_i64]; omega

/-- Two boxes, laid at the beginning. -/
theorem two_boxes (w : World) (r : Rn) : Sits ((w.alloc (.cells (rnCells r) 51)).alloc (.cells (rnCells Rn.zero) 51)) w.heap.size (rnCells r) 51 ∧ Sits ((w.alloc (.cells (rnCells r) 51)).alloc (.cells (rnCells Rn.zero) 51)) (w.heap.size + 1) (rnCells Rn.zero) 51 ∧ Below w.heap.size w ((w.alloc (.cells (rnCells r) 51)).alloc (.cells (rnCells Rn.zero) 51)) ∧ ((w.alloc (.cells (rnCells r) 51)).alloc (.cells (rnCells Rn.zero) 51)).heap.size = w.heap.size + 2 :=
  ⟨(Sits.new _ _ _).alloc _, Sits.new' (by simp), ((Below.refl _ _).alloc (Nat.le_refl _) _).alloc (by simp) _, by simp⟩

end Go.Proofs.Ytcchnhjkifdemap
