/-
  RENO's SMALL PARTS in the program: underWay, halfOf, widened, halved.
-/
import Derived.Test.YtfflheebjbdnoaeReno
import Derived.Deep.RegionWith
import Derived.Deep.Cut
namespace Go.Proofs.Ytfflheebjbdnoae
open Go.RowKit
set_option linter.unusedVariables false

/-- What is under way. -/
def Rn.fl (r : Rn) : Int := r.nx - r.una
/-- Numbers that no sum takes too far. -/
def Rn.fit (r : Rn) : Prop := 1 ≤ r.mss ∧ r.mss ≤ 10000 ∧ 0 ≤ r.cw ∧ r.cw ≤ 100000000 ∧ 0 ≤ r.th ∧ r.th ≤ 100000000 ∧ 0 ≤ r.ac ∧ r.ac ≤ 100000000 ∧ 0 ≤ r.una ∧ r.una ≤ r.nx ∧ r.nx ≤ 1000000000000 ∧ 0 ≤ r.du ∧ r.du ≤ 1000000 ∧ 0 ≤ r.rc ∧ r.rc ≤ 1000000000000 ∧ 0 ≤ r.cut ∧ r.cut ≤ 1000000000000
theorem good_fit {r : Rn} (h : r.good = true) : r.fit := by
  obtain ⟨g1, g2, g3, g4, g5, g6, g7, g8, g9, g10, g11, g12, g13, g14, g15, g16, g17, g18⟩ := r.good_iff.1 h
  unfold Rn.fit; omega
def maxI (a b : Int) : Int := if a < b then b else a
def minI (a b : Int) : Int := if b < a then b else a
/-- Half of what is under way, two segments at least. -/
def Rn.half (r : Rn) : Int := minI (maxI (r.fl / 2) (2 * r.mss)) 100000000
def Rn.widen (r : Rn) (b : Int) : Rn := { r with cw := minI (r.cw + b) 100000000 }
def Rn.halve (r : Rn) (h : Int) : Rn := { r with th := h, cw := h, ac := 0 }

theorem wrap_id {x : Int} (h0 : -9223372036854775808 ≤ x) (h1 : x ≤ 9223372036854775807) : IntKind.i64.wrap x = x := by rw [IntKind.wrap_i64]; omega

/-- Two boxes, laid at the beginning. -/
theorem two_boxes (w : World) (r : Rn) : Sits ((w.alloc (.cells (rnCells r) 24)).alloc (.cells (rnCells Rn.zero) 24)) w.heap.size (rnCells r) 24 ∧ Sits ((w.alloc (.cells (rnCells r) 24)).alloc (.cells (rnCells Rn.zero) 24)) (w.heap.size + 1) (rnCells Rn.zero) 24 ∧ Below w.heap.size w ((w.alloc (.cells (rnCells r) 24)).alloc (.cells (rnCells Rn.zero) 24)) ∧ ((w.alloc (.cells (rnCells r) 24)).alloc (.cells (rnCells Rn.zero) 24)).heap.size = w.heap.size + 2 :=
  ⟨(Sits.new _ _ _).alloc _, Sits.new' (by simp), ((Below.refl _ _).alloc (Nat.le_refl _) _).alloc (by simp) _, by simp⟩

theorem underWay_any (r : Rn) (hf : r.fit) (w : World) :
    Calls Try.prog 33 #[r.val] w fun e w' => e = .returned (.int .i64 r.fl) ∧ Below w.heap.size w w' := by
  unfold Rn.fit at hf
  obtain ⟨mss, cw, th, ac, una, nx, du, rc, inn, cut⟩ := r
  dsimp only at hf
  go_enter Try.func33, Try.ntmps33
  go_wp2
  go_ret
  exact ⟨rfl, by go_grown⟩

set_option maxHeartbeats 1000000 in
set_option maxRecDepth 20000 in
theorem halfOf_any (r : Rn) (hf : r.fit) (w : World) :
    Calls Try.prog 31 #[r.val] w fun e w' => e = .returned (.int .i64 r.half) ∧ Below w.heap.size w w' := by
  have HF : Hid r.fit := hf
  unfold Rn.fit at hf
  have S0 : Hid (Sits (w.alloc (.cells (rnCells r) 24)) w.heap.size (rnCells r) 24) := Sits.new _ _ _
  have B0 : Hid (Below w.heap.size w (w.alloc (.cells (rnCells r) 24))) := (Below.refl _ _).alloc (Nat.le_refl _) _
  have hfl : 0 ≤ r.fl ∧ r.fl ≤ 1000000000000 := by unfold Rn.fl; omega
  obtain ⟨f0, f1⟩ := hfl
  have HH : Hid (r.half = minI (maxI (r.fl / 2) (2 * r.mss)) 100000000) := rfl
  obtain ⟨f, hfe⟩ : ∃ f, r.fl = f := ⟨_, rfl⟩
  obtain ⟨H, hH⟩ : ∃ f, r.half = f := ⟨_, rfl⟩
  rw [hH] at HH ⊢
  rw [hfe] at f0 f1 HH
  have e1 : IntKind.i64.wrap (2 * r.mss) = 2 * r.mss := wrap_id (by omega) (by omega)
  have e2 : IntKind.i64.wrap (f.tdiv 2) = f / 2 := by rw [Int.tdiv_eq_ediv_of_nonneg f0]; exact wrap_id (by omega) (by omega)
  go_enter Try.func31, Try.ntmps31
  go_wp2
  go_region_with (go_at_call 33; refine (underWay_any r HF.out _).mono ?_; rintro e w1 ⟨rfl, b1⟩; rw [hfe]; obtain ⟨q0, q1, q2, q3, q4, q5, q6, q7, q8, q9⟩ := rn_cells (Sits.below (Sits.drew S0.out) b1 (by simp)); replace b1 := (Below.drew B0.out).trans (b1.mono (by simp)))
  all_goals
    go_wp2
    all_goals
      go_ret
      refine ⟨ret_int ?_, b1⟩
      rw [HH.out]
      unfold minI maxI
      (repeat' split) <;> omega

end Go.Proofs.Ytfflheebjbdnoae
