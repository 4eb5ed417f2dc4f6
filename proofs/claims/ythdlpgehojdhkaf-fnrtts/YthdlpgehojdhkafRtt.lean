/-
  WAITING: an Rtt's four fields; which are well; the laws' toRtt and eqRtt; a box of four cells.
-/
import Derived.Test.YthdlpgehojdhkafPk
import Derived.Test.YthdlpgehojdhkafSits
namespace Go.Proofs.Ythdlpgehojdhkaf
open Go.RowKit
set_option linter.unusedVariables false

/-- An Rtt's fields. -/
structure Rt where
  hs : Bool
  mn : Int
  vr : Int
  ro : Int
@[reducible] def Rt.val (r : Rt) : Value := .agg #[.bool r.hs, .int .i64 r.mn, .int .i64 r.vr, .int .i64 r.ro]
@[reducible] def rtCells (r : Rt) : Array Value := #[.bool r.hs, .int .i64 r.mn, .int .i64 r.vr, .int .i64 r.ro]
/-- The numbers lie in an int. -/
def Rt.In (r : Rt) : Prop := (-9223372036854775808 ≤ r.mn ∧ r.mn ≤ 9223372036854775807) ∧ (-9223372036854775808 ≤ r.vr ∧ r.vr ≤ 9223372036854775807) ∧ (-9223372036854775808 ≤ r.ro ∧ r.ro ≤ 9223372036854775807)
def Rt.zero : Rt := ⟨false, 0, 0, 0⟩

/-- Is it an Rtt? -/
def Rt.good (r : Rt) : Bool := decide (0 ≤ r.mn ∧ r.mn ≤ 60000000 ∧ 0 ≤ r.vr ∧ r.vr ≤ 60000000 ∧ 1000000 ≤ r.ro ∧ r.ro ≤ 60000000 ∧ (r.hs = false → r.mn = 0 ∧ r.vr = 0))
theorem Rt.good_iff (r : Rt) : r.good = true ↔ (0 ≤ r.mn ∧ r.mn ≤ 60000000 ∧ 0 ≤ r.vr ∧ r.vr ≤ 60000000 ∧ 1000000 ≤ r.ro ∧ r.ro ≤ 60000000 ∧ (r.hs = false → r.mn = 0 ∧ r.vr = 0)) := by unfold Rt.good; exact decide_eq_true_iff
theorem rt_good_in {r : Rt} (h : r.good = true) : r.In := by
  obtain ⟨g1, g2, g3, g4, g5, g6, g7⟩ := r.good_iff.1 h
  unfold Rt.In; omega
theorem rt_zero_bad : Rt.zero.good = false := by decide
theorem rt_cells {W : World} {B : Nat} {r : Rt} {t : TypeId} (h : Sits W B (rtCells r) t) : W.cell? ⟨B, 0, none⟩ = some (.bool r.hs) ∧ W.cell? ⟨B, 1, none⟩ = some (.int .i64 r.mn) ∧ W.cell? ⟨B, 2, none⟩ = some (.int .i64 r.vr) ∧ W.cell? ⟨B, 3, none⟩ = some (.int .i64 r.ro) :=
  ⟨h.cell 0, h.cell 1, h.cell 2, h.cell 3⟩
/-- All cells of a box, written. -/
@[reducible] def putRt (W : World) (B : Nat) (q : Rt) : World := ((((W.setCell ⟨B, 0, none⟩ (.bool q.hs)).setCell ⟨B, 1, none⟩ (.int .i64 q.mn)).setCell ⟨B, 2, none⟩ (.int .i64 q.vr)).setCell ⟨B, 3, none⟩ (.int .i64 q.ro))
theorem rt_s0 {W : World} {B : Nat} {r : Rt} {t : TypeId} (h : Sits W B (rtCells r) t) (z : Bool) : Sits (W.setCell ⟨B, 0, none⟩ (.bool z)) B (rtCells { r with hs := z }) t := Sits.set h 0 _
theorem rt_s1 {W : World} {B : Nat} {r : Rt} {t : TypeId} (h : Sits W B (rtCells r) t) (z : Int) : Sits (W.setCell ⟨B, 1, none⟩ (.int .i64 z)) B (rtCells { r with mn := z }) t := Sits.set h 1 _
theorem rt_s2 {W : World} {B : Nat} {r : Rt} {t : TypeId} (h : Sits W B (rtCells r) t) (z : Int) : Sits (W.setCell ⟨B, 2, none⟩ (.int .i64 z)) B (rtCells { r with vr := z }) t := Sits.set h 2 _
theorem rt_s3 {W : World} {B : Nat} {r : Rt} {t : TypeId} (h : Sits W B (rtCells r) t) (z : Int) : Sits (W.setCell ⟨B, 3, none⟩ (.int .i64 z)) B (rtCells { r with ro := z }) t := Sits.set h 3 _
theorem putRt_sits {W : World} {B : Nat} {r : Rt} {t : TypeId} (h : Sits W B (rtCells r) t) (q : Rt) : Sits (putRt W B q) B (rtCells q) t := (rt_s3 (rt_s2 (rt_s1 (rt_s0 h q.hs) q.mn) q.vr) q.ro)
theorem putRt_other {W : World} {B C : Nat} {vs : Array Value} {t : TypeId} (h : Sits W C vs t) (hne : C ≠ B) (q : Rt) : Sits (putRt W B q) C vs t := (Sits.other (Sits.other (Sits.other (Sits.other h hne _) hne _) hne _) hne _)
theorem putRt_below {n : Nat} {w W : World} (h : Below n w W) {B : Nat} (hB : n ≤ B) (q : Rt) : Below n w (putRt W B q) := (Below.setCell (Below.setCell (Below.setCell (Below.setCell h hB _) hB _) hB _) hB _)
theorem putRt_size (W : World) (B : Nat) (q : Rt) : (putRt W B q).heap.size = W.heap.size := by simp [putRt, World.setCell]

theorem ret_rtv {fn : Func} {tmps : Array Value} {W : World} {i B : Nat} {q : Rt} {t : TypeId} (hr : fn.results = #[.cell i 24]) (hi : tmps[i]?.getD undef = .pointer (some ⟨B, 0, none⟩)) (hs : Sits W B (rtCells q) t) : (results fn tmps).run Try.prog W = .ok (q.val) W := by
  obtain ⟨c0, c1, c2, c3⟩ := rt_cells hs
  simp [results, hr, hi, go_sem, c0, c1, c2, c3]

theorem ret_rtb {fn : Func} {tmps : Array Value} {W : World} {i j B : Nat} {q : Rt} {b : Bool} {t : TypeId} (hr : fn.results = #[.cell i 24, .tmp j]) (hi : tmps[i]?.getD undef = .pointer (some ⟨B, 0, none⟩)) (hj : tmps[j]?.getD undef = .bool b) (hs : Sits W B (rtCells q) t) : (results fn tmps).run Try.prog W = .ok (.tuple #[q.val, .bool b]) W := by
  obtain ⟨c0, c1, c2, c3⟩ := rt_cells hs
  simp [results, hr, hi, hj, go_sem, c0, c1, c2, c3]

theorem ret_rti {fn : Func} {tmps : Array Value} {W : World} {i j B : Nat} {q : Rt} {b : Int} {t : TypeId} (hr : fn.results = #[.cell i 24, .tmp j]) (hi : tmps[i]?.getD undef = .pointer (some ⟨B, 0, none⟩)) (hj : tmps[j]?.getD undef = .int .i64 b) (hs : Sits W B (rtCells q) t) : (results fn tmps).run Try.prog W = .ok (.tuple #[q.val, .int .i64 b]) W := by
  obtain ⟨c0, c1, c2, c3⟩ := rt_cells hs
  simp [results, hr, hi, hj, go_sem, c0, c1, c2, c3]

end Go.Proofs.Ythdlpgehojdhkaf
