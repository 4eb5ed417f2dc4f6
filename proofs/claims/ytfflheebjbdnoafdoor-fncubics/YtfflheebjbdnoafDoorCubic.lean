/-
  CUBIC: a Cubic's six fields; which are well; the laws' toCubic and eqCubic; a box of six cells.
-/
import Derived.Test.YtfflheebjbdnoafDoorPk
import Derived.Test.YtfflheebjbdnoafDoorSits
namespace Go.Proofs.YtfflheebjbdnoafDoor
open Go.RowKit
set_option linter.unusedVariables false

/-- A Cubic's fields. -/
structure Cb where
  wn : Int
  mx : Int
  kk : Int
  st : Int
  th : Int
  bg : Bool
@[reducible] def Cb.val (r : Cb) : Value := .agg #[.int .i64 r.wn, .int .i64 r.mx, .int .i64 r.kk, .int .i64 r.st, .int .i64 r.th, .bool r.bg]
@[reducible] def cbCells (r : Cb) : Array Value := #[.int .i64 r.wn, .int .i64 r.mx, .int .i64 r.kk, .int .i64 r.st, .int .i64 r.th, .bool r.bg]
/-- The numbers lie in an int. -/
def Cb.In (r : Cb) : Prop := (-9223372036854775808 ≤ r.wn ∧ r.wn ≤ 9223372036854775807) ∧ (-9223372036854775808 ≤ r.mx ∧ r.mx ≤ 9223372036854775807) ∧ (-9223372036854775808 ≤ r.kk ∧ r.kk ≤ 9223372036854775807) ∧ (-9223372036854775808 ≤ r.st ∧ r.st ≤ 9223372036854775807) ∧ (-9223372036854775808 ≤ r.th ∧ r.th ≤ 9223372036854775807)
def Cb.zero : Cb := ⟨0, 0, 0, 0, 0, false⟩

/-- Is it a Cubic? -/
def Cb.good (r : Cb) : Bool := decide (1 ≤ r.wn ∧ r.wn ≤ 1048576 ∧ 0 ≤ r.mx ∧ r.mx ≤ 1048576 ∧ 0 ≤ r.kk ∧ r.kk ≤ 200000 ∧ 0 ≤ r.st ∧ r.st ≤ 1048576000 ∧ 2 ≤ r.th ∧ r.th ≤ 1048576)
theorem Cb.good_iff (r : Cb) : r.good = true ↔ (1 ≤ r.wn ∧ r.wn ≤ 1048576 ∧ 0 ≤ r.mx ∧ r.mx ≤ 1048576 ∧ 0 ≤ r.kk ∧ r.kk ≤ 200000 ∧ 0 ≤ r.st ∧ r.st ≤ 1048576000 ∧ 2 ≤ r.th ∧ r.th ≤ 1048576) := by unfold Cb.good; exact decide_eq_true_iff
theorem cb_good_in {r : Cb} (h : r.good = true) : r.In := by
  obtain ⟨g1, g2, g3, g4, g5, g6, g7, g8, g9, g10⟩ := r.good_iff.1 h
  unfold Cb.In; omega
theorem cb_zero_bad : Cb.zero.good = false := by decide
theorem cb_cells {W : World} {B : Nat} {r : Cb} {t : TypeId} (h : Sits W B (cbCells r) t) : W.cell? ⟨B, 0, none⟩ = some (.int .i64 r.wn) ∧ W.cell? ⟨B, 1, none⟩ = some (.int .i64 r.mx) ∧ W.cell? ⟨B, 2, none⟩ = some (.int .i64 r.kk) ∧ W.cell? ⟨B, 3, none⟩ = some (.int .i64 r.st) ∧ W.cell? ⟨B, 4, none⟩ = some (.int .i64 r.th) ∧ W.cell? ⟨B, 5, none⟩ = some (.bool r.bg) :=
  ⟨h.cell 0, h.cell 1, h.cell 2, h.cell 3, h.cell 4, h.cell 5⟩
/-- All cells of a box, written. -/
@[reducible] def putCb (W : World) (B : Nat) (q : Cb) : World := ((((((W.setCell ⟨B, 0, none⟩ (.int .i64 q.wn)).setCell ⟨B, 1, none⟩ (.int .i64 q.mx)).setCell ⟨B, 2, none⟩ (.int .i64 q.kk)).setCell ⟨B, 3, none⟩ (.int .i64 q.st)).setCell ⟨B, 4, none⟩ (.int .i64 q.th)).setCell ⟨B, 5, none⟩ (.bool q.bg))
theorem cb_s0 {W : World} {B : Nat} {r : Cb} {t : TypeId} (h : Sits W B (cbCells r) t) (z : Int) : Sits (W.setCell ⟨B, 0, none⟩ (.int .i64 z)) B (cbCells { r with wn := z }) t := Sits.set h 0 _
theorem cb_s1 {W : World} {B : Nat} {r : Cb} {t : TypeId} (h : Sits W B (cbCells r) t) (z : Int) : Sits (W.setCell ⟨B, 1, none⟩ (.int .i64 z)) B (cbCells { r with mx := z }) t := Sits.set h 1 _
theorem cb_s2 {W : World} {B : Nat} {r : Cb} {t : TypeId} (h : Sits W B (cbCells r) t) (z : Int) : Sits (W.setCell ⟨B, 2, none⟩ (.int .i64 z)) B (cbCells { r with kk := z }) t := Sits.set h 2 _
theorem cb_s3 {W : World} {B : Nat} {r : Cb} {t : TypeId} (h : Sits W B (cbCells r) t) (z : Int) : Sits (W.setCell ⟨B, 3, none⟩ (.int .i64 z)) B (cbCells { r with st := z }) t := Sits.set h 3 _
theorem cb_s4 {W : World} {B : Nat} {r : Cb} {t : TypeId} (h : Sits W B (cbCells r) t) (z : Int) : Sits (W.setCell ⟨B, 4, none⟩ (.int .i64 z)) B (cbCells { r with th := z }) t := Sits.set h 4 _
theorem cb_s5 {W : World} {B : Nat} {r : Cb} {t : TypeId} (h : Sits W B (cbCells r) t) (z : Bool) : Sits (W.setCell ⟨B, 5, none⟩ (.bool z)) B (cbCells { r with bg := z }) t := Sits.set h 5 _
theorem putCb_sits {W : World} {B : Nat} {r : Cb} {t : TypeId} (h : Sits W B (cbCells r) t) (q : Cb) : Sits (putCb W B q) B (cbCells q) t := (cb_s5 (cb_s4 (cb_s3 (cb_s2 (cb_s1 (cb_s0 h q.wn) q.mx) q.kk) q.st) q.th) q.bg)
theorem putCb_other {W : World} {B C : Nat} {vs : Array Value} {t : TypeId} (h : Sits W C vs t) (hne : C ≠ B) (q : Cb) : Sits (putCb W B q) C vs t := (Sits.other (Sits.other (Sits.other (Sits.other (Sits.other (Sits.other h hne _) hne _) hne _) hne _) hne _) hne _)
theorem putCb_below {n : Nat} {w W : World} (h : Below n w W) {B : Nat} (hB : n ≤ B) (q : Cb) : Below n w (putCb W B q) := (Below.setCell (Below.setCell (Below.setCell (Below.setCell (Below.setCell (Below.setCell h hB _) hB _) hB _) hB _) hB _) hB _)
theorem putCb_size (W : World) (B : Nat) (q : Cb) : (putCb W B q).heap.size = W.heap.size := by simp [putCb, World.setCell]

theorem ret_cbv {fn : Func} {tmps : Array Value} {W : World} {i B : Nat} {q : Cb} {t : TypeId} (hr : fn.results = #[.cell i 24]) (hi : tmps[i]?.getD undef = .pointer (some ⟨B, 0, none⟩)) (hs : Sits W B (cbCells q) t) : (results fn tmps).run Tryd.prog W = .ok (q.val) W := by
  obtain ⟨c0, c1, c2, c3, c4, c5⟩ := cb_cells hs
  simp [results, hr, hi, go_sem, c0, c1, c2, c3, c4, c5]

theorem ret_cbb {fn : Func} {tmps : Array Value} {W : World} {i j B : Nat} {q : Cb} {b : Bool} {t : TypeId} (hr : fn.results = #[.cell i 24, .tmp j]) (hi : tmps[i]?.getD undef = .pointer (some ⟨B, 0, none⟩)) (hj : tmps[j]?.getD undef = .bool b) (hs : Sits W B (cbCells q) t) : (results fn tmps).run Tryd.prog W = .ok (.tuple #[q.val, .bool b]) W := by
  obtain ⟨c0, c1, c2, c3, c4, c5⟩ := cb_cells hs
  simp [results, hr, hi, hj, go_sem, c0, c1, c2, c3, c4, c5]

theorem ret_cbi {fn : Func} {tmps : Array Value} {W : World} {i j B : Nat} {q : Cb} {b : Int} {t : TypeId} (hr : fn.results = #[.cell i 24, .tmp j]) (hi : tmps[i]?.getD undef = .pointer (some ⟨B, 0, none⟩)) (hj : tmps[j]?.getD undef = .int .i64 b) (hs : Sits W B (cbCells q) t) : (results fn tmps).run Tryd.prog W = .ok (.tuple #[q.val, .int .i64 b]) W := by
  obtain ⟨c0, c1, c2, c3, c4, c5⟩ := cb_cells hs
  simp [results, hr, hi, hj, go_sem, c0, c1, c2, c3, c4, c5]

end Go.Proofs.YtfflheebjbdnoafDoor
