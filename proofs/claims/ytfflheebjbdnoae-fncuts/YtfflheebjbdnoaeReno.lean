/-
  RENO: a Reno's ten fields; which are well: RenoOk OF BOTH SIDES; the laws' toReno and eqReno; a box of ten cells.
-/
import Derived.Test.YtfflheebjbdnoaePk
import Derived.Test.YtfflheebjbdnoaeSits
namespace Go.Proofs.Ytfflheebjbdnoae
open Go.RowKit
set_option linter.unusedVariables false

/-- A Reno's fields. -/
structure Rn where
  mss : Int
  cw : Int
  th : Int
  ac : Int
  una : Int
  nx : Int
  du : Int
  rc : Int
  inn : Bool
  cut : Int
@[reducible] def Rn.val (r : Rn) : Value := .agg #[.int .i64 r.mss, .int .i64 r.cw, .int .i64 r.th, .int .i64 r.ac, .int .i64 r.una, .int .i64 r.nx, .int .i64 r.du, .int .i64 r.rc, .bool r.inn, .int .i64 r.cut]
@[reducible] def rnCells (r : Rn) : Array Value := #[.int .i64 r.mss, .int .i64 r.cw, .int .i64 r.th, .int .i64 r.ac, .int .i64 r.una, .int .i64 r.nx, .int .i64 r.du, .int .i64 r.rc, .bool r.inn, .int .i64 r.cut]
/-- The numbers lie in an int. -/
def Rn.In (r : Rn) : Prop := (-9223372036854775808 ≤ r.mss ∧ r.mss ≤ 9223372036854775807) ∧ (-9223372036854775808 ≤ r.cw ∧ r.cw ≤ 9223372036854775807) ∧ (-9223372036854775808 ≤ r.th ∧ r.th ≤ 9223372036854775807) ∧ (-9223372036854775808 ≤ r.ac ∧ r.ac ≤ 9223372036854775807) ∧ (-9223372036854775808 ≤ r.una ∧ r.una ≤ 9223372036854775807) ∧ (-9223372036854775808 ≤ r.nx ∧ r.nx ≤ 9223372036854775807) ∧ (-9223372036854775808 ≤ r.du ∧ r.du ≤ 9223372036854775807) ∧ (-9223372036854775808 ≤ r.rc ∧ r.rc ≤ 9223372036854775807) ∧ (-9223372036854775808 ≤ r.cut ∧ r.cut ≤ 9223372036854775807)
def Rn.zero : Rn := ⟨0, 0, 0, 0, 0, 0, 0, 0, false, 0⟩

/-- Is it a Reno? -/
def Rn.good (r : Rn) : Bool := decide (1 ≤ r.mss ∧ r.mss ≤ 10000 ∧ r.mss ≤ r.cw ∧ r.cw ≤ 100000000 ∧ 2 * r.mss ≤ r.th ∧ r.th ≤ 100000000 ∧ 0 ≤ r.ac ∧ r.ac ≤ 100000000 ∧ 0 ≤ r.una ∧ r.una ≤ r.nx ∧ r.nx ≤ 1000000000000 ∧ 0 ≤ r.du ∧ r.du ≤ 1000000 ∧ 0 ≤ r.rc ∧ r.rc ≤ r.nx ∧ 0 ≤ r.cut ∧ r.cut ≤ r.nx ∧ (r.inn = true → r.una < r.rc))
theorem Rn.good_iff (r : Rn) : r.good = true ↔ (1 ≤ r.mss ∧ r.mss ≤ 10000 ∧ r.mss ≤ r.cw ∧ r.cw ≤ 100000000 ∧ 2 * r.mss ≤ r.th ∧ r.th ≤ 100000000 ∧ 0 ≤ r.ac ∧ r.ac ≤ 100000000 ∧ 0 ≤ r.una ∧ r.una ≤ r.nx ∧ r.nx ≤ 1000000000000 ∧ 0 ≤ r.du ∧ r.du ≤ 1000000 ∧ 0 ≤ r.rc ∧ r.rc ≤ r.nx ∧ 0 ≤ r.cut ∧ r.cut ≤ r.nx ∧ (r.inn = true → r.una < r.rc)) := by unfold Rn.good; exact decide_eq_true_iff
theorem rn_good_in {r : Rn} (h : r.good = true) : r.In := by
  obtain ⟨g1, g2, g3, g4, g5, g6, g7, g8, g9, g10, g11, g12, g13, g14, g15, g16, g17, g18⟩ := r.good_iff.1 h
  unfold Rn.In; omega
theorem rn_zero_bad : Rn.zero.good = false := by decide

theorem rn_cells {W : World} {B : Nat} {r : Rn} {t : TypeId} (h : Sits W B (rnCells r) t) : W.cell? ⟨B, 0, none⟩ = some (.int .i64 r.mss) ∧ W.cell? ⟨B, 1, none⟩ = some (.int .i64 r.cw) ∧ W.cell? ⟨B, 2, none⟩ = some (.int .i64 r.th) ∧ W.cell? ⟨B, 3, none⟩ = some (.int .i64 r.ac) ∧ W.cell? ⟨B, 4, none⟩ = some (.int .i64 r.una) ∧ W.cell? ⟨B, 5, none⟩ = some (.int .i64 r.nx) ∧ W.cell? ⟨B, 6, none⟩ = some (.int .i64 r.du) ∧ W.cell? ⟨B, 7, none⟩ = some (.int .i64 r.rc) ∧ W.cell? ⟨B, 8, none⟩ = some (.bool r.inn) ∧ W.cell? ⟨B, 9, none⟩ = some (.int .i64 r.cut) :=
  ⟨h.cell 0, h.cell 1, h.cell 2, h.cell 3, h.cell 4, h.cell 5, h.cell 6, h.cell 7, h.cell 8, h.cell 9⟩
/-- All ten cells of a box, written. -/
@[reducible] def putRn (W : World) (B : Nat) (q : Rn) : World := ((((((((((W.setCell ⟨B, 0, none⟩ (.int .i64 q.mss)).setCell ⟨B, 1, none⟩ (.int .i64 q.cw)).setCell ⟨B, 2, none⟩ (.int .i64 q.th)).setCell ⟨B, 3, none⟩ (.int .i64 q.ac)).setCell ⟨B, 4, none⟩ (.int .i64 q.una)).setCell ⟨B, 5, none⟩ (.int .i64 q.nx)).setCell ⟨B, 6, none⟩ (.int .i64 q.du)).setCell ⟨B, 7, none⟩ (.int .i64 q.rc)).setCell ⟨B, 8, none⟩ (.bool q.inn)).setCell ⟨B, 9, none⟩ (.int .i64 q.cut))
theorem rn_s0 {W : World} {B : Nat} {r : Rn} {t : TypeId} (h : Sits W B (rnCells r) t) (z : Int) : Sits (W.setCell ⟨B, 0, none⟩ (.int .i64 z)) B (rnCells { r with mss := z }) t := Sits.set h 0 _
theorem rn_s1 {W : World} {B : Nat} {r : Rn} {t : TypeId} (h : Sits W B (rnCells r) t) (z : Int) : Sits (W.setCell ⟨B, 1, none⟩ (.int .i64 z)) B (rnCells { r with cw := z }) t := Sits.set h 1 _
theorem rn_s2 {W : World} {B : Nat} {r : Rn} {t : TypeId} (h : Sits W B (rnCells r) t) (z : Int) : Sits (W.setCell ⟨B, 2, none⟩ (.int .i64 z)) B (rnCells { r with th := z }) t := Sits.set h 2 _
theorem rn_s3 {W : World} {B : Nat} {r : Rn} {t : TypeId} (h : Sits W B (rnCells r) t) (z : Int) : Sits (W.setCell ⟨B, 3, none⟩ (.int .i64 z)) B (rnCells { r with ac := z }) t := Sits.set h 3 _
theorem rn_s4 {W : World} {B : Nat} {r : Rn} {t : TypeId} (h : Sits W B (rnCells r) t) (z : Int) : Sits (W.setCell ⟨B, 4, none⟩ (.int .i64 z)) B (rnCells { r with una := z }) t := Sits.set h 4 _
theorem rn_s5 {W : World} {B : Nat} {r : Rn} {t : TypeId} (h : Sits W B (rnCells r) t) (z : Int) : Sits (W.setCell ⟨B, 5, none⟩ (.int .i64 z)) B (rnCells { r with nx := z }) t := Sits.set h 5 _
theorem rn_s6 {W : World} {B : Nat} {r : Rn} {t : TypeId} (h : Sits W B (rnCells r) t) (z : Int) : Sits (W.setCell ⟨B, 6, none⟩ (.int .i64 z)) B (rnCells { r with du := z }) t := Sits.set h 6 _
theorem rn_s7 {W : World} {B : Nat} {r : Rn} {t : TypeId} (h : Sits W B (rnCells r) t) (z : Int) : Sits (W.setCell ⟨B, 7, none⟩ (.int .i64 z)) B (rnCells { r with rc := z }) t := Sits.set h 7 _
theorem rn_s8 {W : World} {B : Nat} {r : Rn} {t : TypeId} (h : Sits W B (rnCells r) t) (z : Bool) : Sits (W.setCell ⟨B, 8, none⟩ (.bool z)) B (rnCells { r with inn := z }) t := Sits.set h 8 _
theorem rn_s9 {W : World} {B : Nat} {r : Rn} {t : TypeId} (h : Sits W B (rnCells r) t) (z : Int) : Sits (W.setCell ⟨B, 9, none⟩ (.int .i64 z)) B (rnCells { r with cut := z }) t := Sits.set h 9 _
theorem put_sits {W : World} {B : Nat} {r : Rn} {t : TypeId} (h : Sits W B (rnCells r) t) (q : Rn) : Sits (putRn W B q) B (rnCells q) t := (rn_s9 (rn_s8 (rn_s7 (rn_s6 (rn_s5 (rn_s4 (rn_s3 (rn_s2 (rn_s1 (rn_s0 h q.mss) q.cw) q.th) q.ac) q.una) q.nx) q.du) q.rc) q.inn) q.cut)
theorem put_other {W : World} {B C : Nat} {vs : Array Value} {t : TypeId} (h : Sits W C vs t) (hne : C ≠ B) (q : Rn) : Sits (putRn W B q) C vs t := (Sits.other (Sits.other (Sits.other (Sits.other (Sits.other (Sits.other (Sits.other (Sits.other (Sits.other (Sits.other h hne _) hne _) hne _) hne _) hne _) hne _) hne _) hne _) hne _) hne _)
theorem put_below {n : Nat} {w W : World} (h : Below n w W) {B : Nat} (hB : n ≤ B) (q : Rn) : Below n w (putRn W B q) := (Below.setCell (Below.setCell (Below.setCell (Below.setCell (Below.setCell (Below.setCell (Below.setCell (Below.setCell (Below.setCell (Below.setCell h hB _) hB _) hB _) hB _) hB _) hB _) hB _) hB _) hB _) hB _)
theorem put_size (W : World) (B : Nat) (q : Rn) : (putRn W B q).heap.size = W.heap.size := by simp [putRn, World.setCell]
theorem ret_rn {fn : Func} {tmps : Array Value} {W : World} {i B : Nat} {q : Rn} {t : TypeId} (hr : fn.results = #[.cell i 24]) (hi : tmps[i]?.getD undef = .pointer (some ⟨B, 0, none⟩)) (hs : Sits W B (rnCells q) t) : (results fn tmps).run Try.prog W = .ok (q.val) W := by
  obtain ⟨c0, c1, c2, c3, c4, c5, c6, c7, c8, c9⟩ := rn_cells hs
  simp [results, hr, hi, go_sem, c0, c1, c2, c3, c4, c5, c6, c7, c8, c9]
theorem ret_rnb {fn : Func} {tmps : Array Value} {W : World} {i j B : Nat} {q : Rn} {b : Bool} {t : TypeId} (hr : fn.results = #[.cell i 24, .tmp j]) (hi : tmps[i]?.getD undef = .pointer (some ⟨B, 0, none⟩)) (hj : tmps[j]?.getD undef = .bool b) (hs : Sits W B (rnCells q) t) : (results fn tmps).run Try.prog W = .ok (.tuple #[q.val, .bool b]) W := by
  obtain ⟨c0, c1, c2, c3, c4, c5, c6, c7, c8, c9⟩ := rn_cells hs
  simp [results, hr, hi, hj, go_sem, c0, c1, c2, c3, c4, c5, c6, c7, c8, c9]
theorem rn_good_eq (r : Rn) : r.good = ((inB r.mss 1 10000) && (inB r.cw r.mss 100000000) && (inB r.th (2 * r.mss) 100000000) && (inB r.ac 0 100000000) && (inB r.una 0 r.nx) && (decide (r.nx ≤ 1000000000000)) && (inB r.du 0 1000000) && (inB r.rc 0 r.nx) && (inB r.cut 0 r.nx) && (!r.inn || decide (r.una < r.rc))) := by
  rw [Bool.eq_iff_iff, Rn.good_iff]
  cases h : r.inn <;> simp [inB] <;> omega

end Go.Proofs.Ytfflheebjbdnoae
