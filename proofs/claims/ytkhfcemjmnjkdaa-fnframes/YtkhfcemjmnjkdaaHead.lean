/-
  THE PROGRAM's HEAD OF A FRAME: twenty bytes, as putHead writes them.
-/
import Derived.Test.YtkhfcemjmnjkdaaPut
namespace Go.Proofs.Ytkhfcemjmnjkdaa
open Go.RowKit
set_option linter.unusedVariables false

/-- The bytes of a head. -/
def headF (d e len i t p sum s q : Int) : Nat → Int := (putF (putF (putF (putF (putF (putF (putF (putF (putF (putF (fun _ => 0) 0 69 1) 1 (d * 4 + e) 1) 2 len 2) 4 i 2) 6 0 2) 8 t 1) 9 p 1) 10 sum 2) 12 s 4) 16 q 4)

theorem ip_cells {W : World} {B : Nat} {a b c d e f g : Value} {t : TypeId} (h : Sits W B #[a, b, c, d, e, f, g] t) : W.cell? ⟨B, 0, none⟩ = some a ∧ W.cell? ⟨B, 1, none⟩ = some b ∧ W.cell? ⟨B, 2, none⟩ = some c ∧ W.cell? ⟨B, 3, none⟩ = some d ∧ W.cell? ⟨B, 4, none⟩ = some e ∧ W.cell? ⟨B, 5, none⟩ = some f ∧ W.cell? ⟨B, 6, none⟩ = some g := ⟨h.cell 0, h.cell 1, h.cell 2, h.cell 3, h.cell 4, h.cell 5, h.cell 6⟩

set_option maxRecDepth 100000 in
set_option maxHeartbeats 4000000 in
theorem putHead_any (P : Nat) (d e i t p s q len sum : Int) (ty : TypeId) (w : World) (hP : P < w.heap.size) (hs : Sits w P #[.slice none 0 0] ty)
    (bd : 0 ≤ d ∧ d ≤ 63) (be : 0 ≤ e ∧ e ≤ 3) (bi : 0 ≤ i ∧ i ≤ 65535) (bt : 0 ≤ t ∧ t ≤ 255) (bp : 0 ≤ p ∧ p ≤ 255) (bs : 0 ≤ s ∧ s ≤ 4294967295) (bq : 0 ≤ q ∧ q ≤ 4294967295) (bl : 0 ≤ len ∧ len ≤ 65535) (bm : 0 ≤ sum ∧ sum ≤ 65535) :
    Calls Try.prog 14 #[.pointer (some ⟨P, 0, none⟩), .agg #[.int .i64 d, .int .i64 e, .int .i64 i, .int .i64 t, .int .i64 p, .int .i64 s, .int .i64 q], .int .i64 len, .int .i64 sum] w fun r w' => r = .returned (.tuple #[]) ∧ ∃ (x : Option Addr) (c : Nat), Sits w' P #[.slice x 20 c] ty ∧ BO w.heap.size w' x 20 c (headF d e len i t p sum s q) ∧ Bar P w.heap.size w w' := by
  obtain ⟨W, hW⟩ : ∃ W, w.alloc (.cells #[.int .i64 d, .int .i64 e, .int .i64 i, .int .i64 t, .int .i64 p, .int .i64 s, .int .i64 q] 24) = W := ⟨_, rfl⟩
  have hsz : W.heap.size = w.heap.size + 1 := by rw [← hW]; simp
  have si : Sits W w.heap.size #[.int .i64 d, .int .i64 e, .int .i64 i, .int .i64 t, .int .i64 p, .int .i64 s, .int .i64 q] 24 := by rw [← hW]; exact Sits.new _ _ _
  have sp : Sits W P #[.slice none 0 0] ty := by rw [← hW]; exact hs.alloc _
  have HB : Hid (Bar P w.heap.size w W) := by show Bar _ _ _ _; rw [← hW]; exact Bar.of_below ((Below.refl _ _).alloc (Nat.le_refl _) _)
  have B : Hid (Bar P (w.heap.size + 1) W W) := Bar.refl _ _ _
  have O0 : Hid (BO (w.heap.size + 1) W none 0 0 (fun _ => 0)) := BO.nil _ _ _
  have S0 : Hid (Sits W P #[.slice none 0 0] ty) := sp
  have I0 : Hid (Sits W w.heap.size #[.int .i64 d, .int .i64 e, .int .i64 i, .int .i64 t, .int .i64 p, .int .i64 s, .int .i64 q] 24) := si
  obtain ⟨i0, i1, i2, i3, i4, i5, i6⟩ := ip_cells si
  clear hs sp si
  go_enter Try.func14, Try.ntmps14
  go_wp2_with fail
  clear hW
  refine (put_any P (w.heap.size + 1) none 0 0 (fun _ => 0) _ 1 ty _ (by omega) (by have := B.out.size; omega) S0.out O0.out (by omega) (by omega) (by omega) (by omega)).mono ?_
  rintro r w1 ⟨rfl, x1, c1, sP, oP, bP⟩
  have sI := (Bar.block bP w.heap.size (by omega) (by omega)).trans I0.out
  clear i0 i1 i2 i3 i4 i5 i6
  obtain ⟨i0, i1, i2, i3, i4, i5, i6⟩ := ip_cells (show Sits w1 w.heap.size _ _ from sI)
  have I1 : Hid (Sits w1 w.heap.size #[.int .i64 d, .int .i64 e, .int .i64 i, .int .i64 t, .int .i64 p, .int .i64 s, .int .i64 q] 24) := sI
  have S1 : Hid (Sits w1 P #[.slice x1 1 c1] ty) := sP
  have O1 : Hid _ := oP
  have B' : Hid (Bar P (w.heap.size + 1) W w1) := Bar.trans B.out bP
  clear B sP oP bP sI S0 O0 I0
  have B := B'
  clear B'
  go_wp2_with fail
  refine (put_any P (w.heap.size + 1) x1 1 c1 _ _ 1 ty _ (by omega) (by have := B.out.size; omega) S1.out O1.out (by omega) (by omega) (by omega) (by omega)).mono ?_
  rintro r w2 ⟨rfl, x2, c2, sP, oP, bP⟩
  have sI := (Bar.block bP w.heap.size (by omega) (by omega)).trans I1.out
  clear i0 i1 i2 i3 i4 i5 i6
  obtain ⟨i0, i1, i2, i3, i4, i5, i6⟩ := ip_cells (show Sits w2 w.heap.size _ _ from sI)
  have I2 : Hid (Sits w2 w.heap.size #[.int .i64 d, .int .i64 e, .int .i64 i, .int .i64 t, .int .i64 p, .int .i64 s, .int .i64 q] 24) := sI
  have S2 : Hid (Sits w2 P #[.slice x2 2 c2] ty) := sP
  have O2 : Hid _ := oP
  have B' : Hid (Bar P (w.heap.size + 1) W w2) := Bar.trans B.out bP
  clear B sP oP bP sI S1 O1 I1
  have B := B'
  clear B'
  go_wp2_with fail
  refine (put_any P (w.heap.size + 1) x2 2 c2 _ _ 2 ty _ (by omega) (by have := B.out.size; omega) S2.out O2.out (by omega) (by omega) (by omega) (by omega)).mono ?_
  rintro r w3 ⟨rfl, x3, c3, sP, oP, bP⟩
  have sI := (Bar.block bP w.heap.size (by omega) (by omega)).trans I2.out
  clear i0 i1 i2 i3 i4 i5 i6
  obtain ⟨i0, i1, i2, i3, i4, i5, i6⟩ := ip_cells (show Sits w3 w.heap.size _ _ from sI)
  have I3 : Hid (Sits w3 w.heap.size #[.int .i64 d, .int .i64 e, .int .i64 i, .int .i64 t, .int .i64 p, .int .i64 s, .int .i64 q] 24) := sI
  have S3 : Hid (Sits w3 P #[.slice x3 4 c3] ty) := sP
  have O3 : Hid _ := oP
  have B' : Hid (Bar P (w.heap.size + 1) W w3) := Bar.trans B.out bP
  clear B sP oP bP sI S2 O2 I2
  have B := B'
  clear B'
  go_wp2_with fail
  refine (put_any P (w.heap.size + 1) x3 4 c3 _ _ 2 ty _ (by omega) (by have := B.out.size; omega) S3.out O3.out (by omega) (by omega) (by omega) (by omega)).mono ?_
  rintro r w4 ⟨rfl, x4, c4, sP, oP, bP⟩
  have sI := (Bar.block bP w.heap.size (by omega) (by omega)).trans I3.out
  clear i0 i1 i2 i3 i4 i5 i6
  obtain ⟨i0, i1, i2, i3, i4, i5, i6⟩ := ip_cells (show Sits w4 w.heap.size _ _ from sI)
  have I4 : Hid (Sits w4 w.heap.size #[.int .i64 d, .int .i64 e, .int .i64 i, .int .i64 t, .int .i64 p, .int .i64 s, .int .i64 q] 24) := sI
  have S4 : Hid (Sits w4 P #[.slice x4 6 c4] ty) := sP
  have O4 : Hid _ := oP
  have B' : Hid (Bar P (w.heap.size + 1) W w4) := Bar.trans B.out bP
  clear B sP oP bP sI S3 O3 I3
  have B := B'
  clear B'
  go_wp2_with fail
  refine (put_any P (w.heap.size + 1) x4 6 c4 _ _ 2 ty _ (by omega) (by have := B.out.size; omega) S4.out O4.out (by omega) (by omega) (by omega) (by omega)).mono ?_
  rintro r w5 ⟨rfl, x5, c5, sP, oP, bP⟩
  have sI := (Bar.block bP w.heap.size (by omega) (by omega)).trans I4.out
  clear i0 i1 i2 i3 i4 i5 i6
  obtain ⟨i0, i1, i2, i3, i4, i5, i6⟩ := ip_cells (show Sits w5 w.heap.size _ _ from sI)
  have I5 : Hid (Sits w5 w.heap.size #[.int .i64 d, .int .i64 e, .int .i64 i, .int .i64 t, .int .i64 p, .int .i64 s, .int .i64 q] 24) := sI
  have S5 : Hid (Sits w5 P #[.slice x5 8 c5] ty) := sP
  have O5 : Hid _ := oP
  have B' : Hid (Bar P (w.heap.size + 1) W w5) := Bar.trans B.out bP
  clear B sP oP bP sI S4 O4 I4
  have B := B'
  clear B'
  go_wp2_with fail
  refine (put_any P (w.heap.size + 1) x5 8 c5 _ _ 1 ty _ (by omega) (by have := B.out.size; omega) S5.out O5.out (by omega) (by omega) (by omega) (by omega)).mono ?_
  rintro r w6 ⟨rfl, x6, c6, sP, oP, bP⟩
  have sI := (Bar.block bP w.heap.size (by omega) (by omega)).trans I5.out
  clear i0 i1 i2 i3 i4 i5 i6
  obtain ⟨i0, i1, i2, i3, i4, i5, i6⟩ := ip_cells (show Sits w6 w.heap.size _ _ from sI)
  have I6 : Hid (Sits w6 w.heap.size #[.int .i64 d, .int .i64 e, .int .i64 i, .int .i64 t, .int .i64 p, .int .i64 s, .int .i64 q] 24) := sI
  have S6 : Hid (Sits w6 P #[.slice x6 9 c6] ty) := sP
  have O6 : Hid _ := oP
  have B' : Hid (Bar P (w.heap.size + 1) W w6) := Bar.trans B.out bP
  clear B sP oP bP sI S5 O5 I5
  have B := B'
  clear B'
  go_wp2_with fail
  refine (put_any P (w.heap.size + 1) x6 9 c6 _ _ 1 ty _ (by omega) (by have := B.out.size; omega) S6.out O6.out (by omega) (by omega) (by omega) (by omega)).mono ?_
  rintro r w7 ⟨rfl, x7, c7, sP, oP, bP⟩
  have sI := (Bar.block bP w.heap.size (by omega) (by omega)).trans I6.out
  clear i0 i1 i2 i3 i4 i5 i6
  obtain ⟨i0, i1, i2, i3, i4, i5, i6⟩ := ip_cells (show Sits w7 w.heap.size _ _ from sI)
  have I7 : Hid (Sits w7 w.heap.size #[.int .i64 d, .int .i64 e, .int .i64 i, .int .i64 t, .int .i64 p, .int .i64 s, .int .i64 q] 24) := sI
  have S7 : Hid (Sits w7 P #[.slice x7 10 c7] ty) := sP
  have O7 : Hid _ := oP
  have B' : Hid (Bar P (w.heap.size + 1) W w7) := Bar.trans B.out bP
  clear B sP oP bP sI S6 O6 I6
  have B := B'
  clear B'
  go_wp2_with fail
  refine (put_any P (w.heap.size + 1) x7 10 c7 _ _ 2 ty _ (by omega) (by have := B.out.size; omega) S7.out O7.out (by omega) (by omega) (by omega) (by omega)).mono ?_
  rintro r w8 ⟨rfl, x8, c8, sP, oP, bP⟩
  have sI := (Bar.block bP w.heap.size (by omega) (by omega)).trans I7.out
  clear i0 i1 i2 i3 i4 i5 i6
  obtain ⟨i0, i1, i2, i3, i4, i5, i6⟩ := ip_cells (show Sits w8 w.heap.size _ _ from sI)
  have I8 : Hid (Sits w8 w.heap.size #[.int .i64 d, .int .i64 e, .int .i64 i, .int .i64 t, .int .i64 p, .int .i64 s, .int .i64 q] 24) := sI
  have S8 : Hid (Sits w8 P #[.slice x8 12 c8] ty) := sP
  have O8 : Hid _ := oP
  have B' : Hid (Bar P (w.heap.size + 1) W w8) := Bar.trans B.out bP
  clear B sP oP bP sI S7 O7 I7
  have B := B'
  clear B'
  go_wp2_with fail
  refine (put_any P (w.heap.size + 1) x8 12 c8 _ _ 4 ty _ (by omega) (by have := B.out.size; omega) S8.out O8.out (by omega) (by omega) (by omega) (by omega)).mono ?_
  rintro r w9 ⟨rfl, x9, c9, sP, oP, bP⟩
  have sI := (Bar.block bP w.heap.size (by omega) (by omega)).trans I8.out
  clear i0 i1 i2 i3 i4 i5 i6
  obtain ⟨i0, i1, i2, i3, i4, i5, i6⟩ := ip_cells (show Sits w9 w.heap.size _ _ from sI)
  have I9 : Hid (Sits w9 w.heap.size #[.int .i64 d, .int .i64 e, .int .i64 i, .int .i64 t, .int .i64 p, .int .i64 s, .int .i64 q] 24) := sI
  have S9 : Hid (Sits w9 P #[.slice x9 16 c9] ty) := sP
  have O9 : Hid _ := oP
  have B' : Hid (Bar P (w.heap.size + 1) W w9) := Bar.trans B.out bP
  clear B sP oP bP sI S8 O8 I8
  have B := B'
  clear B'
  go_wp2_with fail
  refine (put_any P (w.heap.size + 1) x9 16 c9 _ _ 4 ty _ (by omega) (by have := B.out.size; omega) S9.out O9.out (by omega) (by omega) (by omega) (by omega)).mono ?_
  rintro r w10 ⟨rfl, x10, c10, sP, oP, bP⟩
  have sI := (Bar.block bP w.heap.size (by omega) (by omega)).trans I9.out
  clear i0 i1 i2 i3 i4 i5 i6
  obtain ⟨i0, i1, i2, i3, i4, i5, i6⟩ := ip_cells (show Sits w10 w.heap.size _ _ from sI)
  have I10 : Hid (Sits w10 w.heap.size #[.int .i64 d, .int .i64 e, .int .i64 i, .int .i64 t, .int .i64 p, .int .i64 s, .int .i64 q] 24) := sI
  have S10 : Hid (Sits w10 P #[.slice x10 20 c10] ty) := sP
  have O10 : Hid _ := oP
  have B' : Hid (Bar P (w.heap.size + 1) W w10) := Bar.trans B.out bP
  clear B sP oP bP sI S9 O9 I9
  have B := B'
  clear B'
  go_wp2_with fail
  go_end0
  refine ⟨rfl, x10, c10, S10.out, BO.mono (show BO (w.heap.size + 1) _ _ _ _ _ from O10.out) (by omega), Bar.trans HB.out ⟨B.out.os, B.out.tape, B.out.output, B.out.size, fun k hk hn => B.out.block k (by omega) hn⟩⟩

end Go.Proofs.Ytkhfcemjmnjkdaa
