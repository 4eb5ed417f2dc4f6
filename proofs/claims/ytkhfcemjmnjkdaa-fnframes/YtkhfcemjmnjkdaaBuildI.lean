/-
  THE PROGRAM's Build.
-/
import Derived.Test.YtkhfcemjmnjkdaaHead
import Derived.Test.YtkhfcemjmnjkdaaAppByN
import Derived.Test.YtkhfcemjmnjkdaaFrOk
import Derived.Test.YtkhfcemjmnjkdaaISum
import Derived.Deep.Cut
namespace Go.Proofs.Ytkhfcemjmnjkdaa
open Go.RowKit
set_option linter.unusedVariables false

/-- A frame's first 24 bytes, with this sum. -/
def wireF (r : Fr) (n : Nat) (sum : Int) : Nat → Int := putF (putF (headF r.dscp r.ecn (24 + n) r.id r.ttl r.proto sum r.src r.dst) 20 r.srcP 2) 22 r.dstP 2
/-- The sum of its head. -/
def wsumF (r : Fr) (n : Nat) : Int := 65535 - sumF (headF r.dscp r.ecn (24 + n) r.id r.ttl r.proto 0 r.src r.dst) 20
/-- A frame's bytes. -/
def buildF (r : Fr) (n : Nat) (g : Nat → Int) : Nat → Int := joinF (wireF r n (wsumF r n)) 24 g

theorem fr_cells {W : World} {B : Nat} {a b c d e f g h i j : Value} {t : TypeId} (k : Sits W B #[a, b, c, d, e, f, g, h, i, j] t) : W.cell? ⟨B, 0, none⟩ = some a ∧ W.cell? ⟨B, 1, none⟩ = some b ∧ W.cell? ⟨B, 2, none⟩ = some c ∧ W.cell? ⟨B, 3, none⟩ = some d ∧ W.cell? ⟨B, 4, none⟩ = some e ∧ W.cell? ⟨B, 5, none⟩ = some f ∧ W.cell? ⟨B, 6, none⟩ = some g ∧ W.cell? ⟨B, 7, none⟩ = some h ∧ W.cell? ⟨B, 8, none⟩ = some i ∧ W.cell? ⟨B, 9, none⟩ = some j := ⟨k.cell 0, k.cell 1, k.cell 2, k.cell 3, k.cell 4, k.cell 5, k.cell 6, k.cell 7, k.cell 8, k.cell 9⟩
theorem good_bd {r : Fr} {n : Nat} (h : r.good n = true) : (0 ≤ r.dscp ∧ r.dscp ≤ 63) ∧ (0 ≤ r.ecn ∧ r.ecn ≤ 3) ∧ (0 ≤ r.id ∧ r.id ≤ 65535) ∧ (0 ≤ r.ttl ∧ r.ttl ≤ 255) ∧ (0 ≤ r.proto ∧ r.proto ≤ 255) ∧ (0 ≤ r.src ∧ r.src ≤ 4294967295) ∧ (0 ≤ r.dst ∧ r.dst ≤ 4294967295) ∧ (0 ≤ r.srcP ∧ r.srcP ≤ 65535) ∧ (0 ≤ r.dstP ∧ r.dstP ≤ 65535) ∧ n ≤ 76 := by
  simp [Fr.good, flB, okB] at h
  omega
theorem putF_byt {f : Nat → Int} {m s : Nat} {v : Int} (h : Byt m f) : Byt (m + s) (putF f m v s) := by
  intro i hi
  unfold putF
  split
  · next hlt => exact h i hlt
  · omega
theorem headF_byt (d e len i t p sum s q : Int) : Byt 20 (headF d e len i t p sum s q) :=
  putF_byt (m := 16) (s := 4) (putF_byt (m := 12) (s := 4) (putF_byt (m := 10) (s := 2) (putF_byt (m := 9) (s := 1) (putF_byt (m := 8) (s := 1) (putF_byt (m := 6) (s := 2) (putF_byt (m := 4) (s := 2) (putF_byt (m := 2) (s := 2) (putF_byt (m := 1) (s := 1) (putF_byt (m := 0) (s := 1) (fun i hi => absurd hi (Nat.not_lt_zero _)))))))))))
theorem sumF_bd {f : Nat → Int} {n : Nat} (h : Byt n f) : 0 ≤ sumF f n ∧ sumF f n ≤ 65535 := foldF_bd _ (pairsF_bd f n h _ (by omega)).1

set_option maxRecDepth 100000 in
set_option maxHeartbeats 4000000 in
theorem ibuild_yes (r : Fr) (a : Option Addr) (n c : Nat) (g : Nat → Int) (w : World) (hr : r.In) (hn : (n : Int) ≤ 9223372036854775807) (hg : r.good n = true) (hd : Row .u8 w a n g) :
    Calls Try.prog 5 #[r.val a n c] w fun e w' => ∃ (x : Option Addr) (cx : Nat), e = .returned (.tuple #[.slice x (24 + n) cx, .bool true]) ∧ BO w.heap.size w' x (24 + n) cx (buildF r n g) ∧ Below w.heap.size w w' := by
  obtain ⟨bd, be, bi, bt, bp, bs, bq, bsp, bdp, bn⟩ := good_bd hg
  have hsum := sumF_bd (headF_byt r.dscp r.ecn (24 + n) r.id r.ttl r.proto 0 r.src r.dst)
  obtain ⟨S, hS⟩ : ∃ S, wsumF r n = S := ⟨_, rfl⟩
  have bS : 0 ≤ S ∧ S ≤ 65535 := by rw [← hS]; unfold wsumF; omega
  have HB : Hid (buildF r n g = joinF (wireF r n S) 24 g) := by show _ = _; unfold buildF; rw [hS]
  have HSm : Hid (65535 - sumF (headF r.dscp r.ecn (24 + n) r.id r.ttl r.proto 0 r.src r.dst) 20 = S) := hS
  have HD : Hid (Row .u8 w a n g) := hd
  have HG : Hid (r.good n = true) := hg
  have HI : Hid r.In := hr
  clear hS hd hg hr hsum
  obtain ⟨d, e, i, t, p, s, q, sp, dp⟩ := r
  dsimp only at bd be bi bt bp bs bq bsp bdp HSm
  obtain ⟨W, hW⟩ : ∃ W, w.alloc (.cells #[.int .i64 d, .int .i64 e, .int .i64 i, .int .i64 t, .int .i64 p, .int .i64 s, .int .i64 q, .int .i64 sp, .int .i64 dp, .slice a n c] 26) = W := ⟨_, rfl⟩
  have B : Below w.heap.size w W := by rw [← hW]; exact (Below.refl _ _).alloc (Nat.le_refl _) _
  have sF : Sits W w.heap.size #[.int .i64 d, .int .i64 e, .int .i64 i, .int .i64 t, .int .i64 p, .int .i64 s, .int .i64 q, .int .i64 sp, .int .i64 dp, .slice a n c] 26 := by rw [← hW]; exact Sits.new _ _ _
  obtain ⟨f0, f1, f2, f3, f4, f5, f6, f7, f8, f9⟩ := fr_cells sF
  have F0 : Hid (Sits W w.heap.size #[.int .i64 d, .int .i64 e, .int .i64 i, .int .i64 t, .int .i64 p, .int .i64 s, .int .i64 q, .int .i64 sp, .int .i64 dp, .slice a n c] 26) := sF
  clear sF
  go_enter Try.func5, Try.ntmps5
  go_wp2_with fail
  clear hW
  refine (iframeOk_any ⟨d, e, i, t, p, s, q, sp, dp⟩ a n c _ HI.out hn).mono ?_
  rintro o w1 ⟨rfl, b1⟩
  rw [HG.out]
  have F1 : Hid (Sits w1 w.heap.size #[.int .i64 d, .int .i64 e, .int .i64 i, .int .i64 t, .int .i64 p, .int .i64 s, .int .i64 q, .int .i64 sp, .int .i64 dp, .slice a n c] 26) := Sits.below F0.out b1 (Sits.lt F0.out)
  replace B := B.trans (b1.mono B.size)
  clear f0 f1 f2 f3 f4 f5 f6 f7 f8 f9 b1 F0
  obtain ⟨f0, f1, f2, f3, f4, f5, f6, f7, f8, f9⟩ := fr_cells F1.out
  have l1 := Sits.lt F1.out
  go_wp2_with fail
  obtain ⟨D, hD⟩ : ∃ D, w1.heap.size = D := ⟨_, rfl⟩
  obtain ⟨U, hU⟩ : ∃ U, (w1.alloc (.cells #[.slice none 0 0] 41)).alloc (.cells #[.slice none 0 0] 41) = U := ⟨_, rfl⟩
  have hUs : U.heap.size = D + 2 := by rw [← hU, ← hD]; simp
  have F2 : Sits U w.heap.size #[.int .i64 d, .int .i64 e, .int .i64 i, .int .i64 t, .int .i64 p, .int .i64 s, .int .i64 q, .int .i64 sp, .int .i64 dp, .slice a n c] 26 := by rw [← hU]; exact (Sits.alloc F1.out _).alloc _
  have sD : Sits U D #[.slice none 0 0] 41 := by rw [← hU]; exact (Sits.new' hD).alloc _
  have sE : Sits U (D + 1) #[.slice none 0 0] 41 := by rw [← hU]; exact Sits.new' (by simp [hD])
  replace B : Below w.heap.size w U := by rw [← hU]; exact (B.alloc B.size _).alloc (by have := B.size; simp; omega) _
  rw [hU, hD]
  rw [hD] at l1
  clear hU hD f0 f1 f2 f3 f4 f5 f6 f7 f8 f9 F1
  refine (putHead_any D d e i t p s q (24 + n) 0 41 U (by omega) sD bd be bi bt bp bs bq (by omega) (by omega)).mono ?_
  rintro o w2 ⟨rfl, x1, c1, sD2, oD, bar⟩
  have F3 : Sits w2 w.heap.size #[.int .i64 d, .int .i64 e, .int .i64 i, .int .i64 t, .int .i64 p, .int .i64 s, .int .i64 q, .int .i64 sp, .int .i64 dp, .slice a n c] 26 := (bar.block w.heap.size (by omega) (by omega)).trans F2
  have sE2 : Sits w2 (D + 1) #[.slice none 0 0] 41 := (bar.block (D + 1) (by omega) (by omega)).trans sE
  replace B := B.trans (bar.below (by omega) (by omega))
  have z2 := bar.size
  clear bar F2 sD sE
  obtain ⟨f0, f1, f2, f3, f4, f5, f6, f7, f8, f9⟩ := fr_cells F3
  have d0 : w2.cell? ⟨D, 0, none⟩ = some (.slice x1 20 c1) := sD2.cell 0
  have FF : Hid (Sits w2 w.heap.size #[.int .i64 d, .int .i64 e, .int .i64 i, .int .i64 t, .int .i64 p, .int .i64 s, .int .i64 q, .int .i64 sp, .int .i64 dp, .slice a n c] 26) := F3
  have SE : Hid (Sits w2 (D + 1) #[.slice none 0 0] 41) := sE2
  have RD : Hid (Row .u8 w2 x1 20 (headF d e (24 + n) i t p 0 s q)) := oD.fresh.row
  clear F3 sD2 oD sE2
  go_wp2_with fail
  have lE := Sits.lt SE.out
  go_cut [] from 10 (fun wx => ∃ (x2 : Option Addr) (c2 : Nat), Sits wx (D + 1) #[.slice x2 20 c2] 41 ∧ BO w2.heap.size wx x2 20 c2 (headF d e (24 + n) i t p S s q) ∧ Bar (D + 1) w2.heap.size w2 wx)
  case first =>
    go_region_with (first | (go_at_call 10; refine (isum_any x1 20 c1 (headF d e (24 + n) i t p 0 s q) w2.drew RD.out (headF_byt _ _ _ _ _ _ _ _ _) (by omega)).mono ?_; rintro o w3 ⟨rfl, rfl⟩; rw [HSm.out]) | (go_at_call 14; refine (putHead_any (D + 1) d e i t p s q (24 + n) S 41 w2.drew lE (Sits.drew SE.out) bd be bi bt bp bs bq (by omega) bS).mono ?_; rintro o w3 ⟨rfl, x2, c2, sE3, oE, bar⟩))
    all_goals
      (go_wp2_with fail)
      go_meet
      case rel => exact ⟨x2, c2, sE3, oE, ⟨bar.os, bar.tape, bar.output, bar.size, bar.block⟩⟩
  obtain ⟨x2, c2, sE3, oE, bar⟩ := hcut
  have F4 : Sits wc w.heap.size #[.int .i64 d, .int .i64 e, .int .i64 i, .int .i64 t, .int .i64 p, .int .i64 s, .int .i64 q, .int .i64 sp, .int .i64 dp, .slice a n c] 26 := (bar.block w.heap.size (by omega) (by omega)).trans FF.out
  replace B := B.trans (bar.below (by omega) (by omega))
  have z3 := bar.size
  clear f0 f1 f2 f3 f4 f5 f6 f7 f8 f9 d0 FF SE RD HSm bar
  obtain ⟨f0, f1, f2, f3, f4, f5, f6, f7, f8, f9⟩ := fr_cells F4
  go_wp2_with fail
  refine (put_any (D + 1) w2.heap.size x2 20 c2 _ sp 2 41 wc (by omega) (by omega) sE3 oE (by omega) (by omega) (by omega) (by omega)).mono ?_
  rintro o w4 ⟨rfl, x3, c3, sE4, oE4, bar⟩
  have F5 : Sits w4 w.heap.size #[.int .i64 d, .int .i64 e, .int .i64 i, .int .i64 t, .int .i64 p, .int .i64 s, .int .i64 q, .int .i64 sp, .int .i64 dp, .slice a n c] 26 := (bar.block w.heap.size (by omega) (by omega)).trans F4
  replace B := B.trans (bar.below (by omega) (by omega))
  have z4 := bar.size
  clear f0 f1 f2 f3 f4 f5 f6 f7 f8 f9 F4 bar sE3 oE
  obtain ⟨f0, f1, f2, f3, f4, f5, f6, f7, f8, f9⟩ := fr_cells F5
  go_wp2_with fail
  refine (put_any (D + 1) w2.heap.size x3 22 c3 _ dp 2 41 w4 (by omega) (by omega) sE4 oE4 (by omega) (by omega) (by omega) (by omega)).mono ?_
  rintro o w5 ⟨rfl, x4, c4, sE5, oE5, bar⟩
  have F6 : Sits w5 w.heap.size #[.int .i64 d, .int .i64 e, .int .i64 i, .int .i64 t, .int .i64 p, .int .i64 s, .int .i64 q, .int .i64 sp, .int .i64 dp, .slice a n c] 26 := (bar.block w.heap.size (by omega) (by omega)).trans F5
  replace B := B.trans (bar.below (by omega) (by omega))
  have z5 := bar.size
  clear f0 f1 f2 f3 f4 f5 f6 f7 f8 f9 F5 bar sE4 oE4
  obtain ⟨f0, f1, f2, f3, f4, f5, f6, f7, f8, f9⟩ := fr_cells F6
  have e0 : w5.cell? ⟨D + 1, 0, none⟩ = some (.slice x4 24 c4) := sE5.cell 0
  have OE : Hid (BO w2.heap.size w5 x4 24 c4 (wireF ⟨d, e, i, t, p, s, q, sp, dp⟩ n S)) := oE5
  have RD : Hid (Row .u8 w5 a n g) := Row.below HD.out B
  clear F6 sE5 oE5 HD
  go_wp2_with (at_builtin; refine wpList_append_byN rfl _ _ rfl w2.heap.size x4 24 c4 _ rfl OE.out a n c g rfl RD.out (by omega) (by omega) ?_; intro x5 c5 w6 hbo hgr)
  go_ret2
  exact ⟨x5, c5, rfl, by rw [HB.out]; exact hbo.mono (by omega), B.grown hgr (by omega) (fun k ek => Nat.le_trans (by omega) (BO.own_lt OE.out k ek).1)⟩

end Go.Proofs.Ytkhfcemjmnjkdaa
