/-
  WHAT l2draw ANSWERS: whatever the bytes are, a frame that is well, its data in memory of its own.
-/
import Derived.Test.YtkhfcemjmnjkdaaStepB
import Derived.Test.YtkhfcemjmnjkdaaAppBy
import Derived.Test.YtkhfcemjmnjkdaaFrOk
namespace Go.Proofs.Ytkhfcemjmnjkdaa
open Go.RowKit
set_option linter.unusedVariables false

theorem fr_cells' {W : World} {B : Nat} {a b c d e f g h i j : Value} {t : TypeId} (k : Sits W B #[a, b, c, d, e, f, g, h, i, j] t) : W.cell? ⟨B, 0, none⟩ = some a ∧ W.cell? ⟨B, 1, none⟩ = some b ∧ W.cell? ⟨B, 2, none⟩ = some c ∧ W.cell? ⟨B, 3, none⟩ = some d ∧ W.cell? ⟨B, 4, none⟩ = some e ∧ W.cell? ⟨B, 5, none⟩ = some f ∧ W.cell? ⟨B, 6, none⟩ = some g ∧ W.cell? ⟨B, 7, none⟩ = some h ∧ W.cell? ⟨B, 8, none⟩ = some i ∧ W.cell? ⟨B, 9, none⟩ = some j := ⟨k.cell 0, k.cell 1, k.cell 2, k.cell 3, k.cell 4, k.cell 5, k.cell 6, k.cell 7, k.cell 8, k.cell 9⟩
theorem cell_new0 (w : World) (u : Value) (t : TypeId) : (w.alloc (.cells #[u] t)).cell? ⟨w.heap.size, 0, none⟩ = some u := by simp
theorem okB_in {x k : Int} (h0 : 0 ≤ x) (h1 : x < 2 ^ k.toNat) : okB x k = true := by unfold okB; exact decide_eq_true ⟨h0, h1⟩
theorem only_below {B C : Nat} {a w w' : World} (h : Only B a w) (hb : Below C w w') (hC : a.heap.size ≤ C) : Only B a w' :=
  ⟨hb.os.trans h.os, hb.tape.trans h.tape, hb.output.trans h.output, Nat.le_trans h.size hb.size, fun k hk hn => (hb.block k (by omega)).trans (h.block k hk hn)⟩
theorem cur_below {B C : Nat} {w w' : World} {a : Option Addr} {len cap : Nat} (h : Cur w B a len cap) (hb : Below C w w') (hC : B < C) : Cur w' B a len cap := by
  obtain ⟨hB, hl, ⟨i, k, i0, i1, c0, c1, c2⟩, f1, f2, hcode⟩ := h
  have e : ∀ b x, b < C → w'.cell? ⟨b, x, none⟩ = w.cell? ⟨b, x, none⟩ := fun b x hbC => hb.cell (p := ⟨b, x, none⟩) hbC
  have f : ∀ b x, b < C → w'.frozen? ⟨b, x, none⟩ = w.frozen? ⟨b, x, none⟩ := fun b x hbC => hb.frozen (p := ⟨b, x, none⟩) hbC
  exact ⟨Nat.lt_of_lt_of_le hB hb.size, hl, ⟨i, k, i0, i1, (e _ _ hC).trans c0, (e _ _ hC).trans c1, (e _ _ hC).trans c2⟩, (f _ _ hC).trans f1, (f _ _ hC).trans f2, hcode.move fun b x hbB => e b x (by omega)⟩
theorem fr_store {W : World} {B : Nat} {t : TypeId} {a0 a1 a2 a3 a4 a5 a6 a7 a8 a9 v0 v1 v2 v3 v4 v5 v6 v7 v8 v9 : Value} (h : Sits W B #[a0, a1, a2, a3, a4, a5, a6, a7, a8, a9] t) : Sits ((((((((((W.setCell ⟨B, 0, none⟩ v0).setCell ⟨B, 1, none⟩ v1).setCell ⟨B, 2, none⟩ v2).setCell ⟨B, 3, none⟩ v3).setCell ⟨B, 4, none⟩ v4).setCell ⟨B, 5, none⟩ v5).setCell ⟨B, 6, none⟩ v6).setCell ⟨B, 7, none⟩ v7).setCell ⟨B, 8, none⟩ v8).setCell ⟨B, 9, none⟩ v9) B #[v0, v1, v2, v3, v4, v5, v6, v7, v8, v9] t := by
  have h0 : Sits (W.setCell ⟨B, 0, none⟩ v0) B #[v0, a1, a2, a3, a4, a5, a6, a7, a8, a9] t := h.set 0 v0
  have h1 : Sits ((W.setCell ⟨B, 0, none⟩ v0).setCell ⟨B, 1, none⟩ v1) B #[v0, v1, a2, a3, a4, a5, a6, a7, a8, a9] t := h0.set 1 v1
  have h2 : Sits (((W.setCell ⟨B, 0, none⟩ v0).setCell ⟨B, 1, none⟩ v1).setCell ⟨B, 2, none⟩ v2) B #[v0, v1, v2, a3, a4, a5, a6, a7, a8, a9] t := h1.set 2 v2
  have h3 : Sits ((((W.setCell ⟨B, 0, none⟩ v0).setCell ⟨B, 1, none⟩ v1).setCell ⟨B, 2, none⟩ v2).setCell ⟨B, 3, none⟩ v3) B #[v0, v1, v2, v3, a4, a5, a6, a7, a8, a9] t := h2.set 3 v3
  have h4 : Sits (((((W.setCell ⟨B, 0, none⟩ v0).setCell ⟨B, 1, none⟩ v1).setCell ⟨B, 2, none⟩ v2).setCell ⟨B, 3, none⟩ v3).setCell ⟨B, 4, none⟩ v4) B #[v0, v1, v2, v3, v4, a5, a6, a7, a8, a9] t := h3.set 4 v4
  have h5 : Sits ((((((W.setCell ⟨B, 0, none⟩ v0).setCell ⟨B, 1, none⟩ v1).setCell ⟨B, 2, none⟩ v2).setCell ⟨B, 3, none⟩ v3).setCell ⟨B, 4, none⟩ v4).setCell ⟨B, 5, none⟩ v5) B #[v0, v1, v2, v3, v4, v5, a6, a7, a8, a9] t := h4.set 5 v5
  have h6 : Sits (((((((W.setCell ⟨B, 0, none⟩ v0).setCell ⟨B, 1, none⟩ v1).setCell ⟨B, 2, none⟩ v2).setCell ⟨B, 3, none⟩ v3).setCell ⟨B, 4, none⟩ v4).setCell ⟨B, 5, none⟩ v5).setCell ⟨B, 6, none⟩ v6) B #[v0, v1, v2, v3, v4, v5, v6, a7, a8, a9] t := h5.set 6 v6
  have h7 : Sits ((((((((W.setCell ⟨B, 0, none⟩ v0).setCell ⟨B, 1, none⟩ v1).setCell ⟨B, 2, none⟩ v2).setCell ⟨B, 3, none⟩ v3).setCell ⟨B, 4, none⟩ v4).setCell ⟨B, 5, none⟩ v5).setCell ⟨B, 6, none⟩ v6).setCell ⟨B, 7, none⟩ v7) B #[v0, v1, v2, v3, v4, v5, v6, v7, a8, a9] t := h6.set 7 v7
  have h8 : Sits (((((((((W.setCell ⟨B, 0, none⟩ v0).setCell ⟨B, 1, none⟩ v1).setCell ⟨B, 2, none⟩ v2).setCell ⟨B, 3, none⟩ v3).setCell ⟨B, 4, none⟩ v4).setCell ⟨B, 5, none⟩ v5).setCell ⟨B, 6, none⟩ v6).setCell ⟨B, 7, none⟩ v7).setCell ⟨B, 8, none⟩ v8) B #[v0, v1, v2, v3, v4, v5, v6, v7, v8, a9] t := h7.set 8 v8
  have h9 : Sits ((((((((((W.setCell ⟨B, 0, none⟩ v0).setCell ⟨B, 1, none⟩ v1).setCell ⟨B, 2, none⟩ v2).setCell ⟨B, 3, none⟩ v3).setCell ⟨B, 4, none⟩ v4).setCell ⟨B, 5, none⟩ v5).setCell ⟨B, 6, none⟩ v6).setCell ⟨B, 7, none⟩ v7).setCell ⟨B, 8, none⟩ v8).setCell ⟨B, 9, none⟩ v9) B #[v0, v1, v2, v3, v4, v5, v6, v7, v8, v9] t := h8.set 9 v9
  exact h9
theorem ret_fr {fn : Func} {tmps : Array Value} {W : World} {i B : Nat} {r : Fr} {x : Option Addr} {m c : Nat} {t : TypeId} (hr : fn.results = #[.cell i 26]) (hi : tmps[i]?.getD undef = .pointer (some ⟨B, 0, none⟩)) (hs : Sits W B #[.int .i64 r.dscp, .int .i64 r.ecn, .int .i64 r.id, .int .i64 r.ttl, .int .i64 r.proto, .int .i64 r.src, .int .i64 r.dst, .int .i64 r.srcP, .int .i64 r.dstP, .slice x m c] t) : (results fn tmps).run Try.prog W = .ok (r.val x m c) W := by
  obtain ⟨c0, c1, c2, c3, c4, c5, c6, c7, c8, c9⟩ := fr_cells' hs
  simp [results, hr, hi, go_sem, c0, c1, c2, c3, c4, c5, c6, c7, c8, c9]
theorem BO.only {base : Nat} {w w' : World} {x : Option Addr} {m cap B : Nat} {f : Nat → Int} (h : BO base w x m cap f) (ho : Only B w w') (hB : B < base) : BO base w' x m cap f := by
  obtain ⟨hl, ⟨hv, h0⟩ | ⟨g, cp, cur, hv, hbs, hh, h1, h2, h3, h4⟩⟩ := h
  · exact ⟨hl, .inl ⟨hv, h0⟩⟩
  · exact ⟨hl, .inr ⟨g, cp, cur, hv, hbs, (ho.block g (Array.getElem?_eq_some_iff.1 hh).1 (by omega)).trans hh, h1, h2, h3, h4⟩⟩

set_option maxRecDepth 100000 in
set_option maxHeartbeats 2000000 in
theorem l2draw_any (B : Nat) (a : Option Addr) (len cap : Nat) (w : World) (hc : Cur w B a len cap) :
    Calls Try.prog 23 #[.pointer (some ⟨B, 0, none⟩)] w fun e w' => ∃ (r : Fr) (x : Option Addr) (m c : Nat) (g : Nat → Int), e = .returned (r.val x m c) ∧ r.good m = true ∧ m ≤ 8 ∧ BO w.heap.size w' x m c g ∧ Byt m g ∧ Cur w' B a len cap ∧ Only B w w' := by
  have hB := hc.1
  obtain ⟨F, hF⟩ : ∃ F, w.heap.size = F := ⟨_, rfl⟩
  rw [hF] at hB
  obtain ⟨w0, hW⟩ : ∃ W, w.alloc (.cells #[.int .i64 0, .int .i64 0, .int .i64 0, .int .i64 0, .int .i64 0, .int .i64 0, .int .i64 0, .int .i64 0, .int .i64 0, .slice none 0 0] 26) = W := ⟨_, rfl⟩
  have Z0 : Hid (Sits w0 F #[.int .i64 0, .int .i64 0, .int .i64 0, .int .i64 0, .int .i64 0, .int .i64 0, .int .i64 0, .int .i64 0, .int .i64 0, .slice none 0 0] 26) := by show Sits _ _ _ _; rw [← hW]; exact Sits.new' hF
  have O0 : Hid (Only B w w0) := by show Only _ _ _; rw [← hW]; exact (Only.refl B w).alloc _
  have C0 : Hid (Cur w0 B a len cap) := by show Cur _ _ _ _ _; rw [← hW]; exact hc.alloc _ _
  have l0 := Sits.lt Z0.out
  clear hc
  go_enter Try.func23, Try.ntmps23
  go_wp2_with fail
  clear hW
  refine (pick4q (fun x => 0 ≤ x ∧ x ≤ 63) B a len cap _ (Cur.alloc C0.out _ _) _ _ _ _ _ _ (Sits.new' rfl) (by omega) ⟨by omega, by omega⟩ ⟨by omega, by omega⟩ ⟨by omega, by omega⟩ ⟨by omega, by omega⟩).mono ?_
  rintro o w1 ⟨ds, rfl, ⟨ds0, ds1⟩, cc, oo⟩
  have Z1 : Hid (Sits w1 F #[.int .i64 0, .int .i64 0, .int .i64 0, .int .i64 0, .int .i64 0, .int .i64 0, .int .i64 0, .int .i64 0, .int .i64 0, .slice none 0 0] 26) := Sits.only (Sits.alloc Z0.out _) oo (by omega)
  have O1 : Hid (Only B w w1) := Only.trans (Only.alloc O0.out _) oo
  have C1 : Hid (Cur w1 B a len cap) := cc
  have l1 := Sits.lt Z1.out
  clear cc oo Z0 O0 C0 l0
  go_wp2_with fail
  refine (below_any B a len cap _ C1.out 4 (by omega) (by omega)).mono ?_
  rintro o w2 ⟨ec, rfl, ec0, ec1, cc, oo⟩
  have Z2 : Hid (Sits w2 F #[.int .i64 0, .int .i64 0, .int .i64 0, .int .i64 0, .int .i64 0, .int .i64 0, .int .i64 0, .int .i64 0, .int .i64 0, .slice none 0 0] 26) := Sits.only Z1.out oo (by omega)
  have O2 : Hid (Only B w w2) := Only.trans O1.out oo
  have C2 : Hid (Cur w2 B a len cap) := cc
  have l2 := Sits.lt Z2.out
  clear cc oo Z1 O1 C1 l1
  go_wp2_with fail
  refine (below_any B a len cap _ C2.out 65536 (by omega) (by omega)).mono ?_
  rintro o w3 ⟨j1, rfl, j10, j11, cc, oo⟩
  have Z3 : Hid (Sits w3 F #[.int .i64 0, .int .i64 0, .int .i64 0, .int .i64 0, .int .i64 0, .int .i64 0, .int .i64 0, .int .i64 0, .int .i64 0, .slice none 0 0] 26) := Sits.only Z2.out oo (by omega)
  have O3 : Hid (Only B w w3) := Only.trans O2.out oo
  have C3 : Hid (Cur w3 B a len cap) := cc
  have l3 := Sits.lt Z3.out
  clear cc oo Z2 O2 C2 l2
  go_wp2_with fail
  refine (pick4q (fun x => 0 ≤ x ∧ x ≤ 65535) B a len cap _ (Cur.alloc C3.out _ _) _ _ _ _ _ _ (Sits.new' rfl) (by omega) ⟨by omega, by omega⟩ ⟨by omega, by omega⟩ ⟨by omega, by omega⟩ ⟨by omega, by omega⟩).mono ?_
  rintro o w4 ⟨id, rfl, ⟨id0, id1⟩, cc, oo⟩
  have Z4 : Hid (Sits w4 F #[.int .i64 0, .int .i64 0, .int .i64 0, .int .i64 0, .int .i64 0, .int .i64 0, .int .i64 0, .int .i64 0, .int .i64 0, .slice none 0 0] 26) := Sits.only (Sits.alloc Z3.out _) oo (by omega)
  have O4 : Hid (Only B w w4) := Only.trans (Only.alloc O3.out _) oo
  have C4 : Hid (Cur w4 B a len cap) := cc
  have l4 := Sits.lt Z4.out
  clear cc oo Z3 O3 C3 l3
  go_wp2_with fail
  refine (below_any B a len cap _ C4.out 255 (by omega) (by omega)).mono ?_
  rintro o w5 ⟨j2, rfl, j20, j21, cc, oo⟩
  have Z5 : Hid (Sits w5 F #[.int .i64 0, .int .i64 0, .int .i64 0, .int .i64 0, .int .i64 0, .int .i64 0, .int .i64 0, .int .i64 0, .int .i64 0, .slice none 0 0] 26) := Sits.only Z4.out oo (by omega)
  have O5 : Hid (Only B w w5) := Only.trans O4.out oo
  have C5 : Hid (Cur w5 B a len cap) := cc
  have l5 := Sits.lt Z5.out
  clear cc oo Z4 O4 C4 l4
  go_wp2_with fail
  refine (pick2q (fun x => 0 ≤ x ∧ x ≤ 255) B a len cap _ (Cur.alloc C5.out _ _) _ _ _ _ (Sits.new' rfl) (by omega) ⟨by omega, by omega⟩ ⟨by omega, by omega⟩).mono ?_
  rintro o w6 ⟨pr, rfl, ⟨pr0, pr1⟩, cc, oo⟩
  have Z6 : Hid (Sits w6 F #[.int .i64 0, .int .i64 0, .int .i64 0, .int .i64 0, .int .i64 0, .int .i64 0, .int .i64 0, .int .i64 0, .int .i64 0, .slice none 0 0] 26) := Sits.only (Sits.alloc Z5.out _) oo (by omega)
  have O6 : Hid (Only B w w6) := Only.trans (Only.alloc O5.out _) oo
  have C6 : Hid (Cur w6 B a len cap) := cc
  have l6 := Sits.lt Z6.out
  clear cc oo Z5 O5 C5 l5
  go_wp2_with fail
  obtain ⟨V, hV⟩ : ∃ V, w6.heap.size = V := ⟨_, rfl⟩
  obtain ⟨w7, hA⟩ : ∃ W, w6.alloc (.cells #[.int .i64 ds, .int .i64 ec, .int .i64 id, .int .i64 (1 + j2), .int .i64 pr, .int .i64 0, .int .i64 0, .int .i64 0, .int .i64 0, .slice none 0 0] 26) = W := ⟨_, rfl⟩
  have V7 : Hid (Sits w7 V #[.int .i64 ds, .int .i64 ec, .int .i64 id, .int .i64 (1 + j2), .int .i64 pr, .int .i64 0, .int .i64 0, .int .i64 0, .int .i64 0, .slice none 0 0] 26) := by show Sits _ _ _ _; rw [← hA]; exact Sits.new' hV
  have Z7 : Hid (Sits w7 F #[.int .i64 0, .int .i64 0, .int .i64 0, .int .i64 0, .int .i64 0, .int .i64 0, .int .i64 0, .int .i64 0, .int .i64 0, .slice none 0 0] 26) := by show Sits _ _ _ _; rw [← hA]; exact Sits.alloc Z6.out _
  have O7 : Hid (Only B w w7) := by show Only _ _ _; rw [← hA]; exact Only.alloc O6.out _
  have C7 : Hid (Cur w7 B a len cap) := by show Cur _ _ _ _ _; rw [← hA]; exact Cur.alloc C6.out _ _
  have hFV : F < V := by omega
  rw [hA, hV]
  have l7 := Sits.lt Z7.out
  clear hA hV Z6 O6 C6 l6
  refine (below_any B a len cap _ C7.out 1073741824 (by omega) (by omega)).mono ?_
  rintro o w8 ⟨j3, rfl, j30, j31, cc, oo⟩
  have Z8 : Hid (Sits w8 F #[.int .i64 0, .int .i64 0, .int .i64 0, .int .i64 0, .int .i64 0, .int .i64 0, .int .i64 0, .int .i64 0, .int .i64 0, .slice none 0 0] 26) := Sits.only Z7.out oo (by omega)
  have O8 : Hid (Only B w w8) := Only.trans O7.out oo
  have V8 : Hid (Sits w8 V #[.int .i64 ds, .int .i64 ec, .int .i64 id, .int .i64 (1 + j2), .int .i64 pr, .int .i64 0, .int .i64 0, .int .i64 0, .int .i64 0, .slice none 0 0] 26) := Sits.only V7.out oo (by omega)
  have C8 : Hid (Cur w8 B a len cap) := cc
  have l8 := Sits.lt Z8.out
  have m8 := Sits.lt V8.out
  clear cc oo Z7 O7 C7 V7 l7
  go_wp2_with fail
  refine (pick5q (fun x => 0 ≤ x ∧ x ≤ 4294967295) B a len cap _ (Cur.alloc C8.out _ _) _ _ _ _ _ _ _ (Sits.new' rfl) (by omega) ⟨by omega, by omega⟩ ⟨by omega, by omega⟩ ⟨by omega, by omega⟩ ⟨by omega, by omega⟩ ⟨by omega, by omega⟩).mono ?_
  rintro o w9 ⟨sr, rfl, ⟨sr0, sr1⟩, cc, oo⟩
  have Z9 : Hid (Sits w9 F #[.int .i64 0, .int .i64 0, .int .i64 0, .int .i64 0, .int .i64 0, .int .i64 0, .int .i64 0, .int .i64 0, .int .i64 0, .slice none 0 0] 26) := Sits.only (Sits.alloc Z8.out _) oo (by omega)
  have O9 : Hid (Only B w w9) := Only.trans (Only.alloc O8.out _) oo
  have V9 : Hid (Sits w9 V #[.int .i64 ds, .int .i64 ec, .int .i64 id, .int .i64 (1 + j2), .int .i64 pr, .int .i64 0, .int .i64 0, .int .i64 0, .int .i64 0, .slice none 0 0] 26) := Sits.only (Sits.alloc V8.out _) oo (by omega)
  have C9 : Hid (Cur w9 B a len cap) := cc
  have l9 := Sits.lt Z9.out
  have m9 := Sits.lt V9.out
  clear cc oo Z8 O8 C8 V8 l8
  obtain ⟨p0, p1, p2, p3, p4, p5, p6, p7, p8, p9⟩ := fr_cells' V9.out
  have fz := Sits.frozen V9.out
  go_wp2_with fail
  clear fz p0 p1 p2 p3 p4 p5 p6 p7 p8 p9
  obtain ⟨w10, hA⟩ : ∃ W, w9.setCell ⟨V, 5, none⟩ (.int .i64 sr) = W := ⟨_, rfl⟩
  have V10 : Hid (Sits w10 V #[.int .i64 ds, .int .i64 ec, .int .i64 id, .int .i64 (1 + j2), .int .i64 pr, .int .i64 sr, .int .i64 0, .int .i64 0, .int .i64 0, .slice none 0 0] 26) := by show Sits _ _ _ _; rw [← hA]; exact Sits.set V9.out 5 _
  have Z10 : Hid (Sits w10 F #[.int .i64 0, .int .i64 0, .int .i64 0, .int .i64 0, .int .i64 0, .int .i64 0, .int .i64 0, .int .i64 0, .int .i64 0, .slice none 0 0] 26) := by show Sits _ _ _ _; rw [← hA]; exact Sits.other Z9.out (by omega) _
  have O10 : Hid (Only B w w10) := by show Only _ _ _; rw [← hA]; exact Only.setNew O9.out (by omega) _
  have C10 : Hid (Cur w10 B a len cap) := by show Cur _ _ _ _ _; rw [← hA]; exact Cur.setNew C9.out (by omega) _
  have hz : w9.heap.size = w10.heap.size := by rw [← hA]; simp [World.setCell]
  rw [hA]
  try rw [hz]
  have l10 := Sits.lt Z10.out
  clear hz hA V9 Z9 O9 C9 l9
  refine (below_any B a len cap _ C10.out 1073741824 (by omega) (by omega)).mono ?_
  rintro o w11 ⟨j4, rfl, j40, j41, cc, oo⟩
  have Z11 : Hid (Sits w11 F #[.int .i64 0, .int .i64 0, .int .i64 0, .int .i64 0, .int .i64 0, .int .i64 0, .int .i64 0, .int .i64 0, .int .i64 0, .slice none 0 0] 26) := Sits.only Z10.out oo (by omega)
  have O11 : Hid (Only B w w11) := Only.trans O10.out oo
  have V11 : Hid (Sits w11 V #[.int .i64 ds, .int .i64 ec, .int .i64 id, .int .i64 (1 + j2), .int .i64 pr, .int .i64 sr, .int .i64 0, .int .i64 0, .int .i64 0, .slice none 0 0] 26) := Sits.only V10.out oo (by omega)
  have C11 : Hid (Cur w11 B a len cap) := cc
  have l11 := Sits.lt Z11.out
  have m11 := Sits.lt V11.out
  clear cc oo Z10 O10 C10 V10 l10
  go_wp2_with fail
  refine (pick4q (fun x => 0 ≤ x ∧ x ≤ 4294967295) B a len cap _ (Cur.alloc C11.out _ _) _ _ _ _ _ _ (Sits.new' rfl) (by omega) ⟨by omega, by omega⟩ ⟨by omega, by omega⟩ ⟨by omega, by omega⟩ ⟨by omega, by omega⟩).mono ?_
  rintro o w12 ⟨dt, rfl, ⟨dt0, dt1⟩, cc, oo⟩
  have Z12 : Hid (Sits w12 F #[.int .i64 0, .int .i64 0, .int .i64 0, .int .i64 0, .int .i64 0, .int .i64 0, .int .i64 0, .int .i64 0, .int .i64 0, .slice none 0 0] 26) := Sits.only (Sits.alloc Z11.out _) oo (by omega)
  have O12 : Hid (Only B w w12) := Only.trans (Only.alloc O11.out _) oo
  have V12 : Hid (Sits w12 V #[.int .i64 ds, .int .i64 ec, .int .i64 id, .int .i64 (1 + j2), .int .i64 pr, .int .i64 sr, .int .i64 0, .int .i64 0, .int .i64 0, .slice none 0 0] 26) := Sits.only (Sits.alloc V11.out _) oo (by omega)
  have C12 : Hid (Cur w12 B a len cap) := cc
  have l12 := Sits.lt Z12.out
  have m12 := Sits.lt V12.out
  clear cc oo Z11 O11 C11 V11 l11
  obtain ⟨p0, p1, p2, p3, p4, p5, p6, p7, p8, p9⟩ := fr_cells' V12.out
  have fz := Sits.frozen V12.out
  go_wp2_with fail
  clear fz p0 p1 p2 p3 p4 p5 p6 p7 p8 p9
  obtain ⟨w13, hA⟩ : ∃ W, w12.setCell ⟨V, 6, none⟩ (.int .i64 dt) = W := ⟨_, rfl⟩
  have V13 : Hid (Sits w13 V #[.int .i64 ds, .int .i64 ec, .int .i64 id, .int .i64 (1 + j2), .int .i64 pr, .int .i64 sr, .int .i64 dt, .int .i64 0, .int .i64 0, .slice none 0 0] 26) := by show Sits _ _ _ _; rw [← hA]; exact Sits.set V12.out 6 _
  have Z13 : Hid (Sits w13 F #[.int .i64 0, .int .i64 0, .int .i64 0, .int .i64 0, .int .i64 0, .int .i64 0, .int .i64 0, .int .i64 0, .int .i64 0, .slice none 0 0] 26) := by show Sits _ _ _ _; rw [← hA]; exact Sits.other Z12.out (by omega) _
  have O13 : Hid (Only B w w13) := by show Only _ _ _; rw [← hA]; exact Only.setNew O12.out (by omega) _
  have C13 : Hid (Cur w13 B a len cap) := by show Cur _ _ _ _ _; rw [← hA]; exact Cur.setNew C12.out (by omega) _
  have hz : w12.heap.size = w13.heap.size := by rw [← hA]; simp [World.setCell]
  rw [hA]
  try rw [hz]
  have l13 := Sits.lt Z13.out
  clear hz hA V12 Z12 O12 C12 l12
  refine (below_any B a len cap _ C13.out 5 (by omega) (by omega)).mono ?_
  rintro o w14 ⟨sq, rfl, sq0, sq1, cc, oo⟩
  have Z14 : Hid (Sits w14 F #[.int .i64 0, .int .i64 0, .int .i64 0, .int .i64 0, .int .i64 0, .int .i64 0, .int .i64 0, .int .i64 0, .int .i64 0, .slice none 0 0] 26) := Sits.only Z13.out oo (by omega)
  have O14 : Hid (Only B w w14) := Only.trans O13.out oo
  have V14 : Hid (Sits w14 V #[.int .i64 ds, .int .i64 ec, .int .i64 id, .int .i64 (1 + j2), .int .i64 pr, .int .i64 sr, .int .i64 dt, .int .i64 0, .int .i64 0, .slice none 0 0] 26) := Sits.only V13.out oo (by omega)
  have C14 : Hid (Cur w14 B a len cap) := cc
  have l14 := Sits.lt Z14.out
  have m14 := Sits.lt V14.out
  clear cc oo Z13 O13 C13 V13 l13
  obtain ⟨p0, p1, p2, p3, p4, p5, p6, p7, p8, p9⟩ := fr_cells' V14.out
  have fz := Sits.frozen V14.out
  go_wp2_with fail
  clear fz p0 p1 p2 p3 p4 p5 p6 p7 p8 p9
  obtain ⟨w15, hA⟩ : ∃ W, w14.setCell ⟨V, 7, none⟩ (.int .i64 sq) = W := ⟨_, rfl⟩
  have V15 : Hid (Sits w15 V #[.int .i64 ds, .int .i64 ec, .int .i64 id, .int .i64 (1 + j2), .int .i64 pr, .int .i64 sr, .int .i64 dt, .int .i64 sq, .int .i64 0, .slice none 0 0] 26) := by show Sits _ _ _ _; rw [← hA]; exact Sits.set V14.out 7 _
  have Z15 : Hid (Sits w15 F #[.int .i64 0, .int .i64 0, .int .i64 0, .int .i64 0, .int .i64 0, .int .i64 0, .int .i64 0, .int .i64 0, .int .i64 0, .slice none 0 0] 26) := by show Sits _ _ _ _; rw [← hA]; exact Sits.other Z14.out (by omega) _
  have O15 : Hid (Only B w w15) := by show Only _ _ _; rw [← hA]; exact Only.setNew O14.out (by omega) _
  have C15 : Hid (Cur w15 B a len cap) := by show Cur _ _ _ _ _; rw [← hA]; exact Cur.setNew C14.out (by omega) _
  have hz : w14.heap.size = w15.heap.size := by rw [← hA]; simp [World.setCell]
  rw [hA]
  try rw [hz]
  have l15 := Sits.lt Z15.out
  clear hz hA V14 Z14 O14 C14 l14
  refine (pick3q (fun x => 0 ≤ x ∧ x ≤ 65535) B a len cap _ (Cur.alloc C15.out _ _) _ _ _ _ _ (Sits.new' rfl) (by omega) ⟨by omega, by omega⟩ ⟨by omega, by omega⟩ ⟨by omega, by omega⟩).mono ?_
  rintro o w16 ⟨dq, rfl, ⟨dq0, dq1⟩, cc, oo⟩
  have Z16 : Hid (Sits w16 F #[.int .i64 0, .int .i64 0, .int .i64 0, .int .i64 0, .int .i64 0, .int .i64 0, .int .i64 0, .int .i64 0, .int .i64 0, .slice none 0 0] 26) := Sits.only (Sits.alloc Z15.out _) oo (by omega)
  have O16 : Hid (Only B w w16) := Only.trans (Only.alloc O15.out _) oo
  have V16 : Hid (Sits w16 V #[.int .i64 ds, .int .i64 ec, .int .i64 id, .int .i64 (1 + j2), .int .i64 pr, .int .i64 sr, .int .i64 dt, .int .i64 sq, .int .i64 0, .slice none 0 0] 26) := Sits.only (Sits.alloc V15.out _) oo (by omega)
  have C16 : Hid (Cur w16 B a len cap) := cc
  have l16 := Sits.lt Z16.out
  have m16 := Sits.lt V16.out
  clear cc oo Z15 O15 C15 V15 l15
  obtain ⟨p0, p1, p2, p3, p4, p5, p6, p7, p8, p9⟩ := fr_cells' V16.out
  have fz := Sits.frozen V16.out
  go_wp2_with fail
  clear fz p0 p1 p2 p3 p4 p5 p6 p7 p8 p9
  obtain ⟨w17, hA⟩ : ∃ W, w16.setCell ⟨V, 8, none⟩ (.int .i64 dq) = W := ⟨_, rfl⟩
  have V17 : Hid (Sits w17 V #[.int .i64 ds, .int .i64 ec, .int .i64 id, .int .i64 (1 + j2), .int .i64 pr, .int .i64 sr, .int .i64 dt, .int .i64 sq, .int .i64 dq, .slice none 0 0] 26) := by show Sits _ _ _ _; rw [← hA]; exact Sits.set V16.out 8 _
  have Z17 : Hid (Sits w17 F #[.int .i64 0, .int .i64 0, .int .i64 0, .int .i64 0, .int .i64 0, .int .i64 0, .int .i64 0, .int .i64 0, .int .i64 0, .slice none 0 0] 26) := by show Sits _ _ _ _; rw [← hA]; exact Sits.other Z16.out (by omega) _
  have O17 : Hid (Only B w w17) := by show Only _ _ _; rw [← hA]; exact Only.setNew O16.out (by omega) _
  have C17 : Hid (Cur w17 B a len cap) := by show Cur _ _ _ _ _; rw [← hA]; exact Cur.setNew C16.out (by omega) _
  have hz : w16.heap.size = w17.heap.size := by rw [← hA]; simp [World.setCell]
  rw [hA]
  try rw [hz]
  have l17 := Sits.lt Z17.out
  clear hz hA V16 Z16 O16 C16 l16
  refine (below_any B a len cap _ C17.out 9 (by omega) (by omega)).mono ?_
  rintro o w18 ⟨n, rfl, n0, n1, cc, oo⟩
  have Z18 : Hid (Sits w18 F #[.int .i64 0, .int .i64 0, .int .i64 0, .int .i64 0, .int .i64 0, .int .i64 0, .int .i64 0, .int .i64 0, .int .i64 0, .slice none 0 0] 26) := Sits.only Z17.out oo (by omega)
  have O18 : Hid (Only B w w18) := Only.trans O17.out oo
  have V18 : Hid (Sits w18 V #[.int .i64 ds, .int .i64 ec, .int .i64 id, .int .i64 (1 + j2), .int .i64 pr, .int .i64 sr, .int .i64 dt, .int .i64 sq, .int .i64 dq, .slice none 0 0] 26) := Sits.only V17.out oo (by omega)
  have C18 : Hid (Cur w18 B a len cap) := cc
  have l18 := Sits.lt Z18.out
  have m18 := Sits.lt V18.out
  clear cc oo Z17 O17 C17 V17 l17
  obtain ⟨n, rfl⟩ := Int.eq_ofNat_of_zero_le n0
  go_wp2_with fail
  go_loopw [5] (fun iv wr => ∃ (k : Nat) (x : Option Addr) (c : Nat) (g : Nat → Int), (k : Int) ≤ (n : Int) ∧ iv = .int .i64 k ∧ Sits wr V #[.int .i64 ds, .int .i64 ec, .int .i64 id, .int .i64 (1 + j2), .int .i64 pr, .int .i64 sr, .int .i64 dt, .int .i64 sq, .int .i64 dq, .slice x k c] 26 ∧ BO (V + 1) wr x k c g ∧ Byt k g ∧ Sits wr F #[.int .i64 0, .int .i64 0, .int .i64 0, .int .i64 0, .int .i64 0, .int .i64 0, .int .i64 0, .int .i64 0, .int .i64 0, .slice none 0 0] 26 ∧ Only B w wr ∧ Cur wr B a len cap) (fun iv _ => n - (intOf iv).toNat)
  case atStart => exact ⟨0, none, 0, fun _ => 0, by omega, rfl, V18.out, BO.nil _ _ _, fun i hi => absurd hi (Nat.not_lt_zero _), Z18.out, O18.out, C18.out⟩
  case round =>
    obtain ⟨k, x, c, g, hk, rfl, sv, og, bg, sz, on, cu⟩ := hrel
    clear V18 Z18 O18 C18
    have lv := sv.lt
    have SV : Hid (Sits wr V #[.int .i64 ds, .int .i64 ec, .int .i64 id, .int .i64 (1 + j2), .int .i64 pr, .int .i64 sr, .int .i64 dt, .int .i64 sq, .int .i64 dq, .slice x k c] 26) := sv
    have OG : Hid (BO (V + 1) wr x k c g) := og
    have BG : Hid (Byt k g) := bg
    have SZ : Hid (Sits wr F #[.int .i64 0, .int .i64 0, .int .i64 0, .int .i64 0, .int .i64 0, .int .i64 0, .int .i64 0, .int .i64 0, .int .i64 0, .slice none 0 0] 26) := sz
    have ON : Hid (Only B w wr) := on
    have CU : Hid (Cur wr B a len cap) := cu
    clear og bg on cu
    by_cases hlt : (k : Int) < (n : Int)
    · obtain ⟨p0, p1, p2, p3, p4, p5, p6, p7, p8, p9⟩ := fr_cells' sv
      have fz := sv.frozen
      clear sv sz
      go_wp2_with fail
      go_region_law (first | (refine step_append_by1 (by rfl) _ _ (by rfl) (V + 1) x k c g (by rfl) (BO.alloc (BO.only (BO.drew OG.out) oo (by omega)) _) w1.heap.size _ (by rfl) (cell_new0 _ _ _) (by omega) (by simp; omega) ?_; intro gb c' w2 hbo hgrow hat hlt1; obtain ⟨hcf, hff, hbel⟩ := grown_cells' (H := V + 1) hgrow (by simp; omega) (fun kk ek => (BO.own_lt (BO.only (BO.drew OG.out) oo (by omega)) kk ek).1); have s2 := ((Sits.alloc (Sits.only (Sits.drew SV.out) oo (by omega)) _).below hbel (by omega)); have d9 := (fr_cells' s2).2.2.2.2.2.2.2.2.2; have z9 := s2.frozen 9; clear hcf hff) | (refine step_byte (by rfl) _ _ (by rfl) B (by rfl) a len cap (Cur.drew CU.out) ?_; intro v w1 v0 v1 cc oo; have e9 := (fr_cells' (Sits.only (Sits.drew SV.out) oo (by omega))).2.2.2.2.2.2.2.2.2; have lw1 := Sits.lt (Sits.only (Sits.drew SV.out) oo (by omega))))
      all_goals
        (go_wp2_with fail)
        go_roundw
        case rel =>
          have bA : Below (V + 1) w1 w2 := ((Below.refl (V + 1) w1).alloc (by omega) _).trans hbel
          have sF2 : Sits w2 F #[.int .i64 0, .int .i64 0, .int .i64 0, .int .i64 0, .int .i64 0, .int .i64 0, .int .i64 0, .int .i64 0, .int .i64 0, .slice none 0 0] 26 := (Sits.only (Sits.drew SZ.out) oo (by omega)).below bA (by omega)
          have cu2 : Cur w2 B a len cap := cur_below cc bA (by omega)
          have on2 : Only B w w2 := only_below (Only.trans (Only.drew ON.out) oo) bA (by omega)
          refine ⟨k + 1, some ⟨gb, 0, none⟩, c', _, by omega, by go_num, Sits.set s2 9 _, hbo.far (by omega) _ _, ?_, Sits.other sF2 (by omega) _, Only.setNew on2 (by omega) _, Cur.setNew cu2 (by omega) _⟩
          intro i hi
          dsimp only
          split
          · rw [u8_wrap]; omega
          · exact BG.out i (by omega)
        case measure => simp [intOf]; omega
    · obtain ⟨p0, p1, p2, p3, p4, p5, p6, p7, p8, p9⟩ := fr_cells' sv
      obtain ⟨q0, q1, q2, q3, q4, q5, q6, q7, q8, q9⟩ := fr_cells' sz
      have fz := sv.frozen
      have fy := sz.frozen
      clear sv sz
      go_wp2_with fail
      refine bodyPost_ret (ret_fr (r := ⟨ds, ec, id, 1 + j2, pr, sr, dt, sq, dq⟩) (x := x) (m := k) (c := c) (t := 26) (B := F) Try.results23 rfl (fr_store SZ.out)) rfl ⟨_, x, k, c, rfl, ?_, by omega, g, ?_, BG.out, ?_, ?_⟩
      · unfold Fr.good flB
        rw [okB_in (k := 6) (by show 0 ≤ ds; omega) (by show ds < _; simp; omega), okB_in (k := 2) (by show 0 ≤ ec; omega) (by show ec < _; simp; omega), okB_in (k := 16) (by show 0 ≤ id; omega) (by show id < _; simp; omega), okB_in (k := 8) (by show 0 ≤ 1 + j2; omega) (by show 1 + j2 < _; simp; omega), okB_in (k := 8) (by show 0 ≤ pr; omega) (by show pr < _; simp; omega), okB_in (k := 32) (by show 0 ≤ sr; omega) (by show sr < _; simp; omega), okB_in (k := 32) (by show 0 ≤ dt; omega) (by show dt < _; simp; omega), okB_in (k := 16) (by show 0 ≤ sq; omega) (by show sq < _; simp; omega), okB_in (k := 16) (by show 0 ≤ dq; omega) (by show dq < _; simp; omega), decide_eq_true (show (k : Int) ≤ 76 by omega)]
        rfl
      · exact (BO.mono (BO.far (BO.far (BO.far (BO.far (BO.far (BO.far (BO.far (BO.far (BO.far (BO.far (OG.out) (by omega) _ _) (by omega) _ _) (by omega) _ _) (by omega) _ _) (by omega) _ _) (by omega) _ _) (by omega) _ _) (by omega) _ _) (by omega) _ _) (by omega) _ _) (by omega))
      · exact (((((((((Cur.setNew CU.out (by omega) _).setNew (by omega) _).setNew (by omega) _).setNew (by omega) _).setNew (by omega) _).setNew (by omega) _).setNew (by omega) _).setNew (by omega) _).setNew (by omega) _).setNew (by omega) _
      · exact (((((((((Only.setNew ON.out (by omega) _).setNew (by omega) _).setNew (by omega) _).setNew (by omega) _).setNew (by omega) _).setNew (by omega) _).setNew (by omega) _).setNew (by omega) _).setNew (by omega) _).setNew (by omega) _

end Go.Proofs.Ytkhfcemjmnjkdaa
