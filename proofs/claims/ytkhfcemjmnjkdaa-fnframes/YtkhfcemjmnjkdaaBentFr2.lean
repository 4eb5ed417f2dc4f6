/-
  WHAT l2bent ANSWERS, its data too.
-/
import Derived.Test.YtkhfcemjmnjkdaaBentFr
import Derived.Test.YtkhfcemjmnjkdaaZone
namespace Go.Proofs.Ytkhfcemjmnjkdaa
open Go.RowKit
set_option linter.unusedVariables false

theorem zn_hold {L U : Nat} {w w' : World} {a : Option Addr} {n : Nat} {f : Nat → Int} (h : Zn L U w a n f) (hk : ∀ k, L ≤ k → k < U → k < w.heap.size → w'.heap[k]? = w.heap[k]?) (hs : w.heap.size ≤ w'.heap.size) : Zn L U w' a n f := by
  rcases h with h | ⟨B, ha, h1, h2, ho⟩
  · exact .inl h
  · exact .inr ⟨B, ha, h1, h2, Own.same ho (hk B h1 h2 ho.1) hs⟩
theorem zn_only {L U B : Nat} {w w' : World} {a : Option Addr} {n : Nat} {f : Nat → Int} (h : Zn L U w a n f) (ho : Only B w w') (hB : B < L) : Zn L U w' a n f := zn_hold h (fun k hk _ hs => ho.block k hs (by omega)) ho.size
theorem zn_alloc {L U : Nat} {w : World} {a : Option Addr} {n : Nat} {f : Nat → Int} (h : Zn L U w a n f) (o : Obj) : Zn L U (w.alloc o) a n f := Zn.below h ((Below.refl _ _).alloc (Nat.le_refl _) _)
theorem zn_set {L U : Nat} {w : World} {a : Option Addr} {n : Nat} {f : Nat → Int} (h : Zn L U w a n f) {H : Nat} (hH : H < L ∨ U ≤ H) (o : Nat) (v : Value) : Zn L U (w.setCell ⟨H, o, none⟩ v) a n f := zn_hold h (fun k hk hu _ => Below.heap_setCell _ ⟨H, o, none⟩ _ k (by show k ≠ H; omega)) (by simp [World.setCell])
theorem zn_bo {base : Nat} {w : World} {x : Option Addr} {m cap : Nat} {f : Nat → Int} (h : BO base w x m cap f) : Zn base w.heap.size w x m f := by
  rcases h.fresh with h1 | ⟨g, rfl, hg, ho⟩
  · exact .inl h1
  · exact .inr ⟨g, rfl, hg, ho.1, ho⟩
theorem made_zn (w : World) (N : Nat) : Zn w.heap.size (w.heap.size + 1) (w.alloc (.cells (madeCells #[.int .u8 0] N) 5)) (some ⟨w.heap.size, 0, none⟩) N (fun _ => 0) := by
  refine .inr ⟨w.heap.size, rfl, Nat.le_refl _, Nat.lt_succ_self _, by simp, fun i hi => ?_⟩
  have hg : (w.alloc (.cells (madeCells #[.int .u8 0] N) 5)).cell? ⟨w.heap.size, i, none⟩ = (madeCells #[.int .u8 0] N)[i]? := (Sits.new w _ _).cell i
  refine ⟨?_, (Sits.new w _ _).frozen i⟩
  rw [hg]
  simp [madeCells, hi, Nat.mod_one]

set_option maxRecDepth 100000 in
set_option maxHeartbeats 2000000 in
theorem l2bent_row (B : Nat) (a : Option Addr) (len cap : Nat) (w : World) (hc : Cur w B a len cap) :
    Calls Try.prog 12 #[.pointer (some ⟨B, 0, none⟩)] w fun e w' => ∃ (r : Fr) (x : Option Addr) (m c : Nat) (g : Nat → Int) (LL UU : Nat), e = .returned (r.val x m c) ∧ r.In ∧ m ≤ 100 ∧ w.heap.size < LL ∧ Zn LL UU w' x m g ∧ Byt m g ∧ Cur w' B a len cap ∧ Only B w w' := by
  have hB := hc.1
  obtain ⟨F, hF⟩ : ∃ F, w.heap.size = F := ⟨_, rfl⟩
  rw [hF] at hB
  obtain ⟨w0, hW⟩ : ∃ W, w.alloc (.cells #[.int .i64 0, .int .i64 0, .int .i64 0, .int .i64 0, .int .i64 0, .int .i64 0, .int .i64 0, .int .i64 0, .int .i64 0, .slice none 0 0] 26) = W := ⟨_, rfl⟩
  have Z0 : Hid (Sits w0 F #[.int .i64 0, .int .i64 0, .int .i64 0, .int .i64 0, .int .i64 0, .int .i64 0, .int .i64 0, .int .i64 0, .int .i64 0, .slice none 0 0] 26) := by show Sits _ _ _ _; rw [← hW]; exact Sits.new' hF
  have O0 : Hid (Only B w w0) := by show Only _ _ _; rw [← hW]; exact (Only.refl B w).alloc _
  have C0 : Hid (Cur w0 B a len cap) := by show Cur _ _ _ _ _; rw [← hW]; exact hc.alloc _ _
  have HZ0 : Hid (w0.heap.size = F + 1) := by show _ = _; rw [← hW, ← hF]; simp
  clear hc
  go_enter Try.func12, Try.ntmps12
  go_wp2_with fail
  clear hW
  refine (l2draw_any B a len cap _ C0.out).mono ?_
  rintro o w1 ⟨r, x, m, c, g, rfl, hg, hm, hbo, hby, cc, oo⟩
  have HBY : Hid (Byt m g) := hby
  have HBO : Hid (BO w0.heap.size w1 x m c g) := hbo
  clear hbo hby
  have Z1 : Hid (Sits w1 F #[.int .i64 0, .int .i64 0, .int .i64 0, .int .i64 0, .int .i64 0, .int .i64 0, .int .i64 0, .int .i64 0, .int .i64 0, .slice none 0 0] 26) := Sits.only Z0.out oo (by omega)
  have O1 : Hid (Only B w w1) := Only.trans O0.out oo
  have HI : Hid r.In := good_in' hg
  have lz := Sits.lt Z1.out
  clear C0 Z0 O0 oo hg
  go_wp2_with fail
  obtain ⟨V, hV⟩ : ∃ V, w1.heap.size = V := ⟨_, rfl⟩
  obtain ⟨w2, hA⟩ : ∃ W, w1.alloc (.cells #[.int .i64 r.dscp, .int .i64 r.ecn, .int .i64 r.id, .int .i64 r.ttl, .int .i64 r.proto, .int .i64 r.src, .int .i64 r.dst, .int .i64 r.srcP, .int .i64 r.dstP, .slice x m c] 26) = W := ⟨_, rfl⟩
  have V2 : Hid (Sits w2 V #[.int .i64 r.dscp, .int .i64 r.ecn, .int .i64 r.id, .int .i64 r.ttl, .int .i64 r.proto, .int .i64 r.src, .int .i64 r.dst, .int .i64 r.srcP, .int .i64 r.dstP, .slice x m c] 26) := by show Sits _ _ _ _; rw [← hA]; exact Sits.new' hV
  have Z2 : Hid (Sits w2 F #[.int .i64 0, .int .i64 0, .int .i64 0, .int .i64 0, .int .i64 0, .int .i64 0, .int .i64 0, .int .i64 0, .int .i64 0, .slice none 0 0] 26) := by show Sits _ _ _ _; rw [← hA]; exact Sits.alloc Z1.out _
  have O2 : Hid (Only B w w2) := by show Only _ _ _; rw [← hA]; exact Only.alloc O1.out _
  have C2 : Cur w2 B a len cap := by rw [← hA]; exact cc.alloc _ _
  have hFV : F < V := by omega
  have X2 : Hid (Zn (F + 1) V w2 x m g) := by
    show Zn _ _ _ _ _ _
    have h0 := zn_bo HBO.out
    rw [HZ0.out, hV] at h0
    rw [← hA]
    exact zn_alloc h0 _
  clear HBO HZ0
  rw [hA, hV]
  clear hA hV Z1 O1 cc lz
  refine (once_any B a len cap _ C2 7 (by omega) (by omega)).mono ?_
  rintro o w3 ⟨yes, rfl, C3, oo⟩
  have V3 : Hid (Sits w3 V #[.int .i64 r.dscp, .int .i64 r.ecn, .int .i64 r.id, .int .i64 r.ttl, .int .i64 r.proto, .int .i64 r.src, .int .i64 r.dst, .int .i64 r.srcP, .int .i64 r.dstP, .slice x m c] 26) := Sits.only V2.out oo (by omega)
  have Z3 : Hid (Sits w3 F #[.int .i64 0, .int .i64 0, .int .i64 0, .int .i64 0, .int .i64 0, .int .i64 0, .int .i64 0, .int .i64 0, .int .i64 0, .slice none 0 0] 26) := Sits.only Z2.out oo (by omega)
  have O3 : Hid (Only B w w3) := Only.trans O2.out oo
  have X3 : Hid (Zn (F + 1) V w3 x m g) := zn_only X2.out oo (by omega)
  clear V2 Z2 O2 C2 oo
  cases yes
  case false =>
    obtain ⟨p0, p1, p2, p3, p4, p5, p6, p7, p8, p9⟩ := fr_cells' V3.out
    obtain ⟨q0, q1, q2, q3, q4, q5, q6, q7, q8, q9⟩ := fr_cells' Z3.out
    have fz := Sits.frozen V3.out
    have fy := Sits.frozen Z3.out
    go_wp2_with fail
    refine bodyPost_ret (ret_fr (r := r) (x := x) (m := m) (c := c) (t := 26) (B := F) Try.results12 rfl (fr_store Z3.out)) rfl ⟨r, x, m, c, g, F + 1, V, rfl, HI.out, by omega, by omega, (zn_set (zn_set (zn_set (zn_set (zn_set (zn_set (zn_set (zn_set (zn_set (zn_set (X3.out) (.inl (by omega)) _ _) (.inl (by omega)) _ _) (.inl (by omega)) _ _) (.inl (by omega)) _ _) (.inl (by omega)) _ _) (.inl (by omega)) _ _) (.inl (by omega)) _ _) (.inl (by omega)) _ _) (.inl (by omega)) _ _) (.inl (by omega)) _ _), HBY.out, ?_, ?_⟩
    · exact (((((((((Cur.setNew C3 (by omega) _).setNew (by omega) _).setNew (by omega) _).setNew (by omega) _).setNew (by omega) _).setNew (by omega) _).setNew (by omega) _).setNew (by omega) _).setNew (by omega) _).setNew (by omega) _
    · exact (((((((((Only.setNew O3.out (by omega) _).setNew (by omega) _).setNew (by omega) _).setNew (by omega) _).setNew (by omega) _).setNew (by omega) _).setNew (by omega) _).setNew (by omega) _).setNew (by omega) _).setNew (by omega) _
  case true =>
    go_wp2_with fail
    refine (below_any B a len cap _ C3 5 (by omega) (by omega)).mono ?_
    rintro o w4 ⟨y, rfl, y0, y1, C4, oo⟩
    have V4 : Hid (Sits w4 V #[.int .i64 r.dscp, .int .i64 r.ecn, .int .i64 r.id, .int .i64 r.ttl, .int .i64 r.proto, .int .i64 r.src, .int .i64 r.dst, .int .i64 r.srcP, .int .i64 r.dstP, .slice x m c] 26) := Sits.only V3.out oo (by omega)
    have Z4 : Hid (Sits w4 F #[.int .i64 0, .int .i64 0, .int .i64 0, .int .i64 0, .int .i64 0, .int .i64 0, .int .i64 0, .int .i64 0, .int .i64 0, .slice none 0 0] 26) := Sits.only Z3.out oo (by omega)
    have O4 : Hid (Only B w w4) := Only.trans O3.out oo
    have X4 : Hid (Zn (F + 1) V w4 x m g) := zn_only X3.out oo (by omega)
    have CC : Hid (Cur w4 B a len cap) := C4
    have lv := Sits.lt V4.out
    clear V3 Z3 O3 C3 oo C4
    rcases (by omega : y = 0 ∨ y = 1 ∨ y = 2 ∨ y = 3 ∨ y = 4) with rfl | rfl | rfl | rfl | rfl
    · go_wp2_with fail
      refine (pick2q int64 B a len cap _ (Cur.alloc CC.out _ _) _ _ _ _ (Sits.new' rfl) (by omega) ⟨by omega, by omega⟩ ⟨by omega, by omega⟩).mono ?_
      rintro o w5 ⟨v, rfl, v01, C5, oo⟩
      have V5 : Hid (Sits w5 V #[.int .i64 r.dscp, .int .i64 r.ecn, .int .i64 r.id, .int .i64 r.ttl, .int .i64 r.proto, .int .i64 r.src, .int .i64 r.dst, .int .i64 r.srcP, .int .i64 r.dstP, .slice x m c] 26) := Sits.only (Sits.alloc V4.out _) oo (by omega)
      have Z5 : Hid (Sits w5 F #[.int .i64 0, .int .i64 0, .int .i64 0, .int .i64 0, .int .i64 0, .int .i64 0, .int .i64 0, .int .i64 0, .int .i64 0, .slice none 0 0] 26) := Sits.only (Sits.alloc Z4.out _) oo (by omega)
      have O5 : Hid (Only B w w5) := Only.trans (Only.alloc O4.out _) oo
      have X5 : Hid (Zn (F + 1) V w5 x m g) := zn_only (zn_alloc X4.out _) oo (by omega)
      have VI : Hid (int64 v) := v01
      clear V4 Z4 O4 CC oo v01
      obtain ⟨p0, p1, p2, p3, p4, p5, p6, p7, p8, p9⟩ := fr_cells' V5.out
      obtain ⟨q0, q1, q2, q3, q4, q5, q6, q7, q8, q9⟩ := fr_cells' Z5.out
      have fz := Sits.frozen V5.out
      have fy := Sits.frozen Z5.out
      go_wp2_with fail
      refine bodyPost_ret (ret_fr (r := ⟨v, r.ecn, r.id, r.ttl, r.proto, r.src, r.dst, r.srcP, r.dstP⟩) (x := x) (m := m) (c := c) (t := 26) (B := F) Try.results12 rfl (fr_store (Sits.other Z5.out (by omega) _))) rfl ⟨_, x, m, c, g, F + 1, V, rfl, ?_, by omega, by omega, (zn_set (zn_set (zn_set (zn_set (zn_set (zn_set (zn_set (zn_set (zn_set (zn_set (zn_set X5.out (.inr (Nat.le_refl _)) _ _) (.inl (by omega)) _ _) (.inl (by omega)) _ _) (.inl (by omega)) _ _) (.inl (by omega)) _ _) (.inl (by omega)) _ _) (.inl (by omega)) _ _) (.inl (by omega)) _ _) (.inl (by omega)) _ _) (.inl (by omega)) _ _) (.inl (by omega)) _ _), HBY.out, ?_, ?_⟩
      · have h := HI.out
        have v01 : int64 v := VI.out
        unfold Fr.In at h ⊢
        exact ⟨v01, h.2.1, h.2.2.1, h.2.2.2.1, h.2.2.2.2.1, h.2.2.2.2.2.1, h.2.2.2.2.2.2.1, h.2.2.2.2.2.2.2.1, h.2.2.2.2.2.2.2.2⟩
      · exact ((((((((((Cur.setNew C5 (by omega) _).setNew (by omega) _).setNew (by omega) _).setNew (by omega) _).setNew (by omega) _).setNew (by omega) _).setNew (by omega) _).setNew (by omega) _).setNew (by omega) _).setNew (by omega) _).setNew (by omega) _
      · exact ((((((((((Only.setNew O5.out (by omega) _).setNew (by omega) _).setNew (by omega) _).setNew (by omega) _).setNew (by omega) _).setNew (by omega) _).setNew (by omega) _).setNew (by omega) _).setNew (by omega) _).setNew (by omega) _).setNew (by omega) _
    · go_wp2_with fail
      refine (pick2q int64 B a len cap _ (Cur.alloc CC.out _ _) _ _ _ _ (Sits.new' rfl) (by omega) ⟨by omega, by omega⟩ ⟨by omega, by omega⟩).mono ?_
      rintro o w5 ⟨v, rfl, v01, C5, oo⟩
      have V5 : Hid (Sits w5 V #[.int .i64 r.dscp, .int .i64 r.ecn, .int .i64 r.id, .int .i64 r.ttl, .int .i64 r.proto, .int .i64 r.src, .int .i64 r.dst, .int .i64 r.srcP, .int .i64 r.dstP, .slice x m c] 26) := Sits.only (Sits.alloc V4.out _) oo (by omega)
      have Z5 : Hid (Sits w5 F #[.int .i64 0, .int .i64 0, .int .i64 0, .int .i64 0, .int .i64 0, .int .i64 0, .int .i64 0, .int .i64 0, .int .i64 0, .slice none 0 0] 26) := Sits.only (Sits.alloc Z4.out _) oo (by omega)
      have O5 : Hid (Only B w w5) := Only.trans (Only.alloc O4.out _) oo
      have X5 : Hid (Zn (F + 1) V w5 x m g) := zn_only (zn_alloc X4.out _) oo (by omega)
      have VI : Hid (int64 v) := v01
      clear V4 Z4 O4 CC oo v01
      obtain ⟨p0, p1, p2, p3, p4, p5, p6, p7, p8, p9⟩ := fr_cells' V5.out
      obtain ⟨q0, q1, q2, q3, q4, q5, q6, q7, q8, q9⟩ := fr_cells' Z5.out
      have fz := Sits.frozen V5.out
      have fy := Sits.frozen Z5.out
      go_wp2_with fail
      refine bodyPost_ret (ret_fr (r := ⟨r.dscp, v, r.id, r.ttl, r.proto, r.src, r.dst, r.srcP, r.dstP⟩) (x := x) (m := m) (c := c) (t := 26) (B := F) Try.results12 rfl (fr_store (Sits.other Z5.out (by omega) _))) rfl ⟨_, x, m, c, g, F + 1, V, rfl, ?_, by omega, by omega, (zn_set (zn_set (zn_set (zn_set (zn_set (zn_set (zn_set (zn_set (zn_set (zn_set (zn_set X5.out (.inr (Nat.le_refl _)) _ _) (.inl (by omega)) _ _) (.inl (by omega)) _ _) (.inl (by omega)) _ _) (.inl (by omega)) _ _) (.inl (by omega)) _ _) (.inl (by omega)) _ _) (.inl (by omega)) _ _) (.inl (by omega)) _ _) (.inl (by omega)) _ _) (.inl (by omega)) _ _), HBY.out, ?_, ?_⟩
      · have h := HI.out
        have v01 : int64 v := VI.out
        unfold Fr.In at h ⊢
        exact ⟨h.1, v01, h.2.2.1, h.2.2.2.1, h.2.2.2.2.1, h.2.2.2.2.2.1, h.2.2.2.2.2.2.1, h.2.2.2.2.2.2.2.1, h.2.2.2.2.2.2.2.2⟩
      · exact ((((((((((Cur.setNew C5 (by omega) _).setNew (by omega) _).setNew (by omega) _).setNew (by omega) _).setNew (by omega) _).setNew (by omega) _).setNew (by omega) _).setNew (by omega) _).setNew (by omega) _).setNew (by omega) _).setNew (by omega) _
      · exact ((((((((((Only.setNew O5.out (by omega) _).setNew (by omega) _).setNew (by omega) _).setNew (by omega) _).setNew (by omega) _).setNew (by omega) _).setNew (by omega) _).setNew (by omega) _).setNew (by omega) _).setNew (by omega) _).setNew (by omega) _
    · go_wp2_with fail
      refine (pick2q int64 B a len cap _ (Cur.alloc CC.out _ _) _ _ _ _ (Sits.new' rfl) (by omega) ⟨by omega, by omega⟩ ⟨by omega, by omega⟩).mono ?_
      rintro o w5 ⟨v, rfl, v01, C5, oo⟩
      have V5 : Hid (Sits w5 V #[.int .i64 r.dscp, .int .i64 r.ecn, .int .i64 r.id, .int .i64 r.ttl, .int .i64 r.proto, .int .i64 r.src, .int .i64 r.dst, .int .i64 r.srcP, .int .i64 r.dstP, .slice x m c] 26) := Sits.only (Sits.alloc V4.out _) oo (by omega)
      have Z5 : Hid (Sits w5 F #[.int .i64 0, .int .i64 0, .int .i64 0, .int .i64 0, .int .i64 0, .int .i64 0, .int .i64 0, .int .i64 0, .int .i64 0, .slice none 0 0] 26) := Sits.only (Sits.alloc Z4.out _) oo (by omega)
      have O5 : Hid (Only B w w5) := Only.trans (Only.alloc O4.out _) oo
      have X5 : Hid (Zn (F + 1) V w5 x m g) := zn_only (zn_alloc X4.out _) oo (by omega)
      have VI : Hid (int64 v) := v01
      clear V4 Z4 O4 CC oo v01
      obtain ⟨p0, p1, p2, p3, p4, p5, p6, p7, p8, p9⟩ := fr_cells' V5.out
      obtain ⟨q0, q1, q2, q3, q4, q5, q6, q7, q8, q9⟩ := fr_cells' Z5.out
      have fz := Sits.frozen V5.out
      have fy := Sits.frozen Z5.out
      go_wp2_with fail
      refine bodyPost_ret (ret_fr (r := ⟨r.dscp, r.ecn, r.id, r.ttl, r.proto, v, r.dst, r.srcP, r.dstP⟩) (x := x) (m := m) (c := c) (t := 26) (B := F) Try.results12 rfl (fr_store (Sits.other Z5.out (by omega) _))) rfl ⟨_, x, m, c, g, F + 1, V, rfl, ?_, by omega, by omega, (zn_set (zn_set (zn_set (zn_set (zn_set (zn_set (zn_set (zn_set (zn_set (zn_set (zn_set X5.out (.inr (Nat.le_refl _)) _ _) (.inl (by omega)) _ _) (.inl (by omega)) _ _) (.inl (by omega)) _ _) (.inl (by omega)) _ _) (.inl (by omega)) _ _) (.inl (by omega)) _ _) (.inl (by omega)) _ _) (.inl (by omega)) _ _) (.inl (by omega)) _ _) (.inl (by omega)) _ _), HBY.out, ?_, ?_⟩
      · have h := HI.out
        have v01 : int64 v := VI.out
        unfold Fr.In at h ⊢
        exact ⟨h.1, h.2.1, h.2.2.1, h.2.2.2.1, h.2.2.2.2.1, v01, h.2.2.2.2.2.2.1, h.2.2.2.2.2.2.2.1, h.2.2.2.2.2.2.2.2⟩
      · exact ((((((((((Cur.setNew C5 (by omega) _).setNew (by omega) _).setNew (by omega) _).setNew (by omega) _).setNew (by omega) _).setNew (by omega) _).setNew (by omega) _).setNew (by omega) _).setNew (by omega) _).setNew (by omega) _).setNew (by omega) _
      · exact ((((((((((Only.setNew O5.out (by omega) _).setNew (by omega) _).setNew (by omega) _).setNew (by omega) _).setNew (by omega) _).setNew (by omega) _).setNew (by omega) _).setNew (by omega) _).setNew (by omega) _).setNew (by omega) _).setNew (by omega) _
    · go_wp2_with fail
      refine (pick2q int64 B a len cap _ (Cur.alloc CC.out _ _) _ _ _ _ (Sits.new' rfl) (by omega) ⟨by omega, by omega⟩ ⟨by omega, by omega⟩).mono ?_
      rintro o w5 ⟨v, rfl, v01, C5, oo⟩
      have V5 : Hid (Sits w5 V #[.int .i64 r.dscp, .int .i64 r.ecn, .int .i64 r.id, .int .i64 r.ttl, .int .i64 r.proto, .int .i64 r.src, .int .i64 r.dst, .int .i64 r.srcP, .int .i64 r.dstP, .slice x m c] 26) := Sits.only (Sits.alloc V4.out _) oo (by omega)
      have Z5 : Hid (Sits w5 F #[.int .i64 0, .int .i64 0, .int .i64 0, .int .i64 0, .int .i64 0, .int .i64 0, .int .i64 0, .int .i64 0, .int .i64 0, .slice none 0 0] 26) := Sits.only (Sits.alloc Z4.out _) oo (by omega)
      have O5 : Hid (Only B w w5) := Only.trans (Only.alloc O4.out _) oo
      have X5 : Hid (Zn (F + 1) V w5 x m g) := zn_only (zn_alloc X4.out _) oo (by omega)
      have VI : Hid (int64 v) := v01
      clear V4 Z4 O4 CC oo v01
      obtain ⟨p0, p1, p2, p3, p4, p5, p6, p7, p8, p9⟩ := fr_cells' V5.out
      obtain ⟨q0, q1, q2, q3, q4, q5, q6, q7, q8, q9⟩ := fr_cells' Z5.out
      have fz := Sits.frozen V5.out
      have fy := Sits.frozen Z5.out
      go_wp2_with fail
      refine bodyPost_ret (ret_fr (r := ⟨r.dscp, r.ecn, r.id, r.ttl, r.proto, r.src, r.dst, v, r.dstP⟩) (x := x) (m := m) (c := c) (t := 26) (B := F) Try.results12 rfl (fr_store (Sits.other Z5.out (by omega) _))) rfl ⟨_, x, m, c, g, F + 1, V, rfl, ?_, by omega, by omega, (zn_set (zn_set (zn_set (zn_set (zn_set (zn_set (zn_set (zn_set (zn_set (zn_set (zn_set X5.out (.inr (Nat.le_refl _)) _ _) (.inl (by omega)) _ _) (.inl (by omega)) _ _) (.inl (by omega)) _ _) (.inl (by omega)) _ _) (.inl (by omega)) _ _) (.inl (by omega)) _ _) (.inl (by omega)) _ _) (.inl (by omega)) _ _) (.inl (by omega)) _ _) (.inl (by omega)) _ _), HBY.out, ?_, ?_⟩
      · have h := HI.out
        have v01 : int64 v := VI.out
        unfold Fr.In at h ⊢
        exact ⟨h.1, h.2.1, h.2.2.1, h.2.2.2.1, h.2.2.2.2.1, h.2.2.2.2.2.1, h.2.2.2.2.2.2.1, v01, h.2.2.2.2.2.2.2.2⟩
      · exact ((((((((((Cur.setNew C5 (by omega) _).setNew (by omega) _).setNew (by omega) _).setNew (by omega) _).setNew (by omega) _).setNew (by omega) _).setNew (by omega) _).setNew (by omega) _).setNew (by omega) _).setNew (by omega) _).setNew (by omega) _
      · exact ((((((((((Only.setNew O5.out (by omega) _).setNew (by omega) _).setNew (by omega) _).setNew (by omega) _).setNew (by omega) _).setNew (by omega) _).setNew (by omega) _).setNew (by omega) _).setNew (by omega) _).setNew (by omega) _).setNew (by omega) _
    · go_wp2_with fail
      refine (below_any B a len cap _ CC.out 2 (by omega) (by omega)).mono ?_
      rintro o w5 ⟨v, rfl, v0, v1, C5, oo⟩
      have V5 : Hid (Sits w5 V #[.int .i64 r.dscp, .int .i64 r.ecn, .int .i64 r.id, .int .i64 r.ttl, .int .i64 r.proto, .int .i64 r.src, .int .i64 r.dst, .int .i64 r.srcP, .int .i64 r.dstP, .slice x m c] 26) := Sits.only V4.out oo (by omega)
      have Z5 : Hid (Sits w5 F #[.int .i64 0, .int .i64 0, .int .i64 0, .int .i64 0, .int .i64 0, .int .i64 0, .int .i64 0, .int .i64 0, .int .i64 0, .slice none 0 0] 26) := Sits.only Z4.out oo (by omega)
      have O5 : Hid (Only B w w5) := Only.trans O4.out oo
      have lv5 := Sits.lt V5.out
      have lz5 := Sits.lt Z5.out
      clear V4 Z4 O4 CC oo
      obtain ⟨k, rfl⟩ := Int.eq_ofNat_of_zero_le v0
      obtain ⟨N, hN⟩ : ∃ N : Nat, 76 + k = N := ⟨_, rfl⟩
      have eN : (76 : Int) + (k : Int) = (N : Int) := by omega
      have bN : (N : Int) ≤ 77 := by omega
      have hmk := run_make_row' (P := Try.prog) 22 5 (.int .u8 0) 1 Try.underlying22 infoU8 rfl .i64 .i64 N (by omega) (by omega)
      clear hN
      obtain ⟨p0, p1, p2, p3, p4, p5, p6, p7, p8, p9⟩ := fr_cells' V5.out
      obtain ⟨q0, q1, q2, q3, q4, q5, q6, q7, q8, q9⟩ := fr_cells' Z5.out
      have fz := Sits.frozen V5.out
      have fy := Sits.frozen Z5.out
      have BN : Hid (N ≤ 100) := by show N ≤ 100; omega
      clear q0 q1 q2 q3 q4 q5 q6 q7 q8 q9 fy p0 p1 p2 p3 p4 p5 p6 p7 p8
      go_upto_region 13 with fail
      obtain ⟨U, hU⟩ : ∃ U, (w5.setCell ⟨V, 9, none⟩ (.slice (some ⟨w5.heap.size, 0, none⟩) N N)).alloc (.cells (madeCells #[.int .u8 0] N) 5) = U := ⟨_, rfl⟩
      have VU : Hid (Sits U V #[.int .i64 r.dscp, .int .i64 r.ecn, .int .i64 r.id, .int .i64 r.ttl, .int .i64 r.proto, .int .i64 r.src, .int .i64 r.dst, .int .i64 r.srcP, .int .i64 r.dstP, .slice (some ⟨w5.heap.size, 0, none⟩) N N] 26) := by show Sits _ _ _ _; rw [← hU]; exact Sits.alloc (Sits.set V5.out 9 _) _
      have ZU : Hid (Sits U F #[.int .i64 0, .int .i64 0, .int .i64 0, .int .i64 0, .int .i64 0, .int .i64 0, .int .i64 0, .int .i64 0, .int .i64 0, .slice none 0 0] 26) := by show Sits _ _ _ _; rw [← hU]; exact Sits.alloc (Sits.other Z5.out (by omega) _) _
      have OU : Hid (Only B w U) := by show Only _ _ _; rw [← hU]; exact Only.alloc (Only.setNew O5.out (by omega) _) _
      have XU : Hid (Zn w5.heap.size (w5.heap.size + 1) U (some ⟨w5.heap.size, 0, none⟩) N (fun _ => 0)) := by show Zn _ _ _ _ _ _; rw [← hU]; have h0 := made_zn (w5.setCell ⟨V, 9, none⟩ (.slice (some ⟨w5.heap.size, 0, none⟩) N N)) N; simpa [World.setCell] using h0
      have hF5 : F < w5.heap.size := by omega
      have CU : Hid (Cur U B a len cap) := by show Cur _ _ _ _ _; rw [← hU]; exact Cur.alloc (Cur.setNew C5 (by omega) _) _ _
      rw [hU]
      clear hU V5 Z5 O5 C5 fz p9 hmk eN
      obtain ⟨p0, p1, p2, p3, p4, p5, p6, p7, p8, p9⟩ := fr_cells' VU.out
      obtain ⟨q0, q1, q2, q3, q4, q5, q6, q7, q8, q9⟩ := fr_cells' ZU.out
      have fz := Sits.frozen VU.out
      have fy := Sits.frozen ZU.out
      go_wp2_with fail
      refine bodyPost_ret (ret_fr (r := r) (x := some ⟨w5.heap.size, 0, none⟩) (m := N) (c := N) (t := 26) (B := F) Try.results12 rfl (fr_store ZU.out)) rfl ⟨r, _, N, N, fun _ => 0, w5.heap.size, w5.heap.size + 1, rfl, HI.out, BN.out, by omega, (zn_set (zn_set (zn_set (zn_set (zn_set (zn_set (zn_set (zn_set (zn_set (zn_set (XU.out) (.inl (by omega)) _ _) (.inl (by omega)) _ _) (.inl (by omega)) _ _) (.inl (by omega)) _ _) (.inl (by omega)) _ _) (.inl (by omega)) _ _) (.inl (by omega)) _ _) (.inl (by omega)) _ _) (.inl (by omega)) _ _) (.inl (by omega)) _ _), fun i hi => ⟨by show (0 : Int) ≤ 0; omega, by show (0 : Int) ≤ 255; omega⟩, ?_, ?_⟩
      · exact (((((((((Cur.setNew CU.out (by omega) _).setNew (by omega) _).setNew (by omega) _).setNew (by omega) _).setNew (by omega) _).setNew (by omega) _).setNew (by omega) _).setNew (by omega) _).setNew (by omega) _).setNew (by omega) _
      · exact (((((((((Only.setNew OU.out (by omega) _).setNew (by omega) _).setNew (by omega) _).setNew (by omega) _).setNew (by omega) _).setNew (by omega) _).setNew (by omega) _).setNew (by omega) _).setNew (by omega) _).setNew (by omega) _

end Go.Proofs.Ytkhfcemjmnjkdaa
