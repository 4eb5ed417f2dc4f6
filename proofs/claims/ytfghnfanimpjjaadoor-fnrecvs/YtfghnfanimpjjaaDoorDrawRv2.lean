/-
  RECEIVERS DRAWN: l11bent, DrawRecvSeg.
-/
import Derived.Test.YtfghnfanimpjjaaDoorDrawRv
import Derived.Deep.Cut
namespace Go.Proofs.YtfghnfanimpjjaaDoor
open Go.RowKit
set_option linter.unusedVariables false

set_option maxRecDepth 100000 in
set_option maxHeartbeats 8000000 in
theorem l11bent_any (B : Nat) (a : Option Addr) (len cap : Nat) (w : World) (hc : Cur w B a len cap) :
    Calls Tryd.prog 11 #[.pointer (some ⟨B, 0, none⟩)] w fun e w' => ∃ (nx : Int) (x : Option Addr) (c : Nat) (L : List Sp), e = .returned (rcVal nx x L.length c) ∧ OS w.heap.size w' x c L ∧ L.length ≤ 9 ∧ (-1 ≤ nx ∧ nx ≤ 1000000000001) ∧ Cur w' B a len cap ∧ Only B w w' := by
  have hB := hc.1
  obtain ⟨W0, hW0⟩ : ∃ W, w.alloc (.cells #[.int .i64 0, .slice none 0 0] 25) = W := ⟨_, rfl⟩
  have hs0 : W0.heap.size = w.heap.size + 1 := by rw [← hW0]; simp
  have C0 : Hid (Cur W0 B a len cap) := by show Cur _ _ _ _ _; rw [← hW0]; exact hc.alloc _ _
  have O0 : Hid (Only B w W0) := by show Only _ _ _; rw [← hW0]; exact (Only.refl B w).alloc _
  have R0 : Hid (Sits W0 w.heap.size (rcCells 0 none 0 0) 25) := by show Sits _ _ _ _; rw [← hW0]; exact Sits.new _ _ _
  have HS0 : Hid (W0.heap.size = w.heap.size + 1) := hs0
  clear hc hs0
  go_enter Tryd.func11, Tryd.ntmps11
  go_wp2_with fail
  (try rw [hW0])
  clear hW0
  refine (l11recv_any B a len cap _ C0.out).mono ?_
  rintro e w1 ⟨nx, x, c, L, rfl, hos, h8, ⟨hx0, hx1⟩, c1, o1⟩
  have HOS : Hid (OS W0.heap.size w1 x c L) := hos
  have C1 : Hid (Cur w1 B a len cap) := c1
  have O1 : Hid (Only B W0 w1) := o1
  clear hos c1 o1
  go_upto_region 2 with fail
  obtain ⟨V, hV⟩ : ∃ V, w1.heap.size = V := ⟨_, rfl⟩
  obtain ⟨W1, hW1⟩ : ∃ W, w1.alloc (.cells #[.int .i64 nx, .slice x L.length c] 25) = W := ⟨_, rfl⟩
  have hVw : w.heap.size < V := by have := HS0.out; have := (O1.out).size; omega
  have H1 : Hid (RD w B a len cap V nx x c L W1) := by
    show RD _ _ _ _ _ _ _ _ _ _ _
    have hz := HS0.out
    have hos : OS (w.heap.size + 1) w1 x c L := by rw [← hz]; exact HOS.out
    rw [← hW1]
    exact ⟨(C1.out).alloc _ _, ((O0.out).trans O1.out).alloc _, ((R0.out).only O1.out (by omega)).alloc _, Sits.new' hV, OS.below hos ((Below.refl _ _).alloc (Nat.le_refl _) _), fun k e => by have := (os_own hos k e).2; omega⟩
  rw [hW1, hV]
  clear hW1 hV HOS C1 O1 C0 O0 R0 HS0
  go_wp2_with fail
  refine (once_any B a len cap _ (RD.cur H1.out) 8 (by omega) (by omega)).mono ?_
  rintro e w2 ⟨b2, rfl, c2, o2⟩
  have H2 : Hid (RD w B a len cap V nx x c L w2) := RD.only H1.out hB hVw c2 o2
  clear c2 o2 H1
  cases b2
  case false =>
    obtain ⟨v0, v1⟩ := rc_cells (RD.vs H2.out)
    have fR := (RD.rs H2.out).frozen
    have hRl := (RD.rs H2.out).lt
    obtain ⟨r0, r1⟩ := rc_cells (RD.rs H2.out)
    have hout := RD.back H2.out hB hVw
    have HOUT : Hid _ := hout
    clear hout
    go_wp2
    exact bodyPost_ret (ret_rc (t := 25) (B := w.heap.size) Tryd.results11 rfl (HOUT.out).1) rfl ⟨nx, x, c, L, rfl, (HOUT.out).2.1, by omega, by omega, (HOUT.out).2.2.1, (HOUT.out).2.2.2⟩
  case true =>
    go_wp2_with fail
    refine (below_any B a len cap _ (RD.cur H2.out) 3 (by omega) (by omega)).mono ?_
    rintro e w3 ⟨q, rfl, q0, q1, c3, o3⟩
    have H3 : Hid (RD w B a len cap V nx x c L w3) := RD.only H2.out hB hVw c3 o3
    clear c3 o3 H2
    rcases (show q = 0 ∨ q = 1 ∨ q = 2 by omega) with rfl | rfl | rfl
    · clear q0 q1
      go_wp2_with fail
      refine Calls.mono (pick_lit (fun v => -1 ≤ v ∧ v ≤ 1000000000001) B a len cap _ (RD.cur H3.out) _ _ 3 ?n1 ?n2 ?n3 ?q) ?_
      case n1 => rfl
      case n2 => omega
      case n3 => omega
      case q =>
        intro v hv
        simp only [List.mem_cons, List.not_mem_nil, or_false] at hv
        rcases hv with rfl | rfl | rfl
        all_goals exact ⟨_, rfl, by omega, by omega⟩
      rintro e w4 ⟨N, rfl, ⟨N0, N1⟩, c4, o4⟩
      have H4 : Hid (RD w B a len cap V nx x c L w4) := RD.only H3.out hB hVw c4 o4
      have H5 : Hid (RD w B a len cap V N x c L (w4.setCell ⟨V, 0, none⟩ (.int .i64 N))) := RD.put0 H4.out hB hVw
      obtain ⟨v0, v1⟩ := rc_cells (RD.vs H4.out)
      have fV := (RD.vs H4.out).frozen
      clear c4 o4
      go_upto_region 12 with fail
      obtain ⟨W5, hW5⟩ : ∃ W, w4.setCell ⟨V, 0, none⟩ (.int .i64 N) = W := ⟨_, rfl⟩
      rw [hW5] at H5 ⊢
      clear hW5 v0 v1 fV H4 H3
      obtain ⟨v0, v1⟩ := rc_cells (RD.vs H5.out)
      have fR := (RD.rs H5.out).frozen
      have hRl := (RD.rs H5.out).lt
      obtain ⟨r0, r1⟩ := rc_cells (RD.rs H5.out)
      have hout := RD.back H5.out hB hVw
      have HOUT : Hid _ := hout
      clear hout
      go_wp2
      exact bodyPost_ret (ret_rc (t := 25) (B := w.heap.size) Tryd.results11 rfl (HOUT.out).1) rfl ⟨N, x, c, L, rfl, (HOUT.out).2.1, by omega, ⟨N0, N1⟩, (HOUT.out).2.2.1, (HOUT.out).2.2.2⟩
    · clear q0 q1
      obtain ⟨v0, v1⟩ := rc_cells (RD.vs H3.out)
      have fV := (RD.vs H3.out).frozen
      have hVl := (RD.vs H3.out).lt
      go_upto_region 11 with fail
      go_wp2_with fail
      go_region_law (first | (refine step_append_sp (by rfl) _ _ (by rfl) (w.heap.size + 1) x c L L.length rfl (by rfl) (RD.os (RD.alloc H5.out hB hVw _)) _ 1 1 (fun _ => ⟨d4, d5⟩) (by rfl) (sr_one w5 d4 d5 _) (by omega) (by omega) ((RD.rs (RD.alloc H5.out hB hVw _)).lt) ?_; intro y cy w6 ho6 hg6; have hap := RD.app (RD.alloc H5.out hB hVw _) hB hVw hg6 ho6; have z6 := (rc_cells hap.1).2; have f6 := hap.1.frozen; have hl6 := hap.1.lt; have eM : (L ++ spL (fun _ => (⟨d4, d5⟩ : Sp)) 1).length = L.length + 1 := by rw [List.length_append, spL_len]) | (refine step_below (by rfl) _ _ _ _ (by rfl) B 90 (by omega) (by omega) (by rfl) (by rfl) a len cap (RD.cur H4.out) ?_; intro d5 w5 d50 d51 c5 o5; have H5 : Hid (RD w B a len cap V nx x c L w5) := RD.only H4.out hB hVw c5 o5; have z5 := (rc_cells (RD.vs H5.out)).2; have f5 := (RD.vs H5.out).frozen; have hl5 := (RD.vs H5.out).lt; have hn5 : ¬ V = w5.heap.size := Nat.ne_of_lt hl5) | (refine step_below (by rfl) _ _ _ _ (by rfl) B 90 (by omega) (by omega) (by rfl) (by rfl) a len cap (RD.cur (RD.drew H3.out)) ?_; intro d4 w4 d40 d41 c4 o4; have H4 : Hid (RD w B a len cap V nx x c L w4) := RD.only (RD.drew H3.out) hB hVw c4 o4; have z4 := (rc_cells (RD.vs H4.out)).2))
      all_goals
        obtain ⟨M, hM⟩ : ∃ M, L ++ spL (fun _ => (⟨d4, d5⟩ : Sp)) 1 = M := ⟨_, rfl⟩
        have H6 := hap.2
        rw [hM] at eM H6
        clear hM hap ho6 hg6
        go_upto_region 12 with fail
        obtain ⟨W7, hW7⟩ : ∃ W, w6.setCell ⟨V, 1, none⟩ (.slice y (L.length + 1) cy) = W := ⟨_, rfl⟩
        rw [eM, hW7] at H6
        rw [hW7]
        have H7 : Hid (RD w B a len cap V nx y cy M W7) := H6
        have hM9 : M.length ≤ 9 := by omega
        clear eM hW7 z6 f6 hl6 H6 H5 H4 H3 z5 f5 hl5 hn5 z4 v0 v1 fV
        obtain ⟨v0, v1⟩ := rc_cells (RD.vs H7.out)
        have fR := (RD.rs H7.out).frozen
        have hRl := (RD.rs H7.out).lt
        obtain ⟨r0, r1⟩ := rc_cells (RD.rs H7.out)
        have hout := RD.back H7.out hB hVw
        have HOUT : Hid _ := hout
        clear hout
        go_wp2
        exact bodyPost_ret (ret_rc (t := 25) (B := w.heap.size) Tryd.results11 rfl (HOUT.out).1) rfl ⟨nx, y, cy, M, rfl, (HOUT.out).2.1, by omega, by omega, (HOUT.out).2.2.1, (HOUT.out).2.2.2⟩
    · clear q0 q1
      go_wp2
      go_loopw [4] (fun i wr => ∃ (k : Nat) (y : Option Addr) (cy : Nat) (M : List Sp), i = .int .i64 k ∧ RD w B a len cap V nx y cy M wr ∧ M.length = L.length + k ∧ M.length ≤ 9) (fun i _ => 10 - (intOf i).toNat)
      case atStart => exact ⟨0, x, c, L, rfl, H3.out, by omega, by omega⟩
      case round =>
        obtain ⟨k, y, cy, M, rfl, hrd, hml, hm9⟩ := hrel
        have HR : Hid (RD w B a len cap V nx y cy M wr) := hrd
        have HML : Hid (M.length = L.length + k) := hml
        have hk9 : k ≤ 9 := by omega
        clear hrd H3 hml
        go_upto_region 5 with fail
        go_region_held3 (fun w' => w'.cell? ⟨V, 1, none⟩ = some (.slice y M.length cy)) (first | exact (RD.vs H4.out).cell 1 | exact (RD.vs (RD.drew HR.out)).cell 1) (first | (go_at_call 13; refine (below_any B a len cap _ (RD.cur (RD.drew HR.out)) 2 (by omega) (by omega)).mono ?_; rintro e w4 ⟨d, rfl, d0, d1, c4, o4⟩; have H4 : Hid (RD w B a len cap V nx y cy M w4) := RD.only (RD.drew HR.out) hB hVw c4 o4; have hw1 : IntKind.i64.wrap (8 + d) = 8 + d := wrap_in (by omega) (by omega); clear c4 o4))
        (try simp only [hw1])
        clear hw1
        obtain ⟨v0, v1⟩ := rc_cells (RD.vs H4.out)
        have hV4 := (RD.vs H4.out).lt
        by_cases hcd : (M.length : Int) < 8 + d
        · have hw1 : IntKind.i64.wrap (10 * (k : Int)) = 10 * (k : Int) := wrap_in (by omega) (by omega)
          have hw2 : IntKind.i64.wrap (1000 + 10 * (k : Int)) = 1000 + 10 * (k : Int) := wrap_in (by omega) (by omega)
          have hw3 : IntKind.i64.wrap (1005 + 10 * (k : Int)) = 1005 + 10 * (k : Int) := wrap_in (by omega) (by omega)
          go_wp2_with (at_builtin; refine wpList_append_sp rfl _ _ rfl (w.heap.size + 1) y cy M M.length rfl rfl (RD.os (RD.alloc H4.out hB hVw _)) _ 1 1 (fun _ => ⟨1000 + 10 * (k : Int), 1005 + 10 * (k : Int)⟩) rfl (sr_one w4 _ _ _) (by omega) (by omega) ((RD.rs (RD.alloc H4.out hB hVw _)).lt) ?_; intro z cz w6 ho6 hg6; have hap := RD.app (RD.alloc H4.out hB hVw _) hB hVw hg6 ho6; have z6 := (rc_cells hap.1).2; have f6 := hap.1.frozen)
          have eM : (M ++ spL (fun _ => (⟨1000 + 10 * (k : Int), 1005 + 10 * (k : Int)⟩ : Sp)) 1).length = M.length + 1 := by rw [List.length_append, spL_len]
          have H6 := hap.2
          rw [eM] at H6
          go_roundw
          case rel => exact ⟨k + 1, z, cz, _, by go_num, H6, by have := HML.out; rw [eM]; omega, by rw [eM]; omega⟩
          case measure => simp [intOf]; omega
        · clear v0 v1
          obtain ⟨v0, v1⟩ := rc_cells (RD.vs H4.out)
          have fR := (RD.rs H4.out).frozen
          have hRl := (RD.rs H4.out).lt
          obtain ⟨r0, r1⟩ := rc_cells (RD.rs H4.out)
          have hout := RD.back H4.out hB hVw
          have HOUT : Hid _ := hout
          clear hout
          go_wp2
          exact bodyPost_ret (ret_rc (t := 25) (B := w.heap.size) Tryd.results11 rfl (HOUT.out).1) rfl ⟨nx, y, cy, M, rfl, (HOUT.out).2.1, by omega, by omega, (HOUT.out).2.2.1, (HOUT.out).2.2.2⟩

end Go.Proofs.YtfghnfanimpjjaaDoor
