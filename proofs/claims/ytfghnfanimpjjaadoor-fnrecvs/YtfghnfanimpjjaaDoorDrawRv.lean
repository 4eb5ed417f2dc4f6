/-
  RECEIVERS DRAWN: l11recv.
-/
import Derived.Test.YtfghnfanimpjjaaDoorRecvD
import Derived.Deep.RegionHeld3
import Derived.Deep.Cut
namespace Go.Proofs.YtfghnfanimpjjaaDoor
open Go.RowKit
set_option linter.unusedVariables false

set_option maxRecDepth 100000 in
set_option maxHeartbeats 4000000 in
theorem l11recv_any (B : Nat) (a : Option Addr) (len cap : Nat) (w : World) (hc : Cur w B a len cap) :
    Calls Tryd.prog 19 #[.pointer (some ⟨B, 0, none⟩)] w fun e w' => ∃ (nx : Int) (x : Option Addr) (c : Nat) (L : List Sp), e = .returned (rcVal nx x L.length c) ∧ OS w.heap.size w' x c L ∧ L.length ≤ 8 ∧ (0 ≤ nx ∧ nx ≤ 1000000000000) ∧ Cur w' B a len cap ∧ Only B w w' := by
  have hB := hc.1
  obtain ⟨W0, hW0⟩ : ∃ W, (w.alloc (.cells #[.int .i64 0, .slice none 0 0] 25)).alloc (.cells #[.int .i64 0, .slice none 0 0] 25) = W := ⟨_, rfl⟩
  have H0 : Hid (RD w B a len cap (w.heap.size + 1) 0 none 0 [] W0) := by
    show RD _ _ _ _ _ _ _ _ _ _ _
    rw [← hW0]
    exact ⟨(hc.alloc _ _).alloc _ _, ((Only.refl B w).alloc _).alloc _, (Sits.new _ _ _).alloc _, Sits.new' (by simp), World.ownsRow_nil _ _ _ _, by simp [Value.ownBlock]⟩
  clear hc
  go_enter Tryd.func19, Tryd.ntmps19
  go_wp2_with fail
  (try rw [hW0])
  clear hW0
  obtain ⟨V, hV⟩ : ∃ V, w.heap.size + 1 = V := ⟨_, rfl⟩
  have hVw : w.heap.size < V := by omega
  rw [hV] at H0 ⊢
  clear hV
  refine (below_any B a len cap _ (RD.cur H0.out) 12 (by omega) (by omega)).mono ?_
  rintro e w1 ⟨n, rfl, n0, n1, c1, o1⟩
  have H1 : Hid (RD w B a len cap V 0 none 0 [] w1) := RD.only H0.out hB hVw c1 o1
  clear c1 o1 H0
  obtain ⟨N, rfl⟩ := Int.eq_ofNat_of_zero_le n0
  go_wp2
  go_loopw [5] (fun i wr => ∃ (k : Nat) (nx : Int) (x : Option Addr) (c : Nat) (L : List Sp), k ≤ N ∧ i = .int .i64 k ∧ RD w B a len cap V nx x c L wr ∧ Rv nx L ∧ L.length ≤ 8 ∧ ∀ t, inL' (pcs nx L) t → t < 100 * (k : Int)) (fun i _ => N - (intOf i).toNat)
  case atStart => exact ⟨0, 0, none, 0, [], Nat.zero_le _, rfl, H1.out, ⟨by omega, by omega, trivial⟩, by simp, fun t ht => by
    rcases (inL'_cons _ _ _).1 ht with h | h
    · have h1 : (0 : Int) ≤ t := h.1
      have h2 : t < (0 : Int) := h.2
      omega
    · exact absurd h (inL'_nil t)⟩
  case round =>
    obtain ⟨k, nx, x, c, L, hk, rfl, hrd, hrv, h8, hbd⟩ := hrel
    have HR : Hid (RD w B a len cap V nx x c L wr) := hrd
    have hx1 := rv_hi hrv (by omega) hbd
    have hx0 := hrv.lo
    have HV : Hid (Rv nx L) := hrv
    have HBD : Hid (∀ t, inL' (pcs nx L) t → t < 100 * (k : Int)) := hbd
    have hvc := rc_cells (RD.vs HR.out)
    obtain ⟨v0, v1⟩ := hvc
    clear hrd hrv hbd H1
    by_cases hlt : k < N
    · have hlti : (k : Int) < (N : Int) := by omega
      go_upto_region 6 with fail
      go_region_held3 (fun w' => w'.cell? ⟨V, 0, none⟩ = some (.int .i64 nx)) (first | exact (RD.vs H2.out).cell 0 | exact (RD.vs (RD.drew HR.out)).cell 0) (first | (go_at_call 13; refine (below_any B a len cap _ (RD.cur (RD.drew HR.out)) 40 (by omega) (by omega)).mono ?_; rintro e w2 ⟨d, rfl, d0, d1, c2, o2⟩; have H2 : Hid (RD w B a len cap V nx x c L w2) := RD.only (RD.drew HR.out) hB hVw c2 o2; have hw1 : IntKind.i64.wrap (nx + d) = nx + d := wrap_in (by omega) (by omega); clear c2 o2))
      obtain ⟨fr, hfr⟩ : ∃ fr, nx + d = fr := ⟨_, rfl⟩
      have f0 : 0 ≤ fr := by omega
      have f1 : fr ≤ nx + 39 := by omega
      (try simp only [hw1])
      (try simp only [hfr])
      clear hw1 v0 v1 HR
      obtain ⟨v0, v1⟩ := rc_cells (RD.vs H2.out)
      have HSR : Hid (SR w2.heap.size w2 x L.length (lf L)) := ZS.sr (RD.os H2.out).zs
      go_upto_region 8 with (go_at_call 24; refine (l11own_any nx x L.length c (lf L) _ HSR.out (by omega)).mono ?_; rintro e w3 ⟨y, cy, rfl, hy, b3⟩)
      have eL : spL (lf L) L.length = L := spL_of L
      rw [eL] at hy
      clear eL
      obtain ⟨X, hX⟩ : ∃ X, w3.heap.size = X := ⟨_, rfl⟩
      obtain ⟨W3, hW3⟩ : ∃ W, w3.alloc (.cells #[.int .i64 nx, .slice y L.length cy] 25) = W := ⟨_, rfl⟩
      have b3' : Below w2.heap.size w2 W3 := by rw [← hW3]; exact b3.alloc b3.size _
      have H3 : Hid (RD w B a len cap V nx x c L W3) := RD.below H2.out hB hVw b3'
      have S3 : Hid (Sits W3 X (rcCells nx y L.length cy) 25) := by show Sits _ _ _ _; rw [← hW3]; exact Sits.new' hX
      have Y3 : Hid (OS w2.heap.size W3 y cy L) := by show OS _ _ _ _ _; rw [← hW3]; exact OS.below hy ((Below.refl _ _).alloc (Nat.le_refl _) _)
      have hVl := (RD.vs H2.out).lt
      have hX2 : w2.heap.size ≤ X := by rw [← hX]; exact b3.size
      rw [hW3, hX]
      clear hW3 hX b3 b3' hy v0 v1
      have hw2 : IntKind.i64.wrap (fr + 1) = fr + 1 := wrap_in (by omega) (by omega)
      go_upto_region 9 with (first | (go_at_call 13; refine (below_any B a len cap _ (RD.cur H3.out) 9 (by omega) (by omega)).mono ?_; rintro e w4 ⟨d', rfl, d0', d1', c4, o4⟩; have H4 : Hid (RD w B a len cap V nx x c L w4) := RD.only H3.out hB hVw c4 o4; have S4 : Hid (Sits w4 X (rcCells nx y L.length cy) 25) := Sits.only S3.out o4 (by omega); have Y4 : Hid (OS w2.heap.size w4 y cy L) := os_hold Y3.out (fun k e => o4.block k (os_own Y3.out k e).2 (by have := (os_own Y3.out k e).1; omega)); have hz4 : w2.heap.size ≤ w4.heap.size := Nat.le_trans hX2 (Nat.le_of_lt (Sits.lt S4.out)); have hw3 : IntKind.i64.wrap (fr + 1 + d') = fr + 1 + d' := wrap_in (by omega) (by omega); clear c4 o4) | (go_at_call 25; refine (l11seg_in X nx fr (fr + 1 + d') y cy L w2.heap.size _ S4.out Y4.out hz4 HV.out h8 f0 (by omega) (by omega)).mono ?_; rintro e w5 ⟨m, ok, rfl, ho5, hok⟩))
      have hV4 : V < X := by omega
      have HB5 : Hid (Below X w4 w5) := Only.below ho5 (Nat.le_refl _) (Nat.le_of_lt (Sits.lt S4.out))
      have H5 : Hid (RD w B a len cap V nx x c L w5) := RD.low H4.out hB hVw HB5.out hV4 (fun q e => Nat.lt_of_lt_of_le (os_own (RD.os H2.out) q e).2 hX2)
      cases ok
      case false =>
        clear hok
        go_wp2
        go_roundw
        case rel => exact ⟨k + 1, nx, x, c, L, by omega, by go_num, H5.out, HV.out, h8, fun t ht => by have := HBD.out t ht; omega⟩
        case measure => simp [intOf]; omega
      case true =>
        obtain ⟨N', M, z, cz, sX, hz, hrv', h8', hT⟩ := hok rfl
        obtain ⟨x0, x1⟩ := rc_cells sX
        obtain ⟨v0, v1⟩ := rc_cells (RD.vs H5.out)
        have fV := (RD.vs H5.out).frozen
        have hV5 := (RD.vs H5.out).lt
        have HZ : Hid (OS w2.heap.size w5 z cz M) := hz
        have HRV : Hid (Rv N' M) := hrv'
        have HT : Hid (∀ t, inL' (pcs N' M) t → inL' (pcs nx L) t ∨ t < fr + 1 + d') := hT
        clear hok hz hrv' hT sX ho5
        go_wp2
        go_roundw
        case rel => exact ⟨k + 1, N', z, cz, M, by omega, by go_num, RD.put H5.out hB hVw (OS.mono HZ.out (by omega)) (fun q e => by have := (os_own HZ.out q e).1; omega), HRV.out, h8', fun t ht => by
          rcases HT.out t ht with h | h
          · have := HBD.out t h; omega
          · omega⟩
        case measure => simp [intOf]; omega
    · obtain rfl : k = N := by omega
      have fR := (RD.rs HR.out).frozen
      have hRl := (RD.rs HR.out).lt
      obtain ⟨r0, r1⟩ := rc_cells (RD.rs HR.out)
      have hout := RD.back HR.out hB hVw
      have HOUT : Hid _ := hout
      have hhi := (HV.out).hi
      clear hout
      go_wp2
      exact bodyPost_ret (ret_rc (t := 25) (B := w.heap.size) Tryd.results19 rfl (HOUT.out).1) rfl ⟨nx, x, c, L, rfl, (HOUT.out).2.1, h8, ⟨hx0, hhi⟩, (HOUT.out).2.2.1, (HOUT.out).2.2.2⟩

end Go.Proofs.YtfghnfanimpjjaaDoor
