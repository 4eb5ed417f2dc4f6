/-
  WHAT FnFifos DRAWS: DrawPush: a queue and a packet.
-/
import Derived.Test.YtkmiijgoinpndaaFifosQ
import Derived.Deep.RegionHeld3
import Derived.Deep.Cut
namespace Go.Proofs.Ytkmiijgoinpndaa
open Go.RowKit
set_option linter.unusedVariables false

theorem ret_fp {fn : Func} {tmps : Array Value} {W : World} {i j B C : Nat} {v u : Value} {p : Pk} {t t' : TypeId} (hr : fn.results = #[.cell i 25, .cell j 27]) (hi : tmps[i]?.getD undef = .pointer (some ⟨B, 0, none⟩)) (hj : tmps[j]?.getD undef = .pointer (some ⟨C, 0, none⟩)) (hs : Sits W B #[v, u] t) (h2 : Sits W C (pkCells p) t') : (results fn tmps).run Try.prog W = .ok (.tuple #[.agg #[v, u], p.val]) W := by
  have f0 : W.cell? ⟨B, 0, none⟩ = some v := hs.cell 0
  have f1 : W.cell? ⟨B, 1, none⟩ = some u := hs.cell 1
  have e0 : W.cell? ⟨C, 0, none⟩ = some (.int .i64 p.id) := h2.cell 0
  have e1 : W.cell? ⟨C, 1, none⟩ = some (.int .i64 p.flow) := h2.cell 1
  have e2 : W.cell? ⟨C, 2, none⟩ = some (.int .i64 p.host) := h2.cell 2
  have e3 : W.cell? ⟨C, 3, none⟩ = some (.int .i64 p.size) := h2.cell 3
  have e4 : W.cell? ⟨C, 4, none⟩ = some (.int .i64 p.tm) := h2.cell 4
  have e5 : W.cell? ⟨C, 5, none⟩ = some (.int .i64 p.ecn) := h2.cell 5
  simp [results, hr, hi, hj, go_sem, f0, f1, e0, e1, e2, e3, e4, e5, Pk.val]

theorem sits_sf {W : World} {V : Nat} {x : Option Addr} {n k : Nat} {lim : Int} {t : TypeId} (h : Sits W V #[.slice x n k, .int .i64 lim] t) : SF V x n k lim W := ⟨h.cell 0, h.cell 1⟩
theorem sits_put2 {W : World} {V A : Nat} {c : Array Value} {t : TypeId} {v u : Value} (h : Sits W V c t) (hne : V ≠ A) : Sits ((W.setCell ⟨A, 0, none⟩ v).setCell ⟨A, 1, none⟩ u) V c t := (h.other hne _).other hne _
theorem sits_put6 {W : World} {V A : Nat} {c : Array Value} {t : TypeId} {a0 a1 a2 a3 a4 a5 : Value} (h : Sits W V c t) (hne : V ≠ A) : Sits ((((((W.setCell ⟨A, 0, none⟩ a0).setCell ⟨A, 1, none⟩ a1).setCell ⟨A, 2, none⟩ a2).setCell ⟨A, 3, none⟩ a3).setCell ⟨A, 4, none⟩ a4).setCell ⟨A, 5, none⟩ a5) V c t := (((((h.other hne _).other hne _).other hne _).other hne _).other hne _).other hne _
/-- All that is known while the region runs. -/
structure DP (w : World) (B V : Nat) (a : Option Addr) (len cap : Nat) (x : Option Addr) (n k : Nat) (lim : Int) (g : Nat → Pk) (L : Nat) (W : World) : Prop where
  cur : Cur W B a len cap
  fo : Sits W V #[.slice x n k, .int .i64 lim] 25
  r1 : Sits W w.heap.size #[.slice none 0 0, .int .i64 0] 25
  r2 : Sits W (w.heap.size + 1) #[.int .i64 0, .int .i64 0, .int .i64 0, .int .i64 0, .int .i64 0, .int .i64 0] 27
  zi : ZI L V W x (n * 6) (flat g)
  bel : Below w.heap.size w W
theorem DP.drew {w : World} {B V : Nat} {a : Option Addr} {len cap : Nat} {x : Option Addr} {n k : Nat} {lim : Int} {g : Nat → Pk} {L : Nat} {W : World} (h : DP w B V a len cap x n k lim g L W) : DP w B V a len cap x n k lim g L W.drew :=
  ⟨h.cur.drew, h.fo.drew, h.r1.drew, h.r2.drew, ZI.below h.zi ((Below.refl _ _).drew), h.bel.drew⟩
theorem DP.alloc {w : World} {B V : Nat} {a : Option Addr} {len cap : Nat} {x : Option Addr} {n k : Nat} {lim : Int} {g : Nat → Pk} {L : Nat} {W : World} (h : DP w B V a len cap x n k lim g L W) (c : Array Value) (t : TypeId) : DP w B V a len cap x n k lim g L (W.alloc (.cells c t)) :=
  ⟨h.cur.alloc _ _, h.fo.alloc _, h.r1.alloc _, h.r2.alloc _, ZI.below h.zi ((Below.refl _ _).alloc (Nat.le_refl _) _), h.bel.alloc h.bel.size _⟩
theorem DP.only {w : World} {B V : Nat} {a : Option Addr} {len cap : Nat} {x : Option Addr} {n k : Nat} {lim : Int} {g : Nat → Pk} {L : Nat} {W W' : World} (h : DP w B V a len cap x n k lim g L W) (h1 : w.heap.size + 1 < B) (h2 : B < V) (h3 : B < L) (hc : Cur W' B a len cap) (ho : Only B W W') : DP w B V a len cap x n k lim g L W' :=
  ⟨hc, h.fo.only ho (by omega), h.r1.only ho (by omega), h.r2.only ho (by omega), zi_only h.zi ho h3, h.bel.trans (ho.below (by omega) h.bel.size)⟩

set_option maxRecDepth 100000 in
set_option maxHeartbeats 40000000 in
theorem drawPush (a : Option Addr) (len cap : Nat) (w : World) (hl : len ≤ 9223372036854775807) (hcode : Code w w.heap.size a len) :
    Calls Try.prog 4 #[.slice a len cap] w fun e w' => ∃ (x : Option Addr) (n k : Nat) (lim : Int) (g : Nat → Pk) (p : Pk), e = .returned (.tuple #[.agg #[.slice x n k, .int .i64 lim], p.val]) ∧ ZI w.heap.size w'.heap.size w' x (n * 6) (flat g) ∧ n ≤ k ∧ n ≤ 13 ∧ (∀ j, j < n → (g j).small) ∧ (0 ≤ lim ∧ lim ≤ 41) ∧ (∃ id tm, p.drawn id tm ∧ (1 ≤ id ∧ id ≤ 99) ∧ (-1 ≤ tm ∧ tm ≤ 1000000000002)) ∧ Below w.heap.size w w' := by
  obtain ⟨W, hW⟩ : ∃ x, (w.alloc (.cells #[.slice none 0 0, .int .i64 0] 25)).alloc (.cells #[.int .i64 0, .int .i64 0, .int .i64 0, .int .i64 0, .int .i64 0, .int .i64 0] 27) = x := ⟨_, rfl⟩
  have hsz : W.heap.size = w.heap.size + 1 + 1 := by rw [← hW]; simp
  have y0 : Sits W w.heap.size #[.slice none 0 0, .int .i64 0] 25 := by rw [← hW]; exact (Sits.new _ _ _).alloc _
  have q0 : Sits W (w.heap.size + 1) #[.int .i64 0, .int .i64 0, .int .i64 0, .int .i64 0, .int .i64 0, .int .i64 0] 27 := by rw [← hW]; exact Sits.new' (by simp)
  have b0 : Below w.heap.size w W := by rw [← hW]; exact ((Below.refl _ _).alloc (Nat.le_refl _) _).alloc (by simp) _
  have hcd : Code W W.heap.size a len := by
    rcases hcode with h | ⟨b, off, ha, hb, hk⟩
    · exact .inl h
    · refine .inr ⟨b, off, ha, by omega, fun k hk' => ?_⟩
      obtain ⟨v, v0, v1, hv⟩ := hk k hk'
      exact ⟨v, v0, v1, (b0.cell (p := ⟨b, off + k, none⟩) (by show b < _; omega)).trans hv⟩
  clear hcode
  go_enter Try.func4, Try.ntmps4
  go_wp2_with fail
  (try rw [hW])
  refine (new_any a len cap W hl hcd).mono ?_
  rintro e w1 ⟨rfl, c1, b1⟩
  obtain ⟨B, hB⟩ : ∃ B, W.heap.size = B := ⟨_, rfl⟩
  rw [hB] at c1 ⊢
  have y1 := y0.below b1 y0.lt
  have q1 := q0.below b1 q0.lt
  replace b1 := b0.trans (b1.mono b0.size)
  have lB : w.heap.size + 1 < B := by omega
  clear hcd hW b0 hB y0 q0 hsz
  go_wp2_with fail
  refine (l3bent_any B a len cap _ c1).mono ?_
  rintro e w2 ⟨x, n, k, lim, g, rfl, hz, hnk, hn, hg, hlim, c2, o2⟩
  have hB1 := c1.1
  have y2 := y1.only o2 (by omega)
  have q2 := q1.only o2 (by omega)
  have b2 := b1.trans (o2.below (by omega) b1.size)
  have lb := lastF_bd hg
  have HG : Hid (∀ j, j < n → (g j).small) := hg
  clear hg b1 y1 q1 c1 o2
  go_upto_region 3 with fail
  obtain ⟨V, hV⟩ : ∃ V, w2.heap.size = V := ⟨_, rfl⟩
  obtain ⟨wv, hwv⟩ : ∃ x', w2.alloc (.cells #[.slice x n k, .int .i64 lim] 25) = x' := ⟨_, rfl⟩
  obtain ⟨L, hL⟩ : ∃ L, w1.heap.size = L := ⟨_, rfl⟩
  have hVB : B < V := by rw [← hV]; exact c2.1
  have hLB : B < L := by rw [← hL]; exact hB1
  have HD : Hid (DP w B V a len cap x n k lim g L wv) := by
    show DP w B V a len cap x n k lim g L wv
    rw [← hwv]
    rw [hL, hV] at hz
    exact ⟨c2.alloc _ _, Sits.new' hV, y2.alloc _, q2.alloc _, ZI.below hz ((Below.refl _ _).alloc (Nat.le_refl _) _), b2.alloc b2.size _⟩
  have hlv : V < wv.heap.size := Sits.lt (HD.out).fo
  rw [hwv, hV]
  clear hwv hV hL c2 y2 q2 b2 hz hB1
  obtain ⟨la, hla⟩ : ∃ la, lastF g n = la := ⟨_, rfl⟩
  rw [hla] at lb
  have HLA : Hid (lastF g n = la) := hla
  have hnm : n ≤ 1048576 := by omega
  clear hla
  go_region_held3 (fun w' => SF V x n k lim w') (first | (with_reducible exact HSF7.out) | (with_reducible exact SF.set (SF.set (HSF7.out) _ _ _ hAV) _ _ _ hAV) | (with_reducible exact SF.set (SF.set (SF.set (SF.set (SF.set (SF.set (SF.set (SF.set (HSF7.out) _ _ _ hAV) _ _ _ hAV) _ _ _ hCV) _ _ _ hCV) _ _ _ hCV) _ _ _ hCV) _ _ _ hCV) _ _ _ hCV) | (with_reducible exact SF.set (SF.set (SF.set (SF.set (SF.set (SF.set (HSF7.out) _ _ _ hCV) _ _ _ hCV) _ _ _ hCV) _ _ _ hCV) _ _ _ hCV) _ _ _ hCV) | (with_reducible exact sits_sf (DP.fo (DP.drew HD.out))) | (with_reducible exact sits_sf (DP.fo (DP.drew (DP.alloc HD.out _ _)))) | (with_reducible exact sits_sf (DP.fo H3.out)) | (with_reducible exact sits_sf (DP.fo (DP.alloc H3.out _ _))) | (with_reducible exact sits_sf (DP.fo H5.out)) | (with_reducible exact sits_sf (DP.fo H6.out)) | fail)
    (first | (go_at_call 17; refine Calls.mono (pick4q (fun v => 1 ≤ v ∧ v ≤ 99) B a len cap _ (DP.cur (DP.drew (DP.alloc HD.out _ _))) _ _ 99 99 99 1 (Sits.drew (Sits.new' rfl)) (by omega) (by omega) (by omega) (by omega) (by omega)) ?_; rintro e w3 ⟨id, rfl, ⟨id0, id1⟩, c3, o3⟩; have H3 : Hid (DP w B V a len cap x n k lim g L w3) := DP.only (DP.drew (DP.alloc HD.out _ _)) lB hVB hLB c3 o3; clear c3 o3)
            | (go_at_call 18; refine (l3last_any x n k g lim _ hnm (ZI.pr (DP.zi H3.out))).mono ?_; rintro e w4 ⟨rfl, rfl⟩; rw [HLA.out])
            | (go_at_call 19; refine (below_any B a len cap _ (DP.cur H5.out) 2 (by omega) (by omega)).mono ?_; rintro e w6 ⟨d2, rfl, d20, d21, c6, o6⟩; have H6 : Hid (DP w B V a len cap x n k lim g L w6) := DP.only H5.out lB hVB hLB c6 o6; clear c6 o6)
            | (go_at_call 19; refine (below_any B a len cap _ (DP.cur (DP.alloc H3.out _ _)) 3 (by omega) (by omega)).mono ?_; rintro e w5 ⟨d1, rfl, d10, d11, c5, o5⟩; have H5 : Hid (DP w B V a len cap x n k lim g L w5) := DP.only (DP.alloc H3.out _ _) lB hVB hLB c5 o5; clear c5 o5)
            | (go_at_call 16; refine (l3pkt_any B a len cap _ (DP.cur H6.out) _ _).mono ?_; rintro e w7 ⟨⟨i7, f7, h7, s7, t7, e7⟩, rfl, hp7, c7, o7⟩; have H7 : Hid (DP w B V a len cap x n k lim g L w7) := DP.only H6.out lB hVB hLB c7 o7; have HSF7 : Hid (SF V x n k lim w7) := sits_sf (DP.fo H7.out); have hAV : w.heap.size ≠ V := (by omega); have hCV : w.heap.size + 1 ≠ V := (by omega); have u0 : w7.cell? ⟨w.heap.size, 0, none⟩ = some (.slice none 0 0) := (DP.r1 H7.out).cell 0; have u1 : w7.cell? ⟨w.heap.size, 1, none⟩ = some (.int .i64 0) := (DP.r1 H7.out).cell 1; have v0 : w7.cell? ⟨w.heap.size + 1, 0, none⟩ = some (.int .i64 0) := (DP.r2 H7.out).cell 0; have v1 : w7.cell? ⟨w.heap.size + 1, 1, none⟩ = some (.int .i64 0) := (DP.r2 H7.out).cell 1; have v2 : w7.cell? ⟨w.heap.size + 1, 2, none⟩ = some (.int .i64 0) := (DP.r2 H7.out).cell 2; have v3 : w7.cell? ⟨w.heap.size + 1, 3, none⟩ = some (.int .i64 0) := (DP.r2 H7.out).cell 3; have v4 : w7.cell? ⟨w.heap.size + 1, 4, none⟩ = some (.int .i64 0) := (DP.r2 H7.out).cell 4; have v5 : w7.cell? ⟨w.heap.size + 1, 5, none⟩ = some (.int .i64 0) := (DP.r2 H7.out).cell 5; have fz := (DP.r1 H7.out).frozen; have fy := (DP.r2 H7.out).frozen; have HP7 : Hid _ := hp7; clear hp7 c7 o7))
  all_goals
    go_wp2_with fail
    refine bodyPost_ret (ret_fp (v := .slice x n k) (u := .int .i64 lim) (p := ⟨i7, f7, h7, s7, t7, e7⟩) (t := 25) (t' := 27) (B := w.heap.size) (C := w.heap.size + 1) Try.results4 rfl rfl ?s1 ?s2) rfl ⟨x, n, k, lim, g, _, rfl, ?zz, hnk, hn, HG.out, hlim, ⟨_, _, HP7.out, ⟨id0, id1⟩, ?tm⟩, ?bb⟩
    case s1 => exact sits_put6 (Sits.set (Sits.set (DP.r1 H7.out) 0 _) 1 _) (by omega)
    case s2 => exact pk_store (sits_put2 (DP.r2 H7.out) (by omega))
    case zz => exact ZI.wide (zi_low (zi_low (zi_low (zi_low (zi_low (zi_low (zi_low (zi_low (DP.zi H7.out) (by omega) _ _) (by omega) _ _) (by omega) _ _) (by omega) _ _) (by omega) _ _) (by omega) _ _) (by omega) _ _) (by omega) _ _) (by omega) (by have := (DP.fo H7.out).lt; simp; omega)
    case tm =>
      have hwr1 : IntKind.i64.wrap (la + d1) = la + d1 := by rw [IntKind.wrap_i64]; omega
      have hwr2 : IntKind.i64.wrap (la + d1 - d2) = la + d1 - d2 := by rw [IntKind.wrap_i64]; omega
      rw [hwr1, hwr2]
      omega
    case bb => exact (Below.setCell (Below.setCell (Below.setCell (Below.setCell (Below.setCell (Below.setCell (Below.setCell (Below.setCell (DP.bel H7.out) (Nat.le_refl _) _) (Nat.le_refl _) _) (Nat.le_succ _) _) (Nat.le_succ _) _) (Nat.le_succ _) _) (Nat.le_succ _) _) (Nat.le_succ _) _) (Nat.le_succ _) _)

end Go.Proofs.Ytkmiijgoinpndaa
