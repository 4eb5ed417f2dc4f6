/-
  RECEIVERS DRAWN: DrawRecvSeg.
-/
import Derived.Test.YtfghnfanimpjjaaDoorDrawRv2
import Derived.Deep.RegionHeld3
import Derived.Deep.Cut
namespace Go.Proofs.YtfghnfanimpjjaaDoor
open Go.RowKit
set_option linter.unusedVariables false

theorem ret_rcii {fn : Func} {tmps : Array Value} {W : World} {i j k B : Nat} {nx fr to : Int} {x : Option Addr} {n c : Nat} {t : TypeId} (hr : fn.results = #[.cell i 25, .tmp j, .tmp k]) (hi : tmps[i]?.getD undef = .pointer (some ⟨B, 0, none⟩)) (hj : tmps[j]?.getD undef = .int .i64 fr) (hk : tmps[k]?.getD undef = .int .i64 to) (hs : Sits W B (rcCells nx x n c) t) : (results fn tmps).run Tryd.prog W = .ok (.tuple #[rcVal nx x n c, .int .i64 fr, .int .i64 to]) W := by
  obtain ⟨c0, c1⟩ := rc_cells hs
  simp [results, hr, hi, hj, hk, go_sem, c0, c1]

theorem pick_more (B : Nat) (a : Option Addr) (len cap : Nat) (w : World) (hc : Cur w B a len cap) (L : Nat) (t : TypeId) (hs : Sits w L #[.int .i64 1, .int .i64 5, .int .i64 30, .int .i64 0, .int .i64 (-1), .int .i64 1000000000000] t) (hne : L ≠ B) :
    Calls Tryd.prog 12 #[.pointer (some ⟨B, 0, none⟩), .slice (some ⟨L, 0, none⟩) 6 6] w fun e w' => ∃ x : Int, e = .returned (.int .i64 x) ∧ (-1 ≤ x ∧ x ≤ 1000000000000) ∧ Cur w' B a len cap ∧ Only B w w' := by
  refine pick_sits (fun v => -1 ≤ v ∧ v ≤ 1000000000000) B a len cap w hc L 6 _ t hs hne rfl (by omega) (by omega) ?_
  intro k hk
  simp only [List.mem_cons, List.not_mem_nil, or_false] at hk
  rcases hk with rfl | rfl | rfl | rfl | rfl | rfl
  all_goals exact ⟨_, rfl, by omega, by omega⟩

/-- What is known while DrawRecvSeg runs. -/
structure RS (w : World) (B : Nat) (a : Option Addr) (len cap V base : Nat) (nx : Int) (x : Option Addr) (c : Nat) (L : List Sp) (W : World) : Prop where
  cur : Cur W B a len cap
  rs : Sits W w.heap.size (rcCells 0 none 0 0) 25
  vs : Sits W V (rcCells nx x L.length c) 25
  os : OS base W x c L
  bel : Below w.heap.size w W
theorem RS.drew {w : World} {B : Nat} {a : Option Addr} {len cap V base : Nat} {nx : Int} {x : Option Addr} {c : Nat} {L : List Sp} {W : World} (h : RS w B a len cap V base nx x c L W) : RS w B a len cap V base nx x c L W.drew := ⟨h.cur, h.rs, h.vs, h.os, h.bel.drew⟩
theorem RS.alloc {w : World} {B : Nat} {a : Option Addr} {len cap V base : Nat} {nx : Int} {x : Option Addr} {c : Nat} {L : List Sp} {W : World} (h : RS w B a len cap V base nx x c L W) (cs : Array Value) (t : TypeId) : RS w B a len cap V base nx x c L (W.alloc (.cells cs t)) :=
  ⟨h.cur.alloc _ _, h.rs.alloc _, h.vs.alloc _, OS.below h.os ((Below.refl _ _).alloc (Nat.le_refl _) _), h.bel.alloc h.bel.size _⟩
theorem RS.only {w : World} {B : Nat} {a : Option Addr} {len cap V base : Nat} {nx : Int} {x : Option Addr} {c : Nat} {L : List Sp} {W W' : World} (h : RS w B a len cap V base nx x c L W) (h1 : w.heap.size < B) (h2 : B < V) (h3 : B < base) (hc : Cur W' B a len cap) (ho : Only B W W') : RS w B a len cap V base nx x c L W' :=
  ⟨hc, h.rs.only ho (by omega), h.vs.only ho (by omega), os_hold h.os (fun k e => ho.block k (os_own h.os k e).2 (by have := (os_own h.os k e).1; omega)), h.bel.trans (ho.below (by omega) h.bel.size)⟩

set_option maxRecDepth 100000 in
set_option maxHeartbeats 8000000 in
theorem drawRecvSeg (a : Option Addr) (len cap : Nat) (w : World) (hl : len ≤ 9223372036854775807) (hcode : Code w w.heap.size a len) :
    Calls Tryd.prog 4 #[.slice a len cap] w fun e w' => ∃ (nx : Int) (x : Option Addr) (c : Nat) (L : List Sp) (fr to : Int), e = .returned (.tuple #[rcVal nx x L.length c, .int .i64 fr, .int .i64 to]) ∧ OS w.heap.size w' x c L ∧ L.length ≤ 9 ∧ (-1 ≤ nx ∧ nx ≤ 1000000000001) ∧ (-10 ≤ fr ∧ fr ≤ 1000000000060) ∧ (-20 ≤ to ∧ to ≤ 2000000000060) ∧ Below w.heap.size w w' := by
  obtain ⟨W, hW⟩ : ∃ y, w.alloc (.cells #[.int .i64 0, .slice none 0 0] 25) = y := ⟨_, rfl⟩
  have hsz : W.heap.size = w.heap.size + 1 := by rw [← hW]; simp
  have y0 : Sits W w.heap.size (rcCells 0 none 0 0) 25 := by rw [← hW]; exact Sits.new _ _ _
  have b0 : Below w.heap.size w W := by rw [← hW]; exact (Below.refl _ _).alloc (Nat.le_refl _) _
  have hcd : Code W W.heap.size a len := by
    rcases hcode with h | ⟨b, off, ha, hb, hk⟩
    · exact .inl h
    · refine .inr ⟨b, off, ha, by omega, fun k hk' => ?_⟩
      obtain ⟨v, v0, v1, hv⟩ := hk k hk'
      exact ⟨v, v0, v1, (b0.cell (p := ⟨b, off + k, none⟩) (by show b < _; omega)).trans hv⟩
  clear hcode
  have HSZ : Hid (W.heap.size = w.heap.size + 1) := hsz
  clear hsz
  go_enter Tryd.func4, Tryd.ntmps4
  go_wp2_with fail
  (try rw [hW])
  refine (new_any a len cap W hl hcd).mono ?_
  rintro e w1 ⟨rfl, c1, b1⟩
  obtain ⟨B, hB⟩ : ∃ B, W.heap.size = B := ⟨_, rfl⟩
  have lB : w.heap.size < B := by have := HSZ.out; omega
  rw [hB] at c1 ⊢
  have y1 := y0.below b1 y0.lt
  replace b1 := b0.trans (b1.mono b0.size)
  clear hcd hW b0 hB y0 HSZ
  go_wp2_with fail
  refine (l11bent_any B a len cap _ c1).mono ?_
  rintro e w2 ⟨nx, x, c, L, rfl, hos, h9, ⟨hx0, hx1⟩, c2, o2⟩
  have hB1 := c1.1
  have y2 := y1.only o2 (by omega)
  have b2 := b1.trans (o2.below (by omega) b1.size)
  clear b1 y1 c1 o2
  go_upto_region 3 with fail
  obtain ⟨V, hV⟩ : ∃ V, w2.heap.size = V := ⟨_, rfl⟩
  obtain ⟨wv, hwv⟩ : ∃ x', w2.alloc (.cells #[.int .i64 nx, .slice x L.length c] 25) = x' := ⟨_, rfl⟩
  obtain ⟨base, hbase⟩ : ∃ b, w1.heap.size = b := ⟨_, rfl⟩
  have hVB : B < V := by rw [← hV]; exact c2.1
  have hLB : B < base := by rw [← hbase]; exact hB1
  have HD : Hid (RS w B a len cap V base nx x c L wv) := by
    show RS _ _ _ _ _ _ _ _ _ _ _ _
    rw [← hwv]
    rw [hbase] at hos
    exact ⟨c2.alloc _ _, y2.alloc _, Sits.new' hV, OS.below hos ((Below.refl _ _).alloc (Nat.le_refl _) _), b2.alloc b2.size _⟩
  rw [hwv, hV]
  clear hwv hV hbase hos c2 y2 b2 hB1
  have hlv := (RS.vs HD.out).lt
  have hw9 : IntKind.i64.wrap (nx - 1) = nx - 1 := wrap_in (by omega) (by omega)
  go_region_held3 (fun w' => w'.cell? ⟨V, 0, none⟩ = some (.int .i64 nx)) (first | exact (RS.vs H4.out).cell 0 | exact (RS.vs (RS.alloc H3.out _ _)).cell 0 | exact (RS.vs H3.out).cell 0 | exact (RS.vs (RS.drew HD.out)).cell 0)
    (first | (go_at_call 13; refine (below_any B a len cap _ (RS.cur (RS.drew HD.out)) 50 (by omega) (by omega)).mono ?_; rintro e w3 ⟨d, rfl, d0, d1, c3, o3⟩; have H3 : Hid (RS w B a len cap V base nx x c L w3) := RS.only (RS.drew HD.out) lB hVB hLB c3 o3; have hw8 : IntKind.i64.wrap (nx + d) = nx + d := wrap_in (by omega) (by omega); have hl3 := (RS.vs H3.out).lt; clear c3 o3) | (go_at_call 12; refine Calls.mono (pick5q (fun v => -10 ≤ v ∧ v ≤ 1000000000060) B a len cap _ (RS.cur (RS.alloc H3.out _ _)) _ _ nx (nx + d) 0 (nx - 1) (-1) (Sits.new' rfl) (by omega) (by omega) (by omega) (by omega) (by omega) (by omega)) ?_; rintro e w4 ⟨fr, rfl, ⟨fr0, fr1⟩, c4, o4⟩; have H4 : Hid (RS w B a len cap V base nx x c L w4) := RS.only (RS.alloc H3.out _ _) lB hVB hLB c4 o4; clear c4 o4))
  clear hw9
  have hl4 := (RS.vs H4.out).lt
  have hRV : w.heap.size ≠ V := by omega
  obtain ⟨r0, r1⟩ := rc_cells (RS.rs H4.out)
  go_upto_region 4 with fail
  go_region_held3 (fun w' => w'.cell? ⟨V, 0, none⟩ = some (.int .i64 nx) ∧ w'.cell? ⟨V, 1, none⟩ = some (.slice x L.length c)) (first | exact rc_cells (RS.vs H5.out) | exact rc_cells ((RS.vs H5.out).other (Ne.symm hRV) _ |>.other (Ne.symm hRV) _) | exact rc_cells (RS.vs (RS.drew (RS.alloc H4.out _ _))) | exact rc_cells (RS.vs (RS.drew H4.out)))
    (first | (go_at_call 12; refine Calls.mono (pick_more B a len cap _ (RS.cur (RS.drew (RS.alloc H4.out _ _))) w4.heap.size _ (Sits.drew (Sits.new' rfl)) (by omega)) ?_; rintro e w5 ⟨p, rfl, ⟨p0, p1⟩, c5, o5⟩; have H5 : Hid (RS w B a len cap V base nx x c L w5) := RS.only (RS.drew (RS.alloc H4.out _ _)) lB hVB hLB c5 o5; have hw7 : IntKind.i64.wrap (fr + p) = fr + p := wrap_in (by omega) (by omega); have q5 := rc_cells (RS.rs H5.out); obtain ⟨q50, q51⟩ := q5; have f5 := (RS.rs H5.out).frozen; clear c5 o5))
  all_goals
    go_wp2_with fail
    refine bodyPost_ret (ret_rcii (nx := nx) (x := x) (n := L.length) (c := c) (t := 25) (B := w.heap.size) Tryd.results4 rfl rfl rfl ?s1) rfl ⟨nx, x, c, L, fr, _, rfl, ?os, h9, ⟨hx0, hx1⟩, ⟨fr0, fr1⟩, ⟨by omega, by omega⟩, ?bb⟩
    case s1 => exact ((RS.rs H5.out).set 0 _).set 1 _
    case os => exact OS.mono (OS.far (OS.far (RS.os H5.out) (by omega) 0 _) (by omega) 1 _) (by omega)
    case bb => exact ((RS.bel H5.out).setCell (Nat.le_refl _) _).setCell (Nat.le_refl _) _

end Go.Proofs.YtfghnfanimpjjaaDoor
