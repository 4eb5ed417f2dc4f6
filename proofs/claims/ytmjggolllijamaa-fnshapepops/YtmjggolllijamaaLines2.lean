/-
  LINES COPIED AND COMPARED: toIntS, toLine, toLineS, eqLine, eqLineS; lines that are one's own.
-/
import Derived.Test.YtmjggolllijamaaLines
import Derived.Test.YtmjggolllijamaaIntS
import Derived.Deep.Cut
namespace Go.Proofs.Ytmjggolllijamaa
open Go.RowKit
set_option linter.unusedVariables false

theorem made_int {w : World} (n : Nat) (t : TypeId) : Own .i64 (w.alloc (.cells (madeCells #[.int .i64 0] n) t)) w.heap.size n (fun _ => 0) := by
  refine ⟨by simp, fun i hi => ⟨?_, ?_⟩⟩
  · rw [World.cell?_alloc_new]
    simp [madeCells, hi, Nat.mod_one]
  · rw [frozen?_alloc_cells]
    simp [World.frozen?]

set_option maxHeartbeats 400000 in
theorem toIntS_any (a : Option Addr) (n cap : Nat) (f : Nat → Int) (w : World) (hr : Row .i64 w a n f) (hn : n ≤ 1048576) :
    Calls Try.prog 30 #[.slice a n cap] w fun e w' => ∃ x : Option Addr, e = .returned (.slice x n n) ∧ ZI w.heap.size w'.heap.size w' x n f ∧ Below w.heap.size w w' := by
  have HR : Hid _ := hr
  clear hr
  have hmk := run_make_row' (P := Try.prog) 23 3 (.int .i64 0) 8 Try.underlying23 infoInt rfl .i64 .i64 n (by omega) (by omega)
  go_enter Try.func30, Try.ntmps30
  go_wp2
  go_loopw [4] (fun i wr => ∃ k : Nat, k ≤ n ∧ i = .int .i64 k ∧ Below w.heap.size w wr ∧ Own .i64 wr w.heap.size n (fun j => if j < k then f j else 0)) (fun i _ => n - (intOf i).toNat)
  case atStart => exact ⟨0, Nat.zero_le _, rfl, (Below.refl _ _).alloc (Nat.le_refl _) _, (made_int n _).congr fun i _ => by simp⟩
  case round =>
    obtain ⟨k, hk, rfl, hb, ho⟩ := hrel
    by_cases hlt : k < n
    · obtain ⟨b, off, rfl, hbl, hc⟩ := Row.at HR.out hlt
      have c1 : wr.cell? ⟨b, off + k, none⟩ = some (.int .i64 (f k)) := (hb.cell (p := ⟨b, off + k, none⟩) hbl).trans (hc k hlt)
      obtain ⟨c2, c3⟩ := ho.2 k hlt
      have HO : Hid (Own .i64 wr w.heap.size n (fun j => if j < k then f j else 0)) := ho
      clear hc ho
      go_wp2
      go_roundw
      case rel => exact ⟨k + 1, by omega, by go_num, hb.setCell (Nat.le_refl _) _, (Own.set HO.out k hlt (f k)).congr fun i hi => by by_cases e : i = k <;> simp [e] <;> split <;> first | rfl | omega⟩
      case measure => simp [intOf]; omega
    · obtain rfl : k = n := by omega
      have HO : Hid _ := ho
      clear ho
      go_wp2
      go_ret
      exact ⟨_, rfl, .inr ⟨_, rfl, Nat.le_refl _, (HO.out).1, Own.congr HO.out fun i hi => by simp [hi]⟩, hb⟩

@[reducible] def lnZero : Array Value := #[.slice none 0 0, .int .i64 0, .int .i64 0, .int .i64 0, .int .i64 0, .int .i64 0, .int .i64 0, .int .i64 0, .bool false]

theorem ZI.far {L U : Nat} {w : World} {a : Option Addr} {m : Nat} {g : Nat → Int} (h : ZI L U w a m g) {H : Nat} (hH : H < L ∨ U ≤ H) (o : Nat) (v : Value) : ZI L U (w.setCell ⟨H, o, none⟩ v) a m g := by
  rcases h with h | ⟨B, ha, h1, h2, ho⟩
  · exact .inl h
  · exact .inr ⟨B, ha, h1, h2, ho.far o v (by omega)⟩
theorem size_set (w : World) (p : Addr) (v : Value) : (w.setCell p v).heap.size = w.heap.size := by simp [World.setCell]
/-- Seven cells of a Codel are stored behind two others. -/
theorem ln_cd {w : World} {B : Nat} {a b c0 c1 c2 c3 c4 c5 c6 : Value} {t : TypeId} (h : Sits w B #[a, b, c0, c1, c2, c3, c4, c5, c6] t) (d0 d1 d2 d3 d4 d5 d6 : Value) :
    Sits (((((((w.setCell ⟨B, 2, none⟩ d0).setCell ⟨B, 3, none⟩ d1).setCell ⟨B, 4, none⟩ d2).setCell ⟨B, 5, none⟩ d3).setCell ⟨B, 6, none⟩ d4).setCell ⟨B, 7, none⟩ d5).setCell ⟨B, 8, none⟩ d6) B #[a, b, d0, d1, d2, d3, d4, d5, d6] t := by
  have := ((((((h.set 2 d0).set 3 d1).set 4 d2).set 5 d3).set 6 d4).set 7 d5).set 8 d6
  simpa using this
theorem Sits.chg {W W' : World} {B : Nat} {vs : Array Value} {t : TypeId} {L U : Nat} (h : Sits W B vs t) (hc : Chg L U W W') (hn : B < L ∨ U ≤ B) : Sits W' B vs t := (hc.block B h.lt (by omega)).trans h
theorem Chg.bel {L U : Nat} {a w w' : World} (h : Chg L U w w') (hb : Below a.heap.size a w) (hn : a.heap.size ≤ L) : Below a.heap.size a w' :=
  hb.trans ⟨h.os, h.tape, h.output, h.size, fun k hk => h.block k (Nat.lt_of_lt_of_le hk hb.size) (by omega)⟩
theorem cd_chg (w : World) (B o0 o1 o2 o3 o4 o5 o6 : Nat) (d0 d1 d2 d3 d4 d5 d6 : Value) :
    Chg B (B + 1) w (((((((w.setCell ⟨B, o0, none⟩ d0).setCell ⟨B, o1, none⟩ d1).setCell ⟨B, o2, none⟩ d2).setCell ⟨B, o3, none⟩ d3).setCell ⟨B, o4, none⟩ d4).setCell ⟨B, o5, none⟩ d5).setCell ⟨B, o6, none⟩ d6) := by
  have h0 : B ≤ B := Nat.le_refl _
  have h1 : B < B + 1 := Nat.lt_succ_self _
  exact chg_set (chg_set (chg_set (chg_set (chg_set (chg_set (chg_set (Chg.refl _ _ _) h0 h1 _ _) h0 h1 _ _) h0 h1 _ _) h0 h1 _ _) h0 h1 _ _) h0 h1 _ _) h0 h1 _ _
theorem ln_chg (w : World) (B o0 o1 o2 o3 o4 o5 o6 o7 o8 : Nat) (d0 d1 d2 d3 d4 d5 d6 d7 d8 : Value) :
    Chg B (B + 1) w (((((((((w.setCell ⟨B, o0, none⟩ d0).setCell ⟨B, o1, none⟩ d1).setCell ⟨B, o2, none⟩ d2).setCell ⟨B, o3, none⟩ d3).setCell ⟨B, o4, none⟩ d4).setCell ⟨B, o5, none⟩ d5).setCell ⟨B, o6, none⟩ d6).setCell ⟨B, o7, none⟩ d7).setCell ⟨B, o8, none⟩ d8) := by
  have h0 : B ≤ B := Nat.le_refl _
  have h1 : B < B + 1 := Nat.lt_succ_self _
  exact chg_set (chg_set (cd_chg w B o0 o1 o2 o3 o4 o5 o6 d0 d1 d2 d3 d4 d5 d6) h0 h1 _ _) h0 h1 _ _
theorem ln_all {w : World} {B : Nat} {a b c0 c1 c2 c3 c4 c5 c6 : Value} {t : TypeId} (h : Sits w B #[a, b, c0, c1, c2, c3, c4, c5, c6] t) (e0 e1 d0 d1 d2 d3 d4 d5 d6 : Value) :
    Sits (((((((((w.setCell ⟨B, 0, none⟩ e0).setCell ⟨B, 1, none⟩ e1).setCell ⟨B, 2, none⟩ d0).setCell ⟨B, 3, none⟩ d1).setCell ⟨B, 4, none⟩ d2).setCell ⟨B, 5, none⟩ d3).setCell ⟨B, 6, none⟩ d4).setCell ⟨B, 7, none⟩ d5).setCell ⟨B, 8, none⟩ d6) B #[e0, e1, d0, d1, d2, d3, d4, d5, d6] t := by
  have := ((((((((h.set 0 e0).set 1 e1).set 2 d0).set 3 d1).set 4 d2).set 5 d3).set 6 d4).set 7 d5).set 8 d6
  simpa using this

theorem ret_ln {fn : Func} {tmps : Array Value} {W : World} {i B : Nat} {x : Option Addr} {c : Nat} {l : Ln} {t : TypeId} (hr : fn.results = #[.cell i 53]) (hi : tmps[i]?.getD undef = .pointer (some ⟨B, 0, none⟩)) (hs : Sits W B (lnCells x c l) t) : (results fn tmps).run Try.prog W = .ok (lnVal x c l) W := by
  obtain ⟨c0, c1, c2, c3, c4, c5, c6, c7, c8⟩ := Sits.ln hs
  simp only [Nat.zero_add] at c1 c2 c3 c4 c5 c6 c7 c8
  simp [results, hr, hi, go_sem, c0, c1, c2, c3, c4, c5, c6, c7, c8]

set_option maxHeartbeats 2000000 in
theorem toLine_any (x : Option Addr) (c : Nat) (l : Ln) (w : World) (hP : PR w.heap.size w x l.n l.f) (hn : l.n ≤ 1048576) :
    Calls Try.prog 62 #[lnVal x c l] w fun e w' => ∃ y : Option Addr, e = .returned (lnVal y l.n l) ∧ ZI w.heap.size w'.heap.size w' y (l.n * 6) (flat l.f) ∧ Below w.heap.size w w' := by
  have HP : Hid (PR w.heap.size w x l.n l.f) := hP
  clear hP
  obtain ⟨n, f, sh, tg, iv, fi, nx, ct, la, dr⟩ := l
  dsimp only at HP hn ⊢
  have B0 : Below w.heap.size w (((w.alloc (.cells (lnCells x c ⟨n, f, sh, tg, iv, fi, nx, ct, la, dr⟩) 99)).alloc (.cells lnZero 53)).alloc (.cells lnZero 53)) := (((Below.refl _ w).alloc (Nat.le_refl _) _).alloc (by simp) _).alloc (by simp; omega) _
  have s0 := ((Sits.new w (lnCells x c ⟨n, f, sh, tg, iv, fi, nx, ct, la, dr⟩) 99).alloc (.cells lnZero 53)).alloc (.cells lnZero 53)
  have s1 := (Sits.new (w.alloc (.cells (lnCells x c ⟨n, f, sh, tg, iv, fi, nx, ct, la, dr⟩) 99)) lnZero 53).alloc (.cells lnZero 53)
  have s2 := Sits.new ((w.alloc (.cells (lnCells x c ⟨n, f, sh, tg, iv, fi, nx, ct, la, dr⟩) 99)).alloc (.cells lnZero 53)) lnZero 53
  simp only [World.size_alloc] at s1 s2
  have HB0 : Hid (Below _ _ _) := B0
  have HS0 : Hid (Sits _ _ _ _) := s0
  have HS1 : Hid (Sits _ _ _ _) := s1
  have HS2 : Hid (Sits _ _ _ _) := s2
  clear B0 s0 s1 s2
  go_enter Try.func62, Try.ntmps62
  go_upto_region 3 with (go_at_call 81; refine (toPktS_any x n c f _ ((PR.below HP.out HB0.out).mono HB0.out.size) hn).mono ?_; rintro o w1 ⟨y, rfl, hz, hb1⟩; have HZ : Hid (ZI _ _ _ _ _ _) := hz; have HB1 : Hid (Below _ _ _) := hb1; have z1 := Sits.below HS2.out hb1 (Sits.lt HS2.out); have y0 := z1.cell 0; have yf := z1.frozen 0; clear hz hb1)
  obtain ⟨v, hv⟩ : ∃ v, w1.setCell ⟨w.heap.size + 1 + 1, 0, none⟩ (.slice y n n) = v := ⟨_, rfl⟩
  have t0 : Sits v w.heap.size (lnCells x c ⟨n, f, sh, tg, iv, fi, nx, ct, la, dr⟩) 99 := by rw [← hv]; exact (Sits.below HS0.out HB1.out (Sits.lt HS0.out)).other (by omega) _
  have t1 : Sits v (w.heap.size + 1) lnZero 53 := by rw [← hv]; exact (Sits.below HS1.out HB1.out (Sits.lt HS1.out)).other (by omega) _
  have t2 : Sits v (w.heap.size + 1 + 1) #[.slice y n n, .int .i64 0, .int .i64 0, .int .i64 0, .int .i64 0, .int .i64 0, .int .i64 0, .int .i64 0, .bool false] 53 := by rw [← hv]; exact z1.set 0 _
  have hz : ZI (w.heap.size + 1 + 1 + 1) v.heap.size v y (n * 6) (flat f) := by rw [← hv, size_set]; exact ZI.far (by simpa using HZ.out) (.inl (by omega)) 0 _
  have hb : Below w.heap.size w v := by rw [← hv]; exact ((HB0.out).trans (Below.mono HB1.out (HB0.out).size)).setCell (show w.heap.size ≤ w.heap.size + 1 + 1 by omega) _
  rw [hv]
  clear hv z1 y0 yf HZ HB1 HB0 HS0 HS1 HS2
  have d1 := t0.cell 1
  have d2 := t0.cell 2
  have d3 := t0.cell 3
  have d4 := t0.cell 4
  have d5 := t0.cell 5
  have d6 := t0.cell 6
  have d7 := t0.cell 7
  have d8 := t0.cell 8
  have e1 := t2.cell 1
  have ef := t2.frozen
  have T1 : Hid (Sits _ _ _ _) := t1
  have T2 : Hid (Sits _ _ _ _) := t2.set 1 (.int .i64 sh)
  have T0 : Hid (Sits _ _ _ _) := t0
  have HZ : Hid (ZI _ _ _ _ _ _) := hz
  have HB : Hid (Below _ _ _) := hb
  have l2 := t2.lt
  clear t0 t1 t2 hz hb
  go_upto_region 5 with (go_at_call 82; refine (toCodel_any ⟨tg, iv, fi, nx, ct, la, dr⟩ _).mono ?_; rintro o w2 ⟨rfl, hk2⟩; have z2 := Sits.below T2.out hk2.1 (Sits.lt T2.out); have HK : Hid (Kept _ _) := hk2; have g2 := z2.cell 2; have g3 := z2.cell 3; have g4 := z2.cell 4; have g5 := z2.cell 5; have g6 := z2.cell 6; have g7 := z2.cell 7; have g8 := z2.cell 8; have gf := z2.frozen; have T3 : Hid (Sits _ _ _ _) := ln_cd z2 (.int .i64 tg) (.int .i64 iv) (.int .i64 fi) (.int .i64 nx) (.int .i64 ct) (.int .i64 la) (.bool dr); clear hk2 z2)
  obtain ⟨v3, hv3⟩ : ∃ v3, (((((((w2.setCell ⟨w.heap.size + 1 + 1, 2, none⟩ (.int .i64 tg)).setCell ⟨w.heap.size + 1 + 1, 3, none⟩ (.int .i64 iv)).setCell ⟨w.heap.size + 1 + 1, 4, none⟩ (.int .i64 fi)).setCell ⟨w.heap.size + 1 + 1, 5, none⟩ (.int .i64 nx)).setCell ⟨w.heap.size + 1 + 1, 6, none⟩ (.int .i64 ct)).setCell ⟨w.heap.size + 1 + 1, 7, none⟩ (.int .i64 la)).setCell ⟨w.heap.size + 1 + 1, 8, none⟩ (.bool dr)) = v3 := ⟨_, rfl⟩
  have c3 : Chg (w.heap.size + 1 + 1) (w.heap.size + 1 + 1 + 1) w2 v3 := by rw [← hv3]; exact cd_chg _ _ _ _ _ _ _ _ _ _ _ _ _ _ _ _
  have cv : Chg (w.heap.size + 1 + 1) (w.heap.size + 1 + 1 + 1) v (v.setCell ⟨w.heap.size + 1 + 1, 1, none⟩ (.int .i64 sh)) := chg_set (Chg.refl _ _ _) (Nat.le_refl _) (Nat.lt_succ_self _) _ _
  have c4 := (cv.trans (Chg.of_below (HK.out).1)).trans c3
  have t1 := (Sits.chg T1.out c4 (.inl (Nat.lt_succ_self _)))
  have t3 := T3.out
  rw [hv3] at t3 ⊢
  have hz3 := ZI.chg HZ.out c4 (.inr (Nat.le_refl _))
  have hb3 := c4.bel HB.out (by omega)
  have a0 := t3.cell 0
  have a1 := t3.cell 1
  have a2 := t3.cell 2
  have a3 := t3.cell 3
  have a4 := t3.cell 4
  have a5 := t3.cell 5
  have a6 := t3.cell 6
  have a7 := t3.cell 7
  have a8 := t3.cell 8
  have b0 := t1.cell 0
  have b1 := t1.cell 1
  have b2 := t1.cell 2
  have b3 := t1.cell 3
  have b4 := t1.cell 4
  have b5 := t1.cell 5
  have b6 := t1.cell 6
  have b7 := t1.cell 7
  have b8 := t1.cell 8
  have bf := t1.frozen
  have R1 : Hid (Sits _ _ _ _) := ln_all t1 (.slice y n n) (.int .i64 sh) (.int .i64 tg) (.int .i64 iv) (.int .i64 fi) (.int .i64 nx) (.int .i64 ct) (.int .i64 la) (.bool dr)
  have HZ3 : Hid (ZI _ _ _ _ _ _) := hz3
  have HB3 : Hid (Below _ _ _) := hb3
  have hsz := c4.size
  clear t1 t3 hz3 hb3 hv3 c3 cv c4 T3 T1 T2 HK HZ HB T0 d1 d2 d3 d4 d5 d6 d7 d8 e1 ef g2 g3 g4 g5 g6 g7 g8 gf
  go_wp2
  refine bodyPost_ret (ret_ln (l := ⟨n, f, sh, tg, iv, fi, nx, ct, la, dr⟩) Try.results62 rfl R1.out) rfl ?_
  have c9 := ln_chg v3 (w.heap.size + 1) 0 1 2 3 4 5 6 7 8 (.slice y n n) (.int .i64 sh) (.int .i64 tg) (.int .i64 iv) (.int .i64 fi) (.int .i64 nx) (.int .i64 ct) (.int .i64 la) (.bool dr)
  refine ⟨y, rfl, (ZI.chg HZ3.out c9 (.inr (by omega))).wide (by omega) (Nat.le_trans hsz c9.size), c9.bel HB3.out (by omega)⟩

/-- A line's nine values from o on. -/
def LV (vs : Array Value) (o : Nat) (x : Option Addr) (c : Nat) (l : Ln) : Prop :=
  vs[o]? = some (.slice x l.n c) ∧ vs[o + 1]? = some (.int .i64 l.sh) ∧ vs[o + 2]? = some (.int .i64 l.cd.tg) ∧ vs[o + 3]? = some (.int .i64 l.cd.iv) ∧ vs[o + 4]? = some (.int .i64 l.cd.fi) ∧ vs[o + 5]? = some (.int .i64 l.cd.nx) ∧ vs[o + 6]? = some (.int .i64 l.cd.ct) ∧ vs[o + 7]? = some (.int .i64 l.cd.la) ∧ vs[o + 8]? = some (.bool l.cd.dr)
theorem LV.at {w : World} {B : Nat} {t : TypeId} {vs : Array Value} {o : Nat} {x : Option Addr} {c : Nat} {l : Ln} (h : LV vs o x c l) (hs : Sits w B vs t) : LAt w B o x c l := by
  obtain ⟨h0, h1, h2, h3, h4, h5, h6, h7, h8⟩ := h
  exact ⟨(hs.cell _).trans h0, (hs.cell _).trans h1, (hs.cell _).trans h2, (hs.cell _).trans h3, (hs.cell _).trans h4, (hs.cell _).trans h5, (hs.cell _).trans h6, (hs.cell _).trans h7, (hs.cell _).trans h8⟩
/-- Nine values set from o on. -/
def set9 (vs : Array Value) (o : Nat) (x : Option Addr) (c : Nat) (l : Ln) : Array Value :=
  ((((((((vs.setIfInBounds o (.slice x l.n c)).setIfInBounds (o + 1) (.int .i64 l.sh)).setIfInBounds (o + 2) (.int .i64 l.cd.tg)).setIfInBounds (o + 3) (.int .i64 l.cd.iv)).setIfInBounds (o + 4) (.int .i64 l.cd.fi)).setIfInBounds (o + 5) (.int .i64 l.cd.nx)).setIfInBounds (o + 6) (.int .i64 l.cd.ct)).setIfInBounds (o + 7) (.int .i64 l.cd.la)).setIfInBounds (o + 8) (.bool l.cd.dr)
theorem set9_size (vs : Array Value) (o : Nat) (x : Option Addr) (c : Nat) (l : Ln) : (set9 vs o x c l).size = vs.size := by simp [set9]
theorem set9_ne (vs : Array Value) (o : Nat) (x : Option Addr) (c : Nat) (l : Ln) (i : Nat) (h : i < o ∨ o + 8 < i) : (set9 vs o x c l)[i]? = vs[i]? := by
  unfold set9
  rw [Array.getElem?_setIfInBounds_ne (by omega), Array.getElem?_setIfInBounds_ne (by omega), Array.getElem?_setIfInBounds_ne (by omega), Array.getElem?_setIfInBounds_ne (by omega), Array.getElem?_setIfInBounds_ne (by omega), Array.getElem?_setIfInBounds_ne (by omega), Array.getElem?_setIfInBounds_ne (by omega), Array.getElem?_setIfInBounds_ne (by omega), Array.getElem?_setIfInBounds_ne (by omega)]
theorem set9_lv (vs : Array Value) (o : Nat) (x : Option Addr) (c : Nat) (l : Ln) (h : o + 8 < vs.size) : LV (set9 vs o x c l) o x c l := by
  unfold set9
  refine ⟨?_, ?_, ?_, ?_, ?_, ?_, ?_, ?_, ?_⟩ <;>
    (repeat rw [Array.getElem?_setIfInBounds_ne (by omega)]) <;> (rw [Array.getElem?_setIfInBounds_self_of_lt (by (try simp); omega)])
theorem LV.set9 {vs : Array Value} {o p : Nat} {x x' : Option Addr} {c c' : Nat} {l l' : Ln} (h : LV vs o x c l) (hne : o + 8 < p ∨ p + 8 < o) : LV (set9 vs p x' c' l') o x c l := by
  obtain ⟨h0, h1, h2, h3, h4, h5, h6, h7, h8⟩ := h
  exact ⟨(set9_ne _ _ _ _ _ _ (by omega)).trans h0, (set9_ne _ _ _ _ _ _ (by omega)).trans h1, (set9_ne _ _ _ _ _ _ (by omega)).trans h2, (set9_ne _ _ _ _ _ _ (by omega)).trans h3, (set9_ne _ _ _ _ _ _ (by omega)).trans h4, (set9_ne _ _ _ _ _ _ (by omega)).trans h5, (set9_ne _ _ _ _ _ _ (by omega)).trans h6, (set9_ne _ _ _ _ _ _ (by omega)).trans h7, (set9_ne _ _ _ _ _ _ (by omega)).trans h8⟩
theorem Sits.set9 {w : World} {B : Nat} {vs : Array Value} {t : TypeId} (h : Sits w B vs t) (o : Nat) (x : Option Addr) (c : Nat) (l : Ln) :
    Sits (((((((((w.setCell ⟨B, o, none⟩ (.slice x l.n c)).setCell ⟨B, o + 1, none⟩ (.int .i64 l.sh)).setCell ⟨B, o + 2, none⟩ (.int .i64 l.cd.tg)).setCell ⟨B, o + 3, none⟩ (.int .i64 l.cd.iv)).setCell ⟨B, o + 4, none⟩ (.int .i64 l.cd.fi)).setCell ⟨B, o + 5, none⟩ (.int .i64 l.cd.nx)).setCell ⟨B, o + 6, none⟩ (.int .i64 l.cd.ct)).setCell ⟨B, o + 7, none⟩ (.int .i64 l.cd.la)).setCell ⟨B, o + 8, none⟩ (.bool l.cd.dr)) B (Go.Proofs.Ytmjggolllijamaa.set9 vs o x c l) t :=
  ((((((((h.set o _).set (o + 1) _).set (o + 2) _).set (o + 3) _).set (o + 4) _).set (o + 5) _).set (o + 6) _).set (o + 7) _).set (o + 8) _

/-- N lines in block B that are one's own, each one's packets, too, all apart. -/
structure LO (base : Nat) (w : World) (B N : Nat) (A : Nat → Option Addr) (C : Nat → Nat) (L : Nat → Ln) : Prop where
  lo : base ≤ B
  sits : ∃ vs t, Sits w B vs t ∧ vs.size = N * 9 ∧ ∀ i, i < N → LV vs (i * 9) (A i) (C i) (L i)
  cap : ∀ i, i < N → (L i).n ≤ C i
  own : ∀ i, i < N → (L i).n = 0 ∨ ∃ g : Nat, A i = some ⟨g, 0, none⟩ ∧ base ≤ g ∧ g ≠ B ∧ Own .i64 w g ((L i).n * 6) (flat (L i).f)
  apart : ∀ i j, i < N → j < N → i ≠ j → (L i).n ≠ 0 → (L j).n ≠ 0 → A i ≠ A j
theorem LO.lr {base : Nat} {w : World} {B N : Nat} {A : Nat → Option Addr} {C : Nat → Nat} {L : Nat → Ln} (h : LO base w B N A C L) : LR w.heap.size w (some ⟨B, 0, none⟩) N L := by
  obtain ⟨vs, t, hs, _, hv⟩ := h.sits
  refine .inr ⟨B, 0, rfl, hs.lt, fun i hi => ⟨A i, C i, by rw [Nat.zero_add]; exact (hv i hi).at hs, h.cap i hi, ?_⟩⟩
  rcases h.own i hi with e | ⟨g, ha, _, _, ho⟩
  · exact .inl e
  · exact .inr ⟨g, 0, ha, ho.1, fun k hk => by rw [Nat.zero_add]; exact pat_of ho hk⟩
theorem LO.below {base : Nat} {w w' : World} {B N : Nat} {A : Nat → Option Addr} {C : Nat → Nat} {L : Nat → Ln} (h : LO base w B N A C L) (hb : Below w.heap.size w w') : LO base w' B N A C L := by
  obtain ⟨h0, ⟨vs, t, hs, h1, h2⟩, h3, h4, h5⟩ := h
  refine ⟨h0, ⟨vs, t, hs.below hb hs.lt, h1, h2⟩, h3, fun i hi => ?_, h5⟩
  rcases h4 i hi with e | ⟨g, ha, hg, hne, ho⟩
  · exact .inl e
  · exact .inr ⟨g, ha, hg, hne, ho.below hb⟩
theorem LO.mono {base base' : Nat} {w : World} {B N : Nat} {A : Nat → Option Addr} {C : Nat → Nat} {L : Nat → Ln} (h : LO base w B N A C L) (hb : base' ≤ base) : LO base' w B N A C L := by
  obtain ⟨h0, h1, h3, h4, h5⟩ := h
  refine ⟨by omega, h1, h3, fun i hi => ?_, h5⟩
  rcases h4 i hi with e | ⟨g, ha, hg, hne, ho⟩
  · exact .inl e
  · exact .inr ⟨g, ha, by omega, hne, ho⟩

theorem infoLine : (Try.prog.info? 53).map (fun i => (i.zero, i.size, i.bytes)) = some (some (.agg lnZero), 9, 88) := by kernel_rfl

/-- make([]Line, n). -/
theorem run_make_ln (n : Nat) (hn : n ≤ 1048576) (w : World) :
    (Instr.makeSlice 27 (.int .i64 (n : Int)) (.int .i64 (n : Int))).run Try.prog w = .ok (.slice (some ⟨w.heap.size, 0, none⟩) n n) (w.alloc (.cells (madeCells lnZero (n * 9)) 53)) := by
  obtain ⟨i, hi, hzz⟩ := Option.map_eq_some_iff.1 infoLine
  simp only [Prod.mk.injEq] at hzz
  obtain ⟨hz, hs, hb⟩ := hzz
  have hr := run_make (P := Try.prog) w 27 53 i _ Try.underlying27 hi hz .i64 .i64 n n (by omega) (Int.le_refl _) (by rw [hb]; omega) (by omega)
  simp only [Int.toNat_natCast, hs, Value.cells] at hr
  exact hr

set_option maxRecDepth 100000 in
set_option maxHeartbeats 2000000 in
theorem toLineS_any (a : Option Addr) (N cap : Nat) (L : Nat → Ln) (w : World) (hP : LR w.heap.size w a N L) (hN : N ≤ 1048576) (hn : ∀ i, i < N → (L i).n ≤ 1048576) :
    Calls Try.prog 29 #[.slice a N cap] w fun e w' => ∃ (B : Nat) (A : Nat → Option Addr), e = .returned (.slice (some ⟨B, 0, none⟩) N N) ∧ LO w.heap.size w' B N A (fun i => (L i).n) L ∧ Below w.heap.size w w' := by
  have HP : Hid (LR w.heap.size w a N L) := hP
  have HN : Hid (∀ i, i < N → (L i).n ≤ 1048576) := hn
  clear hP hn
  have hmk := run_make_ln N hN
  go_enter Try.func29, Try.ntmps29
  go_wp2
  go_loopw [4] (fun i wr => ∃ (k : Nat) (A : Nat → Option Addr) (vs : Array Value), k ≤ N ∧ i = .int .i64 k ∧ Below w.heap.size w wr ∧ Sits wr w.heap.size vs 53 ∧ vs.size = N * 9 ∧ (∀ i, i < k → LV vs (i * 9) (A i) (L i).n (L i)) ∧ (∀ i, i < k → (L i).n = 0 ∨ ∃ g : Nat, A i = some ⟨g, 0, none⟩ ∧ w.heap.size < g ∧ Own .i64 wr g ((L i).n * 6) (flat (L i).f)) ∧ (∀ i j, i < k → j < k → i ≠ j → (L i).n ≠ 0 → (L j).n ≠ 0 → A i ≠ A j)) (fun i _ => N - (intOf i).toNat)
  case atStart => exact ⟨0, fun _ => none, _, Nat.zero_le _, rfl, (Below.refl _ _).alloc (Nat.le_refl _) _, Sits.new _ _ _, by simp [madeCells], fun i hi => absurd hi (Nat.not_lt_zero _), fun i hi => absurd hi (Nat.not_lt_zero _), fun i j hi => absurd hi (Nat.not_lt_zero _)⟩
  case round =>
    obtain ⟨k, A, vs, hk, rfl, hb, hs, hvs, hlv, how, hap⟩ := hrel
    by_cases hlt : k < N
    · obtain ⟨b, off, rfl, hbl, hc⟩ := LR.at HP.out hlt
      obtain ⟨x, c, hat, hnc, hpr⟩ := hc k hlt
      obtain ⟨c0, c1, c2, c3, c4, c5, c6, c7, c8⟩ := hat.below hb hbl
      have hnk := HN.out k hlt
      have HPR : Hid (PR wr.heap.size wr x (L k).n (L k).f) := (hpr.below hb).mono hb.size
      have HS : Hid (Sits wr w.heap.size vs 53) := hs
      have HLV : Hid (∀ i, i < k → LV vs (i * 9) (A i) (L i).n (L i)) := hlv
      have HOW : Hid (∀ i, i < k → (L i).n = 0 ∨ ∃ g : Nat, A i = some ⟨g, 0, none⟩ ∧ w.heap.size < g ∧ Own .i64 wr g ((L i).n * 6) (flat (L i).f)) := how
      have HAP : Hid (∀ i j, i < k → j < k → i ≠ j → (L i).n ≠ 0 → (L j).n ≠ 0 → A i ≠ A j) := hap
      have HVS : Hid (vs.size = N * 9) := hvs
      clear hc hat hpr hs hlv how hap hvs
      go_wp2_with (go_at_call 62; refine (toLine_any x c (L k) _ HPR.out hnk).mono ?_; rintro e w1 ⟨y, rfl, hz1, hb1⟩; have s1 := Sits.below HS.out hb1 (Sits.lt HS.out); have gf := s1.frozen; obtain ⟨u0, g0⟩ : ∃ u, w1.cell? ⟨w.heap.size, k * 9, none⟩ = some u := ⟨_, (s1.cell _).trans (Array.getElem?_eq_getElem (by rw [HVS.out]; omega))⟩; obtain ⟨u1, g1⟩ : ∃ u, w1.cell? ⟨w.heap.size, k * 9 + 1, none⟩ = some u := ⟨_, (s1.cell _).trans (Array.getElem?_eq_getElem (by rw [HVS.out]; omega))⟩; obtain ⟨u2, g2⟩ : ∃ u, w1.cell? ⟨w.heap.size, k * 9 + 2, none⟩ = some u := ⟨_, (s1.cell _).trans (Array.getElem?_eq_getElem (by rw [HVS.out]; omega))⟩; obtain ⟨u3, g3⟩ : ∃ u, w1.cell? ⟨w.heap.size, k * 9 + 3, none⟩ = some u := ⟨_, (s1.cell _).trans (Array.getElem?_eq_getElem (by rw [HVS.out]; omega))⟩; obtain ⟨u4, g4⟩ : ∃ u, w1.cell? ⟨w.heap.size, k * 9 + 4, none⟩ = some u := ⟨_, (s1.cell _).trans (Array.getElem?_eq_getElem (by rw [HVS.out]; omega))⟩; obtain ⟨u5, g5⟩ : ∃ u, w1.cell? ⟨w.heap.size, k * 9 + 5, none⟩ = some u := ⟨_, (s1.cell _).trans (Array.getElem?_eq_getElem (by rw [HVS.out]; omega))⟩; obtain ⟨u6, g6⟩ : ∃ u, w1.cell? ⟨w.heap.size, k * 9 + 6, none⟩ = some u := ⟨_, (s1.cell _).trans (Array.getElem?_eq_getElem (by rw [HVS.out]; omega))⟩; obtain ⟨u7, g7⟩ : ∃ u, w1.cell? ⟨w.heap.size, k * 9 + 7, none⟩ = some u := ⟨_, (s1.cell _).trans (Array.getElem?_eq_getElem (by rw [HVS.out]; omega))⟩; obtain ⟨u8v, g8⟩ : ∃ u, w1.cell? ⟨w.heap.size, k * 9 + 8, none⟩ = some u := ⟨_, (s1.cell _).trans (Array.getElem?_eq_getElem (by rw [HVS.out]; omega))⟩; have HS1 : Hid (Sits w1 w.heap.size vs 53) := s1; have HZ1 : Hid (ZI wr.heap.size w1.heap.size w1 y ((L k).n * 6) (flat (L k).f)) := hz1; have HB1 : Hid (Below wr.heap.size wr w1) := hb1; clear s1 hz1 hb1)
      go_roundw
      case rel =>
        have c9 := ln_chg w1 w.heap.size (k * 9) (k * 9 + 1) (k * 9 + 2) (k * 9 + 3) (k * 9 + 4) (k * 9 + 5) (k * 9 + 6) (k * 9 + 7) (k * 9 + 8) (.slice y (L k).n (L k).n) (.int .i64 (L k).sh) (.int .i64 (L k).cd.tg) (.int .i64 (L k).cd.iv) (.int .i64 (L k).cd.fi) (.int .i64 (L k).cd.nx) (.int .i64 (L k).cd.ct) (.int .i64 (L k).cd.la) (.bool (L k).cd.dr)
        have hlo := Sits.lt HS.out
        have far : ∀ i, i < k → (L i).n ≠ 0 → (L k).n ≠ 0 → A i ≠ y := fun i hi h1 h2 e => by
          rcases HOW.out i hi with h | ⟨g, ha, _, ho⟩
          · exact h1 h
          · rcases HZ1.out with h | ⟨g', ha', hg', _, _⟩
            · exact h2 (by omega)
            · rw [ha, ha'] at e
              have e' : g = g' := by simpa using e
              have := ho.1
              omega
        refine ⟨k + 1, fun i => if i = k then y else A i, set9 vs (k * 9) y (L k).n (L k), by omega, by go_num, c9.bel (hb.trans (Below.mono HB1.out hb.size)) (Nat.le_refl _), Sits.set9 HS1.out (k * 9) y (L k).n (L k), (set9_size _ _ _ _ _).trans HVS.out, fun i hi => ?_, fun i hi => ?_, fun i j hi hj hne h1 h2 => ?_⟩ <;> dsimp only
        · by_cases e : i = k
          · subst e
            rw [if_pos rfl]
            exact set9_lv _ _ _ _ _ (by rw [HVS.out]; omega)
          · rw [if_neg e]
            exact (HLV.out i (by omega)).set9 (by omega)
        · by_cases e : i = k
          · subst e
            rw [if_pos rfl]
            rcases HZ1.out with h | ⟨g, ha, h1, h2, ho⟩
            · exact .inl (by omega)
            · exact .inr ⟨g, ha, by omega, own_same ho (c9.block g ho.1 (by omega)) c9.size⟩
          · rw [if_neg e]
            rcases HOW.out i (by omega) with h | ⟨g, ha, hg, ho⟩
            · exact .inl h
            · have ho1 := ho.below HB1.out
              exact .inr ⟨g, ha, hg, own_same ho1 (c9.block g ho1.1 (by omega)) c9.size⟩
        · by_cases ei : i = k
          · by_cases ej : j = k
            · omega
            · rw [if_pos ei, if_neg ej]
              exact fun e => far j (by omega) h2 (by rw [← ei]; exact h1) e.symm
          · by_cases ej : j = k
            · rw [if_neg ei, if_pos ej]
              exact far i (by omega) h1 (by rw [← ej]; exact h2)
            · rw [if_neg ei, if_neg ej]
              exact HAP.out i j (by omega) (by omega) hne h1 h2
      case measure => simp [intOf]; omega
    · obtain rfl : k = N := by omega
      go_wp2
      go_ret
      exact ⟨_, A, rfl, ⟨Nat.le_refl _, ⟨vs, _, hs, hvs, hlv⟩, fun i _ => Nat.le_refl _, fun i hi => by
        rcases how i hi with e | ⟨g, ha, hg, ho⟩
        · exact .inl e
        · exact .inr ⟨g, ha, by omega, by omega, ho⟩, hap⟩, hb⟩

set_option maxHeartbeats 1000000 in
theorem eqLine_yes (l : Ln) (x y : Option Addr) (c d : Nat) (w : World) (hx : PR w.heap.size w x l.n l.f) (hy : PR w.heap.size w y l.n l.f) (hn : l.n ≤ 1048576) :
    Calls Try.prog 68 #[lnVal x c l, lnVal y d l] w fun e w' => e = .returned (.bool true) ∧ Below w.heap.size w w' := by
  have HX : Hid (PR w.heap.size w x l.n l.f) := hx
  have HY : Hid (PR w.heap.size w y l.n l.f) := hy
  clear hx hy
  obtain ⟨n, f, sh, tg, iv, fi, nx, ct, la, dr⟩ := l
  dsimp only at HX HY hn ⊢
  have b0 : Below w.heap.size w ((w.alloc (.cells (lnCells x c ⟨n, f, sh, tg, iv, fi, nx, ct, la, dr⟩) 53)).alloc (.cells (lnCells y d ⟨n, f, sh, tg, iv, fi, nx, ct, la, dr⟩) 53)) := ((Below.refl _ w).alloc (Nat.le_refl _) _).alloc (by simp) _
  have s0 := (Sits.new w (lnCells x c ⟨n, f, sh, tg, iv, fi, nx, ct, la, dr⟩) 53).alloc (.cells (lnCells y d ⟨n, f, sh, tg, iv, fi, nx, ct, la, dr⟩) 53)
  have s1 := Sits.new (w.alloc (.cells (lnCells x c ⟨n, f, sh, tg, iv, fi, nx, ct, la, dr⟩) 53)) (lnCells y d ⟨n, f, sh, tg, iv, fi, nx, ct, la, dr⟩) 53
  simp only [World.size_alloc] at s1
  have B0 : Hid (Below _ _ _) := b0
  have S0 : Hid (Sits _ _ _ _) := s0
  have S1 : Hid (Sits _ _ _ _) := s1
  clear b0 s0 s1
  go_enter Try.func68, Try.ntmps68
  go_wp2_with (first
    | (go_at_call 87; refine (eqPktS_yes x y n c d f _ ((PR.below HX.out B0.out).mono (B0.out).size) ((PR.below HY.out B0.out).mono (B0.out).size) hn).mono ?_; rintro e w1 ⟨rfl, hb1⟩; have s2 := Sits.below S0.out hb1 (Sits.lt S0.out); have s3 := Sits.below S1.out hb1 (Sits.lt S1.out); have a1 := s2.cell 1; have a2 := s2.cell 2; have a3 := s2.cell 3; have a4 := s2.cell 4; have a5 := s2.cell 5; have a6 := s2.cell 6; have a7 := s2.cell 7; have a8 := s2.cell 8; have d1 := s3.cell 1; have d2 := s3.cell 2; have d3 := s3.cell 3; have d4 := s3.cell 4; have d5 := s3.cell 5; have d6 := s3.cell 6; have d7 := s3.cell 7; have d8 := s3.cell 8; clear s2 s3)
    | (go_at_call 88; refine (eqCodel_yes ⟨tg, iv, fi, nx, ct, la, dr⟩ _).mono ?_; rintro e w2 ⟨rfl, hk2⟩))
  go_ret
  have B1 := (B0.out).trans (hb1.mono (B0.out).size)
  exact ⟨rfl, B1.trans (hk2.1.mono B1.size)⟩

set_option maxRecDepth 100000 in
set_option maxHeartbeats 2000000 in
theorem eqLineS_yes (a b : Option Addr) (N ca cb : Nat) (L : Nat → Ln) (w : World) (ha : LR w.heap.size w a N L) (hb : LR w.heap.size w b N L) (hN : N ≤ 1048576) (hn : ∀ i, i < N → (L i).n ≤ 1048576) :
    Calls Try.prog 36 #[.slice a N ca, .slice b N cb] w fun e w' => e = .returned (.bool true) ∧ Below w.heap.size w w' := by
  have HA : Hid (LR w.heap.size w a N L) := ha
  have HB : Hid (LR w.heap.size w b N L) := hb
  have HN : Hid (∀ i, i < N → (L i).n ≤ 1048576) := hn
  clear ha hb hn
  go_enter Try.func36, Try.ntmps36
  go_wp2
  go_loopw [5] (fun i wr => ∃ k : Nat, k ≤ N ∧ i = .int .i64 k ∧ Below w.heap.size w wr) (fun i _ => N - (intOf i).toNat)
  case atStart => exact ⟨0, Nat.zero_le _, rfl, Below.refl _ _⟩
  case round =>
    obtain ⟨k, hk, rfl, hkept⟩ := hrel
    by_cases hlt : k < N
    · obtain ⟨b1, o1, rfl, l1, h1⟩ := LR.at HA.out hlt
      obtain ⟨b2, o2, rfl, l2, h2⟩ := LR.at HB.out hlt
      obtain ⟨x, cx, ax, _, px⟩ := h1 k hlt
      obtain ⟨y, cy, ay, _, py⟩ := h2 k hlt
      obtain ⟨c0, c1, c2, c3, c4, c5, c6, c7, c8⟩ := ax.below hkept l1
      obtain ⟨d0, d1, d2, d3, d4, d5, d6, d7, d8⟩ := ay.below hkept l2
      have HX : Hid (PR wr.heap.size wr x (L k).n (L k).f) := (px.below hkept).mono hkept.size
      have HY : Hid (PR wr.heap.size wr y (L k).n (L k).f) := (py.below hkept).mono hkept.size
      have hnk := HN.out k hlt
      clear h1 h2 ax ay px py
      have hsz := hkept.size
      go_wp2
      refine wp_region_quiet (C := fun w' => Below wr.heap.size wr w') (by kernel_rfl) (by kernel_rfl) ((Below.refl _ _).drew) ?_
      simp only []
      repeat (first
        | go_big_quiet_skip
        | (go_big_quiet_want
           unfold Oper.quiet
           apply Exists.intro
           refine ⟨fun w' hw' => ?_, ?_⟩
           (have y0 := (hw'.cell (p := ⟨b1, o1 + k * 9, none⟩) (by show b1 < _; omega)).trans c0
            have y1 := (hw'.cell (p := ⟨b1, o1 + k * 9 + 1, none⟩) (by show b1 < _; omega)).trans c1
            have y2 := (hw'.cell (p := ⟨b1, o1 + k * 9 + 2, none⟩) (by show b1 < _; omega)).trans c2
            have y3 := (hw'.cell (p := ⟨b1, o1 + k * 9 + 3, none⟩) (by show b1 < _; omega)).trans c3
            have y4 := (hw'.cell (p := ⟨b1, o1 + k * 9 + 4, none⟩) (by show b1 < _; omega)).trans c4
            have y5 := (hw'.cell (p := ⟨b1, o1 + k * 9 + 5, none⟩) (by show b1 < _; omega)).trans c5
            have y6 := (hw'.cell (p := ⟨b1, o1 + k * 9 + 6, none⟩) (by show b1 < _; omega)).trans c6
            have y7 := (hw'.cell (p := ⟨b1, o1 + k * 9 + 7, none⟩) (by show b1 < _; omega)).trans c7
            have y8 := (hw'.cell (p := ⟨b1, o1 + k * 9 + 8, none⟩) (by show b1 < _; omega)).trans c8
            have z0 := (hw'.cell (p := ⟨b2, o2 + k * 9, none⟩) (by show b2 < _; omega)).trans d0
            have z1 := (hw'.cell (p := ⟨b2, o2 + k * 9 + 1, none⟩) (by show b2 < _; omega)).trans d1
            have z2 := (hw'.cell (p := ⟨b2, o2 + k * 9 + 2, none⟩) (by show b2 < _; omega)).trans d2
            have z3 := (hw'.cell (p := ⟨b2, o2 + k * 9 + 3, none⟩) (by show b2 < _; omega)).trans d3
            have z4 := (hw'.cell (p := ⟨b2, o2 + k * 9 + 4, none⟩) (by show b2 < _; omega)).trans d4
            have z5 := (hw'.cell (p := ⟨b2, o2 + k * 9 + 5, none⟩) (by show b2 < _; omega)).trans d5
            have z6 := (hw'.cell (p := ⟨b2, o2 + k * 9 + 6, none⟩) (by show b2 < _; omega)).trans d6
            have z7 := (hw'.cell (p := ⟨b2, o2 + k * 9 + 7, none⟩) (by show b2 < _; omega)).trans d7
            have z8 := (hw'.cell (p := ⟨b2, o2 + k * 9 + 8, none⟩) (by show b2 < _; omega)).trans d8
            go_simp
            first
              | (go_at_call 68; refine (eqLine_yes (L k) x y cx cy _ ((PR.below HX.out hw').mono hw'.size) ((PR.below HY.out hw').mono hw'.size) hnk).mono ?_; rintro e w1 ⟨rfl, hk1⟩; exact ⟨rfl, hw'.trans (hk1.mono hw'.size)⟩)
              | exact rfl)
           simp only [Act.put, List.setIfInBounds_toArray, List.set_cons_zero, List.set_cons_succ]
           go_big_quiet_on))
      refine wpQuiet_nil ?_
      intro w2 hw2
      go_wp2
      go_roundw
      case rel => exact ⟨k + 1, by omega, by go_num, hkept.trans (hw2.mono hsz)⟩
      case measure => simp [intOf]; omega
    · obtain rfl : k = N := by omega
      go_wp2
      go_ret
      exact ⟨rfl, hkept⟩

end Go.Proofs.Ytmjggolllijamaa
