/-
  SHAPE: a Shape's value; the laws' szShape, toShape, eqShape.
-/
import Derived.Test.YtmjggolllijamaaFair0
namespace Go.Proofs.Ytmjggolllijamaa
open Go.RowKit
set_option linter.unusedVariables false

/-- A Shape's five numbers. -/
structure Sh where
  rt : Int
  ov : Int
  nx : Int
  qt : Int
  lim : Int
@[reducible] def shVal (s : Sh) (a : Option Addr) (N ca : Nat) (b : Option Addr) (n c : Nat) : Value := .agg #[.int .i64 s.rt, .int .i64 s.ov, .int .i64 s.nx, .int .i64 s.qt, .int .i64 s.lim, .slice a N ca, .slice b n c]
@[reducible] def shCells (s : Sh) (a : Option Addr) (N ca : Nat) (b : Option Addr) (n c : Nat) : Array Value := #[.int .i64 s.rt, .int .i64 s.ov, .int .i64 s.nx, .int .i64 s.qt, .int .i64 s.lim, .slice a N ca, .slice b n c]
@[reducible] def shZero : Array Value := #[.int .i64 0, .int .i64 0, .int .i64 0, .int .i64 0, .int .i64 0, .slice none 0 0, .slice none 0 0]

/-- What is known of a Shape that came in. -/
structure ShapeIn (w : World) (s : Sh) (a : Option Addr) (N ca : Nat) (b : Option Addr) (n c : Nat) (L : Nat → Ln) (tn : Nat → Int) : Prop where
  i0 : -9223372036854775808 ≤ s.rt ∧ s.rt ≤ 9223372036854775807
  i1 : -9223372036854775808 ≤ s.ov ∧ s.ov ≤ 9223372036854775807
  i2 : -9223372036854775808 ≤ s.nx ∧ s.nx ≤ 9223372036854775807
  i3 : -9223372036854775808 ≤ s.qt ∧ s.qt ≤ 9223372036854775807
  i4 : -9223372036854775808 ≤ s.lim ∧ s.lim ≤ 9223372036854775807
  n1 : N ≤ ca
  n2 : ca ≤ maxLen
  n3 : ∀ i, i < N → (L i).n ≤ maxLen
  m1 : n ≤ c
  m2 : c ≤ maxLen
  lr : LR w.heap.size w a N L
  rb : Row .i64 w b n tn

theorem szShape_any (s : Sh) (a : Option Addr) (N ca : Nat) (b : Option Addr) (n c : Nat) (L : Nat → Ln) (w : World)
    (hN : (N : Int) ≤ 9223372036854775807) (hn : ∀ i, i < N → ((L i).n : Int) ≤ 9223372036854775807) (h1 : (n : Int) ≤ 9223372036854775807) (hP : LR w.heap.size w a N L) :
    Calls Try.prog 6 #[shVal s a N ca b n c, .int .i64 1048576] w fun e w' => (∃ r : Int, e = .returned (.int .i64 r) ∧ -1 ≤ r ∧ r ≤ 1048576 ∧ (0 ≤ r → (N : Int) + (cntF L N : Int) + n ≤ 1048576)) ∧ Below w.heap.size w w' := by
  have HP : Hid (LR w.heap.size w a N L) := hP
  clear hP
  have b0 : Below w.heap.size w (w.alloc (.cells (shCells s a N ca b n c) 25)) := (Below.refl _ w).alloc (Nat.le_refl _) _
  have s0 := Sits.new w (shCells s a N ca b n c) 25
  have B0 : Hid (Below _ _ _) := b0
  have S0 : Hid (Sits _ _ _ _) := s0
  clear b0 s0
  obtain ⟨r1, hr1⟩ : ∃ r, leftF L N 1048576 = r := ⟨_, rfl⟩
  have hr1b : r1 = -1 ∨ (0 ≤ r1 ∧ r1 = 1048576 - N - (cntF L N : Int)) := by
    rw [← hr1]; unfold leftF; split
    · exact .inl rfl
    · exact .inr (by omega)
  rcases hr1b with e1 | ⟨p1, e1⟩
  · subst e1
    go_enter Try.func6, Try.ntmps6
    go_wp2_with (go_at_call 25; refine (szLineS_any a N ca L 1048576 _ hN hn (LR.go HP.out B0.out (B0.out).size) (by omega) (by omega)).mono ?_; rintro e w1 ⟨rfl, hb1⟩; rw [hr1])
    go_ret
    exact ⟨⟨-1, rfl, by omega, by omega, by omega⟩, (B0.out).trans (hb1.mono (B0.out).size)⟩
  · have E1 : Hid (r1 = 1048576 - N - (cntF L N : Int)) := e1
    have hle : r1 ≤ 1048576 := by omega
    clear e1
    have h0 : ¬ r1 < 0 := by omega
    by_cases h3 : r1 < (n : Int)
    · go_enter Try.func6, Try.ntmps6
      go_upto_region 4 with (go_at_call 25; refine (szLineS_any a N ca L 1048576 _ hN hn (LR.go HP.out B0.out (B0.out).size) (by omega) (by omega)).mono ?_; rintro e w1 ⟨rfl, hb1⟩; rw [hr1]; have s1 := Sits.below S0.out hb1 (Sits.lt S0.out); have x6 := s1.cell 6; clear s1)
      go_wp2_with (go_at_call 26; refine (szIntS_any b n c r1 _ h1 (by omega) (by omega)).mono ?_; rintro e w2 ⟨rfl, rfl⟩; rw [if_pos h3])
      go_ret
      have e1 := E1.out
      exact ⟨⟨-1, rfl, by omega, by omega, by omega⟩, (B0.out).trans (hb1.mono (B0.out).size)⟩
    · have h0'' : ¬ r1 - (n : Int) < 0 := by omega
      go_enter Try.func6, Try.ntmps6
      go_upto_region 4 with (go_at_call 25; refine (szLineS_any a N ca L 1048576 _ hN hn (LR.go HP.out B0.out (B0.out).size) (by omega) (by omega)).mono ?_; rintro e w1 ⟨rfl, hb1⟩; rw [hr1]; have s1 := Sits.below S0.out hb1 (Sits.lt S0.out); have x6 := s1.cell 6; clear s1)
      go_wp2_with (go_at_call 26; refine (szIntS_any b n c r1 _ h1 (by omega) (by omega)).mono ?_; rintro e w2 ⟨rfl, rfl⟩; rw [if_neg (by omega)])
      go_ret
      have e1 := E1.out
      exact ⟨⟨_, rfl, by omega, by omega, by omega⟩, (B0.out).trans (hb1.mono (B0.out).size)⟩

theorem ret_sh {fn : Func} {tmps : Array Value} {W : World} {i B : Nat} {v0 v1 v2 v3 v4 v5 v6 : Value} {t : TypeId} (hr : fn.results = #[.cell i 29]) (hi : tmps[i]?.getD undef = .pointer (some ⟨B, 0, none⟩)) (hs : Sits W B #[v0, v1, v2, v3, v4, v5, v6] t) : (results fn tmps).run Try.prog W = .ok (.agg #[v0, v1, v2, v3, v4, v5, v6]) W := by
  have c0 : W.cell? ⟨B, 0, none⟩ = some v0 := hs.cell 0
  have c1 : W.cell? ⟨B, 1, none⟩ = some v1 := hs.cell 1
  have c2 : W.cell? ⟨B, 2, none⟩ = some v2 := hs.cell 2
  have c3 : W.cell? ⟨B, 3, none⟩ = some v3 := hs.cell 3
  have c4 : W.cell? ⟨B, 4, none⟩ = some v4 := hs.cell 4
  have c5 : W.cell? ⟨B, 5, none⟩ = some v5 := hs.cell 5
  have c6 : W.cell? ⟨B, 6, none⟩ = some v6 := hs.cell 6
  simp [results, hr, hi, go_sem, c0, c1, c2, c3, c4, c5, c6]

/-- Where a copied Shape lies. -/
def SO (base : Nat) (w : World) (B : Nat) (A : Nat → Option Addr) (C : Nat → Nat) (N : Nat) (L : Nat → Ln) (x : Option Addr) (n : Nat) (tn : Nat → Int) : Prop :=
  LO base w B N A C L ∧ ∃ m1 : Nat, base ≤ m1 ∧ Under m1 B N A L ∧ ZI m1 w.heap.size w x n tn
theorem SO.row {base : Nat} {w : World} {B : Nat} {A : Nat → Option Addr} {C : Nat → Nat} {N : Nat} {L : Nat → Ln} {x : Option Addr} {n : Nat} {tn : Nat → Int} (h : SO base w B A C N L x n tn) : Row .i64 w x n tn := by
  obtain ⟨h0, m1, h1, h2, h3⟩ := h
  exact h3.row
theorem SO.below {base : Nat} {w w' : World} {B : Nat} {A : Nat → Option Addr} {C : Nat → Nat} {N : Nat} {L : Nat → Ln} {x : Option Addr} {n : Nat} {tn : Nat → Int} (h : SO base w B A C N L x n tn) (hb : Below w.heap.size w w') : SO base w' B A C N L x n tn := by
  obtain ⟨h0, m1, h1, h2, h3⟩ := h
  exact ⟨h0.below hb, m1, h1, h2, (h3.below hb).wide (Nat.le_refl _) hb.size⟩

set_option maxHeartbeats 2000000 in
theorem toShape_any (s : Sh) (a : Option Addr) (N ca : Nat) (b : Option Addr) (n c : Nat) (L : Nat → Ln) (tn : Nat → Int) (w : World)
    (hN : N ≤ 1048576) (hn : ∀ i, i < N → (L i).n ≤ 1048576) (h1 : n ≤ 1048576) (hP : LR w.heap.size w a N L) (hb : Row .i64 w b n tn) :
    Calls Try.prog 8 #[shVal s a N ca b n c] w fun e w' => ∃ (B : Nat) (A : Nat → Option Addr) (x : Option Addr), e = .returned (shVal s (some ⟨B, 0, none⟩) N N x n n) ∧ SO w.heap.size w' B A (fun i => (L i).n) N L x n tn ∧ Below w.heap.size w w' := by
  have HP : Hid (LR w.heap.size w a N L) := hP
  have HRB : Hid (Row .i64 w b n tn) := hb
  clear hP hb
  have HN : Hid (∀ i, i < N → (L i).n ≤ 1048576) := hn
  have H0 : Hid (N ≤ 1048576) := hN
  have H1 : Hid (n ≤ 1048576) := h1
  clear hn hN h1
  obtain ⟨W0, hW0⟩ : ∃ W0, ((w.alloc (.cells (shCells s a N ca b n c) 25)).alloc (.cells shZero 29)).alloc (.cells #[.int .i64 s.rt, .int .i64 s.ov, .int .i64 s.nx, .int .i64 s.qt, .int .i64 s.lim, .slice none 0 0, .slice none 0 0] 29) = W0 := ⟨_, rfl⟩
  have b0 : Below w.heap.size w W0 := by rw [← hW0]; exact (((Below.refl _ w).alloc (Nat.le_refl _) _).alloc (by simp) _).alloc (by simp; omega) _
  have s0 : Sits W0 w.heap.size (shCells s a N ca b n c) 25 := by rw [← hW0]; exact ((Sits.new w _ _).alloc _).alloc _
  have s1 : Sits W0 (w.heap.size + 1) shZero 29 := by rw [← hW0]; exact (Sits.new' (by simp)).alloc _
  have s2 : Sits W0 (w.heap.size + 1 + 1) #[.int .i64 s.rt, .int .i64 s.ov, .int .i64 s.nx, .int .i64 s.qt, .int .i64 s.lim, .slice none 0 0, .slice none 0 0] 29 := by rw [← hW0]; exact Sits.new' (by simp)
  have hz0 : W0.heap.size = w.heap.size + 1 + 1 + 1 := by rw [← hW0]; simp
  have HS0 : Hid (Sits _ _ _ _) := s0
  have HS1 : Hid (Sits _ _ _ _) := s1
  have HS2 : Hid (Sits _ _ _ _) := s2
  have HB0 : Hid (Below w.heap.size w W0) := b0
  have HZ0 : Hid (W0.heap.size = w.heap.size + 1 + 1 + 1) := hz0
  have HW0 : Hid (((w.alloc (.cells (shCells s a N ca b n c) 25)).alloc (.cells shZero 29)).alloc (.cells #[.int .i64 s.rt, .int .i64 s.ov, .int .i64 s.nx, .int .i64 s.qt, .int .i64 s.lim, .slice none 0 0, .slice none 0 0] 29) = W0) := hW0
  clear s0 s1 s2 b0 hz0 hW0
  go_enter Try.func8, Try.ntmps8
  go_upto_region 7 with fail
  rw [HW0.out]
  clear HW0
  have x5 := Sits.cell HS0.out 5
  go_upto_region 8 with (go_at_call 29; refine (toLineS_any a N ca L _ (LR.go HP.out HB0.out (HB0.out).size) H0.out HN.out).mono ?_; rintro e w1 ⟨B, A, rfl, hlo1, hb1⟩; have HLO : Hid (LO _ _ _ _ _ _ _) := hlo1; have HB1 : Hid (Below _ _ _) := hb1; have t2 := Sits.below HS2.out hb1 (Sits.lt HS2.out); have y2 := t2.cell 5; have yf := t2.frozen; clear t2 hlo1 hb1)
  obtain ⟨v1, hv1⟩ : ∃ v, w1.setCell ⟨w.heap.size + 1 + 1, 5, none⟩ (.slice (some ⟨B, 0, none⟩) N N) = v := ⟨_, rfl⟩
  have c1 : Chg (w.heap.size + 1 + 1) (w.heap.size + 1 + 1 + 1) w1 v1 := by rw [← hv1]; exact chg_set (Chg.refl _ _ _) (Nat.le_refl _) (Nat.lt_succ_self _) _ _
  have s0 : Sits v1 w.heap.size (shCells s a N ca b n c) 25 := (Sits.below HS0.out HB1.out (Sits.lt HS0.out)).chg c1 (.inl (by omega))
  have s1 : Sits v1 (w.heap.size + 1) shZero 29 := (Sits.below HS1.out HB1.out (Sits.lt HS1.out)).chg c1 (.inl (by omega))
  have s2 : Sits v1 (w.heap.size + 1 + 1) #[.int .i64 s.rt, .int .i64 s.ov, .int .i64 s.nx, .int .i64 s.qt, .int .i64 s.lim, .slice (some ⟨B, 0, none⟩) N N, .slice none 0 0] 29 := by rw [← hv1]; exact (Sits.below HS2.out HB1.out (Sits.lt HS2.out)).set 5 _
  have lo1 : LO (w.heap.size + 1 + 1 + 1) v1 B N A (fun i => (L i).n) L := LO.chg (by rw [← HZ0.out]; exact HLO.out) c1 (.inl (Nat.le_refl _))
  have b1 : Below w.heap.size w v1 := c1.bel ((HB0.out).trans (Below.mono HB1.out (HB0.out).size)) (by omega)
  rw [hv1]
  clear hv1 c1 HS0 HS1 HS2 HLO HB1 HB0 y2 yf x5
  have x6 := s0.cell 6
  have HS1 : Hid (Sits _ _ _ _) := s1
  have HS2 : Hid (Sits _ _ _ _) := s2
  have HB0 : Hid (Below _ _ _) := b1
  have HLO : Hid (LO _ _ _ _ _ _ _) := lo1
  clear s0 s1 s2 b1 lo1
  go_upto_region 9 with (go_at_call 30; refine (toIntS_any b n c tn _ (Row.below HRB.out HB0.out) H1.out).mono ?_; rintro e w3 ⟨y, rfl, hz3, hb3⟩; have HZJ : Hid (ZI _ _ _ _ _ _) := hz3; have HB3 : Hid (Below _ _ _) := hb3; have t2 := Sits.below HS2.out hb3 (Sits.lt HS2.out); have y4 := t2.cell 6; have yf := t2.frozen; clear t2 hz3 hb3)
  obtain ⟨v3, hv3⟩ : ∃ v, w3.setCell ⟨w.heap.size + 1 + 1, 6, none⟩ (.slice y n n) = v := ⟨_, rfl⟩
  have c3 : Chg (w.heap.size + 1 + 1) (w.heap.size + 1 + 1 + 1) w3 v3 := by rw [← hv3]; exact chg_set (Chg.refl _ _ _) (Nat.le_refl _) (Nat.lt_succ_self _) _ _
  have s1 : Sits v3 (w.heap.size + 1) shZero 29 := (Sits.below HS1.out HB3.out (Sits.lt HS1.out)).chg c3 (.inl (by omega))
  have s2 : Sits v3 (w.heap.size + 1 + 1) (shCells s (some ⟨B, 0, none⟩) N N y n n) 29 := by rw [← hv3]; exact (Sits.below HS2.out HB3.out (Sits.lt HS2.out)).set 6 _
  have lo3 : LO (w.heap.size + 1 + 1 + 1) v3 B N A (fun i => (L i).n) L := LO.chg (LO.below HLO.out HB3.out) c3 (.inl (Nat.le_refl _))
  have lv2 : w.heap.size + 1 + 1 < v1.heap.size := Sits.lt HS2.out
  have un3 : Under v1.heap.size B N A L := LO.under HLO.out
  have zj3 : ZI v1.heap.size v3.heap.size v3 y n tn := ZI.chg (by have := ZI.wide HZJ.out (Nat.le_refl _) c3.size; exact this) c3 (.inr (by omega))
  have b3 : Below w.heap.size w v3 := c3.bel ((HB0.out).trans (Below.mono HB3.out (HB0.out).size)) (by omega)
  rw [hv3]
  clear hv3 HS1 HS2 HLO HB3 HB0 HZJ y4 yf x6 c3
  have x0 := s2.cell 0
  have x1 := s2.cell 1
  have x2 := s2.cell 2
  have x3 := s2.cell 3
  have x4 := s2.cell 4
  have x5 := s2.cell 5
  have x6 := s2.cell 6
  have y0 := s1.cell 0
  have y1 := s1.cell 1
  have y2 := s1.cell 2
  have y3 := s1.cell 3
  have y4 := s1.cell 4
  have y5 := s1.cell 5
  have y6 := s1.cell 6
  have yf := s1.frozen
  have R : Hid (Sits _ _ _ _) := (((((((s1.set 0 (.int .i64 s.rt)).set 1 (.int .i64 s.ov)).set 2 (.int .i64 s.nx)).set 3 (.int .i64 s.qt)).set 4 (.int .i64 s.lim)).set 5 (.slice (some ⟨B, 0, none⟩) N N)).set 6 (.slice y n n))
  have HLO : Hid (LO _ _ _ _ _ _ _) := lo3
  have HUN : Hid (Under _ _ _ _ _) := un3
  have HZJ : Hid (ZI _ _ _ _ _ _) := zj3
  have HB0 : Hid (Below _ _ _) := b3
  have hb1 := Under.lo un3 lo3
  clear s1 s2 lo3 un3 zj3 b3
  go_wp2
  refine bodyPost_ret (ret_sh Try.results8 rfl R.out) rfl ?_
  have h0 : w.heap.size + 1 ≤ w.heap.size + 1 := Nat.le_refl _
  have h1 : w.heap.size + 1 < w.heap.size + 1 + 1 := Nat.lt_succ_self _
  have c9 : Chg (w.heap.size + 1) (w.heap.size + 1 + 1) v3 _ := (chg_set (chg_set (chg_set (chg_set (chg_set (chg_set (chg_set (Chg.refl _ _ v3) h0 h1 0 (.int .i64 s.rt)) h0 h1 1 (.int .i64 s.ov)) h0 h1 2 (.int .i64 s.nx)) h0 h1 3 (.int .i64 s.qt)) h0 h1 4 (.int .i64 s.lim)) h0 h1 5 (.slice (some ⟨B, 0, none⟩) N N)) h0 h1 6 (.slice y n n))
  refine ⟨B, A, y, rfl, ⟨(LO.chg HLO.out c9 (.inl (by omega))).mono (by omega), v1.heap.size, by omega, HUN.out, (ZI.chg HZJ.out c9 (.inr (by omega))).wide (Nat.le_refl _) c9.size⟩, c9.bel HB0.out (by omega)⟩

set_option maxHeartbeats 2000000 in
theorem eqShape_yes (s : Sh) (a a' : Option Addr) (N ca ca' : Nat) (b b' : Option Addr) (n c c' : Nat) (L : Nat → Ln) (tn : Nat → Int) (w : World)
    (hN : N ≤ 1048576) (hn : ∀ i, i < N → (L i).n ≤ 1048576) (h1 : n ≤ 1048576) (hP : LR w.heap.size w a N L) (hP' : LR w.heap.size w a' N L) (hb : Row .i64 w b n tn) (hb' : Row .i64 w b' n tn) :
    Calls Try.prog 10 #[shVal s a N ca b n c, shVal s a' N ca' b' n c'] w fun e w' => e = .returned (.bool true) ∧ Below w.heap.size w w' := by
  have HP : Hid (LR w.heap.size w a N L) := hP
  have HP' : Hid (LR w.heap.size w a' N L) := hP'
  have HRB : Hid (Row .i64 w b n tn) := hb
  have HRB' : Hid (Row .i64 w b' n tn) := hb'
  have HN : Hid (∀ i, i < N → (L i).n ≤ 1048576) := hn
  have H0 : Hid (N ≤ 1048576) := hN
  have H1 : Hid (n ≤ 9223372036854775807) := by show _ ≤ _; omega
  clear hP hP' hb hb' hn hN h1
  have b0 : Below w.heap.size w ((w.alloc (.cells (shCells s a N ca b n c) 29)).alloc (.cells (shCells s a' N ca' b' n c') 29)) := ((Below.refl _ w).alloc (Nat.le_refl _) _).alloc (by simp) _
  have s0 := (Sits.new w (shCells s a N ca b n c) 29).alloc (.cells (shCells s a' N ca' b' n c') 29)
  have s1 := Sits.new (w.alloc (.cells (shCells s a N ca b n c) 29)) (shCells s a' N ca' b' n c') 29
  simp only [World.size_alloc] at s1
  have B0 : Hid (Below _ _ _) := b0
  have S0 : Hid (Sits _ _ _ _) := s0
  have S1 : Hid (Sits _ _ _ _) := s1
  clear b0 s0 s1
  go_enter Try.func10, Try.ntmps10
  go_upto_region 13 with (go_at_call 36; refine (eqLineS_yes a a' N ca ca' L _ (LR.go HP.out B0.out (B0.out).size) (LR.go HP'.out B0.out (B0.out).size) H0.out HN.out).mono ?_; rintro e w1 ⟨rfl, hb1⟩; have s2 := Sits.below S0.out hb1 (Sits.lt S0.out); have s3 := Sits.below S1.out hb1 (Sits.lt S1.out); have x6 := s2.cell 6; have y6 := s3.cell 6; have B1 : Hid (Below w.heap.size w w1) := (B0.out).trans (hb1.mono (B0.out).size); clear s2 s3 hb1)
  go_wp2_with (go_at_call 37; refine (eqIntS_yes b b' n c c' tn _ (Row.below HRB.out B1.out) (Row.below HRB'.out B1.out) H1.out).mono ?_; rintro e w3 ⟨rfl, hb3⟩)
  go_ret
  exact ⟨rfl, (B1.out).trans (hb3.mono (B1.out).size)⟩

end Go.Proofs.Ytmjggolllijamaa
