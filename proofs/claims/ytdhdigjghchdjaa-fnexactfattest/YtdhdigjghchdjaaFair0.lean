/-
  FAIR: a Fair's value; the laws' szFair, toFair, eqFair.
-/
import Derived.Test.YtdhdigjghchdjaaLines2
namespace Go.Proofs.Ytdhdigjghchdjaa
open Go.RowKit
set_option linter.unusedVariables false

@[reducible] def faVal (q lim : Int) (a : Option Addr) (N ca : Nat) (b : Option Addr) (nn cb : Nat) (c : Option Addr) (no cc : Nat) : Value := .agg #[.int .i64 q, .int .i64 lim, .slice a N ca, .slice b nn cb, .slice c no cc]
@[reducible] def faCells (q lim : Int) (a : Option Addr) (N ca : Nat) (b : Option Addr) (nn cb : Nat) (c : Option Addr) (no cc : Nat) : Array Value := #[.int .i64 q, .int .i64 lim, .slice a N ca, .slice b nn cb, .slice c no cc]
@[reducible] def faZero : Array Value := #[.int .i64 0, .int .i64 0, .slice none 0 0, .slice none 0 0, .slice none 0 0]

/-- What is known of a Fair that came in. -/
structure FairIn (w : World) (q lim : Int) (a : Option Addr) (N ca : Nat) (b : Option Addr) (nn cb : Nat) (c : Option Addr) (no cc : Nat) (L : Nat → Ln) (nw od : Nat → Int) : Prop where
  qi : -9223372036854775808 ≤ q ∧ q ≤ 9223372036854775807
  li : -9223372036854775808 ≤ lim ∧ lim ≤ 9223372036854775807
  n1 : N ≤ ca
  n2 : ca ≤ maxLen
  n3 : ∀ i, i < N → (L i).n ≤ maxLen
  m1 : nn ≤ cb
  m2 : cb ≤ maxLen
  k1 : no ≤ cc
  k2 : cc ≤ maxLen
  lr : LR w.heap.size w a N L
  rb : Row .i64 w b nn nw
  rc : Row .i64 w c no od

theorem szFair_any (q lim : Int) (a : Option Addr) (N ca : Nat) (b : Option Addr) (nn cb : Nat) (c : Option Addr) (no cc : Nat) (L : Nat → Ln) (w : World)
    (hN : (N : Int) ≤ 9223372036854775807) (hn : ∀ i, i < N → ((L i).n : Int) ≤ 9223372036854775807) (h1 : (nn : Int) ≤ 9223372036854775807) (h2 : (no : Int) ≤ 9223372036854775807) (hP : LR w.heap.size w a N L) :
    Calls Try.prog 4 #[faVal q lim a N ca b nn cb c no cc, .int .i64 1048576] w fun e w' => (∃ r : Int, e = .returned (.int .i64 r) ∧ -1 ≤ r ∧ r ≤ 1048576 ∧ (0 ≤ r → (N : Int) + (cntF L N : Int) + nn + no ≤ 1048576)) ∧ Below w.heap.size w w' := by
  have HP : Hid (LR w.heap.size w a N L) := hP
  clear hP
  have b0 : Below w.heap.size w (w.alloc (.cells (faCells q lim a N ca b nn cb c no cc) 25)) := (Below.refl _ w).alloc (Nat.le_refl _) _
  have s0 := Sits.new w (faCells q lim a N ca b nn cb c no cc) 25
  have B0 : Hid (Below _ _ _) := b0
  have S0 : Hid (Sits _ _ _ _) := s0
  clear b0 s0
  obtain ⟨r1, hr1⟩ : ∃ r, leftF L N 1048576 = r := ⟨_, rfl⟩
  have hr1b : r1 = -1 ∨ (0 ≤ r1 ∧ r1 = 1048576 - N - (cntF L N : Int)) := by
    rw [← hr1]; unfold leftF; split
    · exact .inl rfl
    · exact .inr (by omega)
  rcases hr1b with e1 | ⟨p1, e1⟩
  · subst e1
    go_enter Try.func4, Try.ntmps4
    go_wp2_with (go_at_call 9; refine (szLineS_any a N ca L 1048576 _ hN hn (LR.go HP.out B0.out (B0.out).size) (by omega) (by omega)).mono ?_; rintro e w1 ⟨rfl, hb1⟩; rw [hr1])
    go_ret
    exact ⟨⟨-1, rfl, by omega, by omega, by omega⟩, (B0.out).trans (hb1.mono (B0.out).size)⟩
  · have E1 : Hid (r1 = 1048576 - N - (cntF L N : Int)) := e1
    have hle : r1 ≤ 1048576 := by omega
    clear e1
    have h0 : ¬ r1 < 0 := by omega
    by_cases h3 : r1 < (nn : Int)
    · go_enter Try.func4, Try.ntmps4
      go_upto_region 4 with (go_at_call 9; refine (szLineS_any a N ca L 1048576 _ hN hn (LR.go HP.out B0.out (B0.out).size) (by omega) (by omega)).mono ?_; rintro e w1 ⟨rfl, hb1⟩; rw [hr1]; have s1 := Sits.below S0.out hb1 (Sits.lt S0.out); have x3 := s1.cell 3; have x4 := s1.cell 4; clear s1)
      go_wp2_with (go_at_call 10; refine (szIntS_any b nn cb r1 _ h1 (by omega) (by omega)).mono ?_; rintro e w2 ⟨rfl, rfl⟩; rw [if_pos h3])
      go_ret
      have e1 := E1.out
      exact ⟨⟨-1, rfl, by omega, by omega, by omega⟩, (B0.out).trans (hb1.mono (B0.out).size)⟩
    · obtain ⟨r2, hr2⟩ : ∃ r, r1 - (nn : Int) = r := ⟨_, rfl⟩
      have h0' : ¬ r2 < 0 := by omega
      have E2 : Hid (r1 - (nn : Int) = r2) := hr2
      have E3 : Hid ((if r1 < (nn : Int) then (-1 : Int) else r1 - nn) = r2) := by show _ = _; rw [if_neg h3, hr2]
      have hle2 : r2 ≤ 1048576 := by omega
      clear hr2 h3
      by_cases h4 : r2 < (no : Int)
      · go_enter Try.func4, Try.ntmps4
        go_upto_region 4 with (go_at_call 9; refine (szLineS_any a N ca L 1048576 _ hN hn (LR.go HP.out B0.out (B0.out).size) (by omega) (by omega)).mono ?_; rintro e w1 ⟨rfl, hb1⟩; rw [hr1]; have s1 := Sits.below S0.out hb1 (Sits.lt S0.out); have x3 := s1.cell 3; have x4 := s1.cell 4; clear s1)
        go_upto_region 7 with (go_at_call 10; refine (szIntS_any b nn cb r1 _ h1 (by omega) (by omega)).mono ?_; rintro e w2 ⟨rfl, rfl⟩; rw [E3.out])
        go_wp2_with (go_at_call 10; refine (szIntS_any c no cc r2 _ h2 (by omega) (by omega)).mono ?_; rintro e w2 ⟨rfl, rfl⟩; rw [if_pos h4])
        go_ret
        have e1 := E1.out
        have e2 := E2.out
        exact ⟨⟨-1, rfl, by omega, by omega, by omega⟩, (B0.out).trans (hb1.mono (B0.out).size)⟩
      · have h0'' : ¬ r2 - (no : Int) < 0 := by omega
        go_enter Try.func4, Try.ntmps4
        go_upto_region 4 with (go_at_call 9; refine (szLineS_any a N ca L 1048576 _ hN hn (LR.go HP.out B0.out (B0.out).size) (by omega) (by omega)).mono ?_; rintro e w1 ⟨rfl, hb1⟩; rw [hr1]; have s1 := Sits.below S0.out hb1 (Sits.lt S0.out); have x3 := s1.cell 3; have x4 := s1.cell 4; clear s1)
        go_upto_region 7 with (go_at_call 10; refine (szIntS_any b nn cb r1 _ h1 (by omega) (by omega)).mono ?_; rintro e w2 ⟨rfl, rfl⟩; rw [E3.out])
        go_wp2_with (go_at_call 10; refine (szIntS_any c no cc r2 _ h2 (by omega) (by omega)).mono ?_; rintro e w2 ⟨rfl, rfl⟩; rw [if_neg (by omega)])
        go_ret
        have e1 := E1.out
        have e2 := E2.out
        exact ⟨⟨_, rfl, by omega, by omega, by omega⟩, (B0.out).trans (hb1.mono (B0.out).size)⟩

theorem ret_fa {fn : Func} {tmps : Array Value} {W : World} {i B : Nat} {v0 v1 v2 v3 v4 : Value} {t : TypeId} (hr : fn.results = #[.cell i 30]) (hi : tmps[i]?.getD undef = .pointer (some ⟨B, 0, none⟩)) (hs : Sits W B #[v0, v1, v2, v3, v4] t) : (results fn tmps).run Try.prog W = .ok (.agg #[v0, v1, v2, v3, v4]) W := by
  have c0 : W.cell? ⟨B, 0, none⟩ = some v0 := hs.cell 0
  have c1 : W.cell? ⟨B, 1, none⟩ = some v1 := hs.cell 1
  have c2 : W.cell? ⟨B, 2, none⟩ = some v2 := hs.cell 2
  have c3 : W.cell? ⟨B, 3, none⟩ = some v3 := hs.cell 3
  have c4 : W.cell? ⟨B, 4, none⟩ = some v4 := hs.cell 4
  simp [results, hr, hi, go_sem, c0, c1, c2, c3, c4]

/-- All blocks of the lines lie below m. -/
def Under (m : Nat) (B N : Nat) (A : Nat → Option Addr) (L : Nat → Ln) : Prop := B < m ∧ ∀ i, i < N → (L i).n ≠ 0 → ∀ p, A i = some p → p.block < m
theorem LO.under {base : Nat} {w : World} {B N : Nat} {A : Nat → Option Addr} {C : Nat → Nat} {L : Nat → Ln} (h : LO base w B N A C L) : Under w.heap.size B N A L := by
  obtain ⟨vs, t, hs, _⟩ := h.sits
  refine ⟨hs.lt, fun i hi hn p hp => ?_⟩
  rcases h.own i hi with e | ⟨g, ha, _, _, ho⟩
  · exact absurd e hn
  · rw [ha] at hp; cases hp; exact ho.1
theorem Under.lo {base m : Nat} {w : World} {B N : Nat} {A : Nat → Option Addr} {C : Nat → Nat} {L : Nat → Ln} (h : Under m B N A L) (h' : LO base w B N A C L) : base < m := Nat.lt_of_le_of_lt h'.lo h.1
theorem Under.mono {m m' B N : Nat} {A : Nat → Option Addr} {L : Nat → Ln} (h : Under m B N A L) (hm : m ≤ m') : Under m' B N A L := ⟨by have := h.1; omega, fun i hi hn p hp => by have := h.2 i hi hn p hp; omega⟩
/-- What is turned elsewhere does not touch lines. -/
theorem LO.chg {base : Nat} {w w' : World} {B N : Nat} {A : Nat → Option Addr} {C : Nat → Nat} {L : Nat → Ln} {lo up : Nat} (h : LO base w B N A C L) (hc : Chg lo up w w') (hd : up ≤ base ∨ Under lo B N A L) : LO base w' B N A C L := by
  have hu := hd
  obtain ⟨h0, ⟨vs, t, hs, h1, h2⟩, h3, h4, h5⟩ := h
  refine ⟨h0, ⟨vs, t, hs.chg hc ?_, h1, h2⟩, h3, fun i hi => ?_, h5⟩
  · rcases hu with e | e
    · exact .inr (by omega)
    · exact .inl e.1
  rcases h4 i hi with e | ⟨g, ha, hg, hne, ho⟩
  · exact .inl e
  · by_cases hz : (L i).n = 0
    · exact .inl hz
    · refine .inr ⟨g, ha, hg, hne, own_same ho (hc.block g ho.1 ?_) hc.size⟩
      rcases hu with e | e
      · omega
      · have : g < lo := e.2 i hi hz _ ha
        omega

/-- Where a copied Fair lies. -/
def FO (base : Nat) (w : World) (B : Nat) (A : Nat → Option Addr) (C : Nat → Nat) (N : Nat) (L : Nat → Ln) (x : Option Addr) (nn : Nat) (nw : Nat → Int) (y : Option Addr) (no : Nat) (od : Nat → Int) : Prop :=
  LO base w B N A C L ∧ ∃ m1 m2 : Nat, m1 ≤ m2 ∧ base ≤ m1 ∧ Under m1 B N A L ∧ ZI m1 m2 w x nn nw ∧ ZI m2 w.heap.size w y no od

set_option maxHeartbeats 2000000 in
theorem toFair_any (q lim : Int) (a : Option Addr) (N ca : Nat) (b : Option Addr) (nn cb : Nat) (c : Option Addr) (no cc : Nat) (L : Nat → Ln) (nw od : Nat → Int) (w : World)
    (hN : N ≤ 1048576) (hn : ∀ i, i < N → (L i).n ≤ 1048576) (h1 : nn ≤ 1048576) (h2 : no ≤ 1048576) (hP : LR w.heap.size w a N L) (hb : Row .i64 w b nn nw) (hc : Row .i64 w c no od) :
    Calls Try.prog 6 #[faVal q lim a N ca b nn cb c no cc] w fun e w' => ∃ (B : Nat) (A : Nat → Option Addr) (x y : Option Addr), e = .returned (faVal q lim (some ⟨B, 0, none⟩) N N x nn nn y no no) ∧ FO w.heap.size w' B A (fun i => (L i).n) N L x nn nw y no od ∧ Below w.heap.size w w' := by
  have HP : Hid (LR w.heap.size w a N L) := hP
  have HRB : Hid (Row .i64 w b nn nw) := hb
  have HRC : Hid (Row .i64 w c no od) := hc
  clear hP hb hc
  have HN : Hid (∀ i, i < N → (L i).n ≤ 1048576) := hn
  have H0 : Hid (N ≤ 1048576) := hN
  have H1 : Hid (nn ≤ 1048576) := h1
  have H2 : Hid (no ≤ 1048576) := h2
  clear hn hN h1 h2
  obtain ⟨W0, hW0⟩ : ∃ W0, ((w.alloc (.cells (faCells q lim a N ca b nn cb c no cc) 25)).alloc (.cells faZero 30)).alloc (.cells #[.int .i64 q, .int .i64 lim, .slice none 0 0, .slice none 0 0, .slice none 0 0] 30) = W0 := ⟨_, rfl⟩
  have b0 : Below w.heap.size w W0 := by rw [← hW0]; exact (((Below.refl _ w).alloc (Nat.le_refl _) _).alloc (by simp) _).alloc (by simp; omega) _
  have s0 : Sits W0 w.heap.size (faCells q lim a N ca b nn cb c no cc) 25 := by rw [← hW0]; exact ((Sits.new w _ _).alloc _).alloc _
  have s1 : Sits W0 (w.heap.size + 1) faZero 30 := by rw [← hW0]; exact (Sits.new' (by simp)).alloc _
  have s2 : Sits W0 (w.heap.size + 1 + 1) #[.int .i64 q, .int .i64 lim, .slice none 0 0, .slice none 0 0, .slice none 0 0] 30 := by rw [← hW0]; exact Sits.new' (by simp)
  have hz0 : W0.heap.size = w.heap.size + 1 + 1 + 1 := by rw [← hW0]; simp
  have HS0 : Hid (Sits W0 w.heap.size (faCells q lim a N ca b nn cb c no cc) 25) := s0
  have HS1 : Hid (Sits W0 (w.heap.size + 1) faZero 30) := s1
  have HS2 : Hid (Sits W0 (w.heap.size + 1 + 1) #[.int .i64 q, .int .i64 lim, .slice none 0 0, .slice none 0 0, .slice none 0 0] 30) := s2
  have HB0 : Hid (Below w.heap.size w W0) := b0
  have HZ0 : Hid (W0.heap.size = w.heap.size + 1 + 1 + 1) := hz0
  have HW0 : Hid (((w.alloc (.cells (faCells q lim a N ca b nn cb c no cc) 25)).alloc (.cells faZero 30)).alloc (.cells #[.int .i64 q, .int .i64 lim, .slice none 0 0, .slice none 0 0, .slice none 0 0] 30) = W0) := hW0
  clear s0 s1 s2 b0 hz0 hW0
  go_enter Try.func6, Try.ntmps6
  go_upto_region 4 with fail
  rw [HW0.out]
  clear HW0
  have x2 := Sits.cell HS0.out 2
  go_upto_region 5 with (go_at_call 13; refine (toLineS_any a N ca L _ (LR.go HP.out HB0.out (HB0.out).size) H0.out HN.out).mono ?_; rintro e w1 ⟨B, A, rfl, hlo1, hb1⟩; have HLO : Hid (LO _ _ _ _ _ _ _) := hlo1; have HB1 : Hid (Below _ _ _) := hb1; have t2 := Sits.below HS2.out hb1 (Sits.lt HS2.out); have y2 := t2.cell 2; have yf := t2.frozen; clear t2 hlo1 hb1)
  obtain ⟨v1, hv1⟩ : ∃ v, w1.setCell ⟨w.heap.size + 1 + 1, 2, none⟩ (.slice (some ⟨B, 0, none⟩) N N) = v := ⟨_, rfl⟩
  have c1 : Chg (w.heap.size + 1 + 1) (w.heap.size + 1 + 1 + 1) w1 v1 := by rw [← hv1]; exact chg_set (Chg.refl _ _ _) (Nat.le_refl _) (Nat.lt_succ_self _) _ _
  have s0 : Sits v1 w.heap.size (faCells q lim a N ca b nn cb c no cc) 25 := (Sits.below HS0.out HB1.out (Sits.lt HS0.out)).chg c1 (.inl (by omega))
  have s1 : Sits v1 (w.heap.size + 1) faZero 30 := (Sits.below HS1.out HB1.out (Sits.lt HS1.out)).chg c1 (.inl (by omega))
  have s2 : Sits v1 (w.heap.size + 1 + 1) #[.int .i64 q, .int .i64 lim, .slice (some ⟨B, 0, none⟩) N N, .slice none 0 0, .slice none 0 0] 30 := by rw [← hv1]; exact (Sits.below HS2.out HB1.out (Sits.lt HS2.out)).set 2 _
  have lo1 : LO (w.heap.size + 1 + 1 + 1) v1 B N A (fun i => (L i).n) L := LO.chg (by rw [← HZ0.out]; exact HLO.out) c1 (.inl (Nat.le_refl _))
  have b1 : Below w.heap.size w v1 := c1.bel ((HB0.out).trans (Below.mono HB1.out (HB0.out).size)) (by omega)
  rw [hv1]
  clear hv1 c1 HS0 HS1 HS2 HLO HB1 HB0 y2 yf x2
  have x3 := s0.cell 3
  have HS0 : Hid (Sits _ _ _ _) := s0
  have HS1 : Hid (Sits _ _ _ _) := s1
  have HS2 : Hid (Sits _ _ _ _) := s2
  have HB0 : Hid (Below _ _ _) := b1
  have HLO : Hid (LO _ _ _ _ _ _ _) := lo1
  clear s0 s1 s2 b1 lo1
  go_upto_region 6 with (go_at_call 14; refine (toIntS_any b nn cb nw _ (Row.below HRB.out HB0.out) H1.out).mono ?_; rintro e w2 ⟨x, rfl, hz2, hb2⟩; have HZI : Hid (ZI _ _ _ _ _ _) := hz2; have HB2 : Hid (Below _ _ _) := hb2; have t2 := Sits.below HS2.out hb2 (Sits.lt HS2.out); have y3 := t2.cell 3; have yf := t2.frozen; clear t2 hz2 hb2)
  obtain ⟨v2, hv2⟩ : ∃ v, w2.setCell ⟨w.heap.size + 1 + 1, 3, none⟩ (.slice x nn nn) = v := ⟨_, rfl⟩
  have c2 : Chg (w.heap.size + 1 + 1) (w.heap.size + 1 + 1 + 1) w2 v2 := by rw [← hv2]; exact chg_set (Chg.refl _ _ _) (Nat.le_refl _) (Nat.lt_succ_self _) _ _
  have s0 : Sits v2 w.heap.size (faCells q lim a N ca b nn cb c no cc) 25 := (Sits.below HS0.out HB2.out (Sits.lt HS0.out)).chg c2 (.inl (by omega))
  have s1 : Sits v2 (w.heap.size + 1) faZero 30 := (Sits.below HS1.out HB2.out (Sits.lt HS1.out)).chg c2 (.inl (by omega))
  have s2 : Sits v2 (w.heap.size + 1 + 1) #[.int .i64 q, .int .i64 lim, .slice (some ⟨B, 0, none⟩) N N, .slice x nn nn, .slice none 0 0] 30 := by rw [← hv2]; exact (Sits.below HS2.out HB2.out (Sits.lt HS2.out)).set 3 _
  have lo2 : LO (w.heap.size + 1 + 1 + 1) v2 B N A (fun i => (L i).n) L := LO.chg (LO.below HLO.out HB2.out) c2 (.inl (Nat.le_refl _))
  have un2 : Under v1.heap.size B N A L := LO.under HLO.out
  have lv1 : w.heap.size + 1 + 1 < v1.heap.size := Sits.lt HS2.out
  have zi2 : ZI v1.heap.size v2.heap.size v2 x nn nw := ZI.chg (by have := ZI.wide HZI.out (Nat.le_refl _) c2.size; exact this) c2 (.inr (by omega))
  have b2 : Below w.heap.size w v2 := c2.bel ((HB0.out).trans (Below.mono HB2.out (HB0.out).size)) (by omega)
  have hm12 : v1.heap.size ≤ v2.heap.size := Nat.le_trans (Below.size HB2.out) c2.size
  rw [hv2]
  clear hv2 c2 HS0 HS1 HS2 HLO HB2 HB0 HZI y3 yf x3
  obtain ⟨m1, hm1⟩ : ∃ m, v1.heap.size = m := ⟨_, rfl⟩
  rw [hm1] at un2 zi2 lv1 hm12
  clear hm1
  have x4 := s0.cell 4
  have HS1 : Hid (Sits _ _ _ _) := s1
  have HS2 : Hid (Sits _ _ _ _) := s2
  have HB0 : Hid (Below _ _ _) := b2
  have HLO : Hid (LO _ _ _ _ _ _ _) := lo2
  have HUN : Hid (Under _ _ _ _ _) := un2
  have HZI : Hid (ZI _ _ _ _ _ _) := zi2
  clear s0 s1 s2 b2 lo2 un2 zi2
  go_upto_region 7 with (go_at_call 14; refine (toIntS_any c no cc od _ (Row.below HRC.out HB0.out) H2.out).mono ?_; rintro e w3 ⟨y, rfl, hz3, hb3⟩; have HZJ : Hid (ZI _ _ _ _ _ _) := hz3; have HB3 : Hid (Below _ _ _) := hb3; have t2 := Sits.below HS2.out hb3 (Sits.lt HS2.out); have y4 := t2.cell 4; have yf := t2.frozen; clear t2 hz3 hb3)
  obtain ⟨v3, hv3⟩ : ∃ v, w3.setCell ⟨w.heap.size + 1 + 1, 4, none⟩ (.slice y no no) = v := ⟨_, rfl⟩
  have c3 : Chg (w.heap.size + 1 + 1) (w.heap.size + 1 + 1 + 1) w3 v3 := by rw [← hv3]; exact chg_set (Chg.refl _ _ _) (Nat.le_refl _) (Nat.lt_succ_self _) _ _
  have s1 : Sits v3 (w.heap.size + 1) faZero 30 := (Sits.below HS1.out HB3.out (Sits.lt HS1.out)).chg c3 (.inl (by omega))
  have s2 : Sits v3 (w.heap.size + 1 + 1) (faCells q lim (some ⟨B, 0, none⟩) N N x nn nn y no no) 30 := by rw [← hv3]; exact (Sits.below HS2.out HB3.out (Sits.lt HS2.out)).set 4 _
  have lo3 : LO (w.heap.size + 1 + 1 + 1) v3 B N A (fun i => (L i).n) L := LO.chg (LO.below HLO.out HB3.out) c3 (.inl (Nat.le_refl _))
  have lv2 : w.heap.size + 1 + 1 < v2.heap.size := Sits.lt HS2.out
  have zi3 : ZI m1 v2.heap.size v3 x nn nw := ZI.chg (ZI.below HZI.out HB3.out) c3 (.inr (by omega))
  have zj3 : ZI v2.heap.size v3.heap.size v3 y no od := ZI.chg (by have := ZI.wide HZJ.out (Nat.le_refl _) c3.size; exact this) c3 (.inr (by omega))
  have b3 : Below w.heap.size w v3 := c3.bel ((HB0.out).trans (Below.mono HB3.out (HB0.out).size)) (by omega)
  have un3 := HUN.out
  rw [hv3]
  clear hv3 HS1 HS2 HLO HB3 HB0 HZI HZJ HUN y4 yf x4 c3
  have x0 := s2.cell 0
  have x1 := s2.cell 1
  have x2 := s2.cell 2
  have x3 := s2.cell 3
  have x4 := s2.cell 4
  have y0 := s1.cell 0
  have y1 := s1.cell 1
  have y2 := s1.cell 2
  have y3 := s1.cell 3
  have y4 := s1.cell 4
  have yf := s1.frozen
  have R : Hid (Sits _ _ _ _) := ((((s1.set 0 (.int .i64 q)).set 1 (.int .i64 lim)).set 2 (.slice (some ⟨B, 0, none⟩) N N)).set 3 (.slice x nn nn)).set 4 (.slice y no no)
  have HLO : Hid (LO _ _ _ _ _ _ _) := lo3
  have HUN : Hid (Under _ _ _ _ _) := un3
  have HZI : Hid (ZI _ _ _ _ _ _) := zi3
  have HZJ : Hid (ZI _ _ _ _ _ _) := zj3
  have HB0 : Hid (Below _ _ _) := b3
  have hb1 := Under.lo un3 lo3
  clear s1 s2 lo3 un3 zi3 zj3 b3
  go_wp2
  refine bodyPost_ret (ret_fa Try.results6 rfl R.out) rfl ?_
  have h0 : w.heap.size + 1 ≤ w.heap.size + 1 := Nat.le_refl _
  have h1 : w.heap.size + 1 < w.heap.size + 1 + 1 := Nat.lt_succ_self _
  have c9 : Chg (w.heap.size + 1) (w.heap.size + 1 + 1) v3 _ := chg_set (chg_set (chg_set (chg_set (chg_set (Chg.refl _ _ v3) h0 h1 0 (.int .i64 q)) h0 h1 1 (.int .i64 lim)) h0 h1 2 (.slice (some ⟨B, 0, none⟩) N N)) h0 h1 3 (.slice x nn nn)) h0 h1 4 (.slice y no no)
  refine ⟨B, A, x, y, rfl, ⟨(LO.chg HLO.out c9 (.inl (by omega))).mono (by omega), m1, v2.heap.size, hm12, by omega, HUN.out, ZI.chg HZI.out c9 (.inr (by omega)), (ZI.chg HZJ.out c9 (.inr (by omega))).wide (Nat.le_refl _) c9.size⟩, c9.bel HB0.out (by omega)⟩

theorem FO.rows {base : Nat} {w : World} {B : Nat} {A : Nat → Option Addr} {C : Nat → Nat} {N : Nat} {L : Nat → Ln} {x : Option Addr} {nn : Nat} {nw : Nat → Int} {y : Option Addr} {no : Nat} {od : Nat → Int} (h : FO base w B A C N L x nn nw y no od) : Row .i64 w x nn nw ∧ Row .i64 w y no od := by
  obtain ⟨h0, m1, m2, h1, h2, h3, h4, h5⟩ := h
  exact ⟨h4.row, h5.row⟩
theorem FO.below {base : Nat} {w w' : World} {B : Nat} {A : Nat → Option Addr} {C : Nat → Nat} {N : Nat} {L : Nat → Ln} {x : Option Addr} {nn : Nat} {nw : Nat → Int} {y : Option Addr} {no : Nat} {od : Nat → Int} (h : FO base w B A C N L x nn nw y no od) (hb : Below w.heap.size w w') : FO base w' B A C N L x nn nw y no od := by
  obtain ⟨h0, m1, m2, h1, h2, h3, h4, h5⟩ := h
  exact ⟨h0.below hb, m1, m2, h1, h2, h3, h4.below hb, (h5.below hb).wide (Nat.le_refl _) hb.size⟩

set_option maxHeartbeats 2000000 in
theorem eqFair_yes (q lim : Int) (a a' : Option Addr) (N ca ca' : Nat) (b b' : Option Addr) (nn cb cb' : Nat) (c c' : Option Addr) (no cc cc' : Nat) (L : Nat → Ln) (nw od : Nat → Int) (w : World)
    (hN : N ≤ 1048576) (hn : ∀ i, i < N → (L i).n ≤ 1048576) (h1 : nn ≤ 1048576) (h2 : no ≤ 1048576) (hP : LR w.heap.size w a N L) (hP' : LR w.heap.size w a' N L) (hb : Row .i64 w b nn nw) (hb' : Row .i64 w b' nn nw) (hc : Row .i64 w c no od) (hc' : Row .i64 w c' no od) :
    Calls Try.prog 8 #[faVal q lim a N ca b nn cb c no cc, faVal q lim a' N ca' b' nn cb' c' no cc'] w fun e w' => e = .returned (.bool true) ∧ Below w.heap.size w w' := by
  have HP : Hid (LR w.heap.size w a N L) := hP
  have HP' : Hid (LR w.heap.size w a' N L) := hP'
  have HRB : Hid (Row .i64 w b nn nw) := hb
  have HRB' : Hid (Row .i64 w b' nn nw) := hb'
  have HRC : Hid (Row .i64 w c no od) := hc
  have HRC' : Hid (Row .i64 w c' no od) := hc'
  have HN : Hid (∀ i, i < N → (L i).n ≤ 1048576) := hn
  have H0 : Hid (N ≤ 1048576) := hN
  have H1 : Hid (nn ≤ 9223372036854775807) := by show _ ≤ _; omega
  have H2 : Hid (no ≤ 9223372036854775807) := by show _ ≤ _; omega
  clear hP hP' hb hb' hc hc' hn hN h1 h2
  have b0 : Below w.heap.size w ((w.alloc (.cells (faCells q lim a N ca b nn cb c no cc) 30)).alloc (.cells (faCells q lim a' N ca' b' nn cb' c' no cc') 30)) := ((Below.refl _ w).alloc (Nat.le_refl _) _).alloc (by simp) _
  have s0 := (Sits.new w (faCells q lim a N ca b nn cb c no cc) 30).alloc (.cells (faCells q lim a' N ca' b' nn cb' c' no cc') 30)
  have s1 := Sits.new (w.alloc (.cells (faCells q lim a N ca b nn cb c no cc) 30)) (faCells q lim a' N ca' b' nn cb' c' no cc') 30
  simp only [World.size_alloc] at s1
  have B0 : Hid (Below _ _ _) := b0
  have S0 : Hid (Sits _ _ _ _) := s0
  have S1 : Hid (Sits _ _ _ _) := s1
  clear b0 s0 s1
  go_enter Try.func8, Try.ntmps8
  go_upto_region 7 with (go_at_call 18; refine (eqLineS_yes a a' N ca ca' L _ (LR.go HP.out B0.out (B0.out).size) (LR.go HP'.out B0.out (B0.out).size) H0.out HN.out).mono ?_; rintro e w1 ⟨rfl, hb1⟩; have s2 := Sits.below S0.out hb1 (Sits.lt S0.out); have s3 := Sits.below S1.out hb1 (Sits.lt S1.out); have x3 := s2.cell 3; have y3 := s3.cell 3; have S2 : Hid (Sits _ _ _ _) := s2; have S3 : Hid (Sits _ _ _ _) := s3; have B1 : Hid (Below w.heap.size w w1) := (B0.out).trans (hb1.mono (B0.out).size); clear s2 s3 hb1)
  go_upto_region 9 with (go_at_call 19; refine (eqIntS_yes b b' nn cb cb' nw _ (Row.below HRB.out B1.out) (Row.below HRB'.out B1.out) H1.out).mono ?_; rintro e w2 ⟨rfl, hb2⟩; have s4 := Sits.below S2.out hb2 (Sits.lt S2.out); have s5 := Sits.below S3.out hb2 (Sits.lt S3.out); have x4 := s4.cell 4; have y4 := s5.cell 4; have B2 : Hid (Below w.heap.size w w2) := (B1.out).trans (hb2.mono (B1.out).size); clear s4 s5 hb2)
  go_wp2_with (go_at_call 19; refine (eqIntS_yes c c' no cc cc' od _ (Row.below HRC.out B2.out) (Row.below HRC'.out B2.out) H2.out).mono ?_; rintro e w3 ⟨rfl, hb3⟩)
  go_ret
  exact ⟨rfl, (B2.out).trans (hb3.mono (B2.out).size)⟩

end Go.Proofs.Ytdhdigjghchdjaa
