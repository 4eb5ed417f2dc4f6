/-
  TRACES: a trace's numbers and lists; the laws' szTrace, toTrace, eqTrace, markTrace.
-/
import Derived.Test.YtcfkmkkgeoaaeaaDoorIntS
import Derived.Test.YtcfkmkkgeoaaeaaDoorSits
import Derived.Deep.Cut
namespace Go.Proofs.YtcfkmkkgeoaaeaaDoor
open Go.RowKit
set_option linter.unusedVariables false

/-- A trace: was it a run; who went out, was dropped, is left; when; the time. -/
structure Tr where
  ok : Bool
  no : Nat
  o : Nat → Pk
  nd : Nat
  d : Nat → Pk
  nl : Nat
  l : Nat → Pk
  nt : Nat
  t : Nat → Int
  now : Int
/-- Where its lists lie. -/
structure Ta where
  o : Option Addr
  co : Nat
  d : Option Addr
  cd : Nat
  l : Option Addr
  cl : Nat
  t : Option Addr
  ct : Nat
@[reducible] def Tr.val (T : Tr) (A : Ta) : Value := .agg #[.bool T.ok, .slice A.o T.no A.co, .slice A.d T.nd A.cd, .slice A.l T.nl A.cl, .slice A.t T.nt A.ct, .int .i64 T.now]
@[reducible] def trCells (T : Tr) (A : Ta) : Array Value := #[.bool T.ok, .slice A.o T.no A.co, .slice A.d T.nd A.cd, .slice A.l T.nl A.cl, .slice A.t T.nt A.ct, .int .i64 T.now]
@[reducible] def trZero : Array Value := #[.bool false, .slice none 0 0, .slice none 0 0, .slice none 0 0, .slice none 0 0, .int .i64 0]
/-- Its lists can be read. -/
structure TrAt (w : World) (T : Tr) (A : Ta) : Prop where
  o : PR w.heap.size w A.o T.no T.o
  d : PR w.heap.size w A.d T.nd T.d
  l : PR w.heap.size w A.l T.nl T.l
  t : Row .i64 w A.t T.nt T.t
theorem TrAt.below {w w' : World} {T : Tr} {A : Ta} (h : TrAt w T A) (hb : Below w.heap.size w w') : TrAt w' T A :=
  ⟨(h.o.below hb).mono hb.size, (h.d.below hb).mono hb.size, (h.l.below hb).mono hb.size, h.t.below hb⟩
/-- They can be written, each in a zone of its own. -/
structure TrZ (L U : Nat) (w : World) (T : Tr) (A : Ta) : Prop where
  z : ∃ m1 m2 m3 : Nat, (L ≤ m1 ∧ m1 ≤ m2 ∧ m2 ≤ m3 ∧ m3 ≤ U) ∧ ZI L m1 w A.o (T.no * 6) (flat T.o) ∧ ZI m1 m2 w A.d (T.nd * 6) (flat T.d) ∧ ZI m2 m3 w A.l (T.nl * 6) (flat T.l) ∧ ZI m3 U w A.t T.nt T.t
theorem TrZ.at {L U : Nat} {w : World} {T : Tr} {A : Ta} (h : TrZ L U w T A) : TrAt w T A := by
  obtain ⟨m1, m2, m3, _, h1, h2, h3, h4⟩ := h.z
  exact ⟨h1.pr, h2.pr, h3.pr, h4.row⟩
theorem TrZ.below {L U : Nat} {w w' : World} {T : Tr} {A : Ta} (h : TrZ L U w T A) (hb : Below w.heap.size w w') : TrZ L U w' T A := by
  obtain ⟨m1, m2, m3, hm, h1, h2, h3, h4⟩ := h.z
  exact ⟨m1, m2, m3, hm, h1.below hb, h2.below hb, h3.below hb, h4.below hb⟩
/-- What is known of a trace that came in. -/
structure TraceIn (w : World) (T : Tr) (A : Ta) : Prop where
  at' : TrAt w T A
  no : T.no ≤ A.co ∧ A.co ≤ maxLen
  nd : T.nd ≤ A.cd ∧ A.cd ≤ maxLen
  nl : T.nl ≤ A.cl ∧ A.cl ≤ maxLen
  nt : T.nt ≤ A.ct ∧ A.ct ≤ maxLen
  now : -9223372036854775808 ≤ T.now ∧ T.now ≤ 9223372036854775807
  po : ∀ i, i < T.no → (T.o i).In
  pd : ∀ i, i < T.nd → (T.d i).In
  pt : ∀ i, i < T.nt → (-9223372036854775808 ≤ T.t i ∧ T.t i ≤ 9223372036854775807)

theorem tr_cells {W : World} {B : Nat} {T : Tr} {A : Ta} {t : TypeId} (h : Sits W B (trCells T A) t) : W.cell? ⟨B, 0, none⟩ = some (.bool T.ok) ∧ W.cell? ⟨B, 1, none⟩ = some (.slice A.o T.no A.co) ∧ W.cell? ⟨B, 2, none⟩ = some (.slice A.d T.nd A.cd) ∧ W.cell? ⟨B, 3, none⟩ = some (.slice A.l T.nl A.cl) ∧ W.cell? ⟨B, 4, none⟩ = some (.slice A.t T.nt A.ct) ∧ W.cell? ⟨B, 5, none⟩ = some (.int .i64 T.now) := ⟨h.cell 0, h.cell 1, h.cell 2, h.cell 3, h.cell 4, h.cell 5⟩

theorem ret_tr {fn : Func} {tmps : Array Value} {W : World} {i B : Nat} {v0 v1 v2 v3 v4 v5 : Value} {t : TypeId} (hr : fn.results = #[.cell i 31]) (hi : tmps[i]?.getD undef = .pointer (some ⟨B, 0, none⟩)) (hs : Sits W B #[v0, v1, v2, v3, v4, v5] t) : (results fn tmps).run Tryd.prog W = .ok (.agg #[v0, v1, v2, v3, v4, v5]) W := by
  have c0 : W.cell? ⟨B, 0, none⟩ = some v0 := hs.cell 0
  have c1 : W.cell? ⟨B, 1, none⟩ = some v1 := hs.cell 1
  have c2 : W.cell? ⟨B, 2, none⟩ = some v2 := hs.cell 2
  have c3 : W.cell? ⟨B, 3, none⟩ = some v3 := hs.cell 3
  have c4 : W.cell? ⟨B, 4, none⟩ = some v4 := hs.cell 4
  have c5 : W.cell? ⟨B, 5, none⟩ = some v5 := hs.cell 5
  simp [results, hr, hi, go_sem, c0, c1, c2, c3, c4, c5]

theorem szIntS_any (a : Option Addr) (n cap : Nat) (l : Int) (w : World) (hn : (n : Int) ≤ 9223372036854775807) (h0 : 0 ≤ l) (h1 : l ≤ 1048576) :
    Calls Tryd.prog 14 #[.slice a n cap, .int .i64 l] w fun e w' => e = .returned (.int .i64 (if l < n then -1 else l - n)) ∧ w' = w := by
  by_cases h : l < n
  · rw [if_pos h]
    go_enter Tryd.func14, Tryd.ntmps14
    go_wp2
    go_ret
    exact ⟨rfl, rfl⟩
  · rw [if_neg h]
    go_enter Tryd.func14, Tryd.ntmps14
    go_wp2
    go_ret
    exact ⟨rfl, rfl⟩

theorem made_int {w : World} (n : Nat) (t : TypeId) : Own .i64 (w.alloc (.cells (madeCells #[.int .i64 0] n) t)) w.heap.size n (fun _ => 0) := by
  refine ⟨by simp, fun i hi => ⟨?_, ?_⟩⟩
  · rw [World.cell?_alloc_new]
    simp [madeCells, hi, Nat.mod_one]
  · rw [frozen?_alloc_cells]
    simp [World.frozen?]

set_option maxHeartbeats 1000000 in
theorem toIntS_any (a : Option Addr) (n cap : Nat) (f : Nat → Int) (w : World) (hr : Row .i64 w a n f) (hn : n ≤ 1048576) :
    Calls Tryd.prog 18 #[.slice a n cap] w fun e w' => ∃ x : Option Addr, e = .returned (.slice x n n) ∧ ZI w.heap.size w'.heap.size w' x n f ∧ Below w.heap.size w w' := by
  have HR : Hid _ := hr
  clear hr
  have hmk := run_make_row' (P := Tryd.prog) 23 3 (.int .i64 0) 8 Tryd.underlying23 infoInt rfl .i64 .i64 n (by omega) (by omega)
  go_enter Tryd.func18, Tryd.ntmps18
  go_wp2
  go_loopw [4] (fun i wr => ∃ k : Nat, k ≤ n ∧ i = .int .i64 k ∧ Below w.heap.size w wr ∧ Own .i64 wr w.heap.size n (fun j => if j < k then f j else 0)) (fun i _ => n - (intOf i).toNat)
  case atStart => exact ⟨0, Nat.zero_le _, rfl, (Below.refl _ _).alloc (Nat.le_refl _) _, (made_int n _).congr fun i _ => by simp⟩
  case round =>
    obtain ⟨k, hk, rfl, hb, ho⟩ := hrel
    by_cases hlt : k < n
    · obtain ⟨b, off, rfl, hbl, hc⟩ := Row.at HR.out hlt
      have c1 : wr.cell? ⟨b, off + k, none⟩ = some (.int .i64 (f k)) := (hb.cell (p := ⟨b, off + k, none⟩) hbl).trans (hc k hlt)
      obtain ⟨c2, c3⟩ := ho.2 k hlt
      have HO : Hid (Own .i64 wr w.heap.size n (fun j => if j < k then f j else 0)) := ho
      clear hc ho
      go_wp2
      go_roundw
      case rel => exact ⟨k + 1, by omega, by go_num, hb.setCell (Nat.le_refl _) _, (Own.set HO.out k hlt (f k)).congr fun i hi => by by_cases e : i = k <;> simp [e] <;> split <;> first | rfl | omega⟩
      case measure => simp [intOf]; omega
    · obtain rfl : k = n := by omega
      have HO : Hid _ := ho
      clear ho
      go_wp2
      go_ret
      exact ⟨_, rfl, .inr ⟨_, rfl, Nat.le_refl _, (HO.out).1, Own.congr HO.out fun i hi => by simp [hi]⟩, hb⟩

theorem szTrace_any (T : Tr) (A : Ta) (w : World) (hno : (T.no : Int) ≤ 9223372036854775807) (hnd : (T.nd : Int) ≤ 9223372036854775807) (hnl : (T.nl : Int) ≤ 9223372036854775807) (hnt : (T.nt : Int) ≤ 9223372036854775807) :
    Calls Tryd.prog 4 #[T.val A, .int .i64 1048576] w fun e w' => (∃ r : Int, e = .returned (.int .i64 r) ∧ -1 ≤ r ∧ r ≤ 1048576 ∧ (0 ≤ r → (T.no : Int) + T.nd + T.nl + T.nt ≤ 1048576)) ∧ Below w.heap.size w w' := by
  have Hno : Hid ((T.no : Int) ≤ 9223372036854775807) := hno
  have Hnd : Hid ((T.nd : Int) ≤ 9223372036854775807) := hnd
  have Hnl : Hid ((T.nl : Int) ≤ 9223372036854775807) := hnl
  have Hnt : Hid ((T.nt : Int) ≤ 9223372036854775807) := hnt
  clear hno hnd hnl hnt
  have b0 : Hid (Below w.heap.size w (w.alloc (.cells (trCells T A) 25))) := (Below.refl _ w).alloc (Nat.le_refl _) _
  by_cases h0 : (1048576 : Int) < (T.no : Int)
  · go_enter Tryd.func4, Tryd.ntmps4
    go_wp2_with (go_at_call 13; refine (szPktS_any A.o T.no A.co 1048576 _ Hno.out (by omega) (by omega)).mono ?_; rintro e w' ⟨rfl, rfl⟩; rw [if_pos h0])
    go_ret
    exact ⟨⟨-1, rfl, by omega, by omega, by omega⟩, b0.out⟩
  · obtain ⟨r1, hr1⟩ : ∃ r, (1048576 : Int) - (T.no : Int) = r := ⟨_, rfl⟩
    have p1 : 0 ≤ r1 := by omega
    have q1 : r1 ≤ 1048576 := by omega
    have s1 : ¬ r1 < 0 := by omega
    have E1 : Hid ((if (1048576 : Int) < (T.no : Int) then (-1 : Int) else (1048576 : Int) - T.no) = r1) := by show _ = _; rw [if_neg h0, hr1]
    have G1 : Hid ((1048576 : Int) - (T.no : Int) = r1) := hr1
    clear hr1 h0
    by_cases h1 : r1 < (T.nd : Int)
    · go_enter Tryd.func4, Tryd.ntmps4
      go_upto_region 4 with (go_at_call 13; refine (szPktS_any A.o T.no A.co 1048576 _ Hno.out (by omega) (by omega)).mono ?_; rintro e w' ⟨rfl, rfl⟩; rw [E1.out])
      go_wp2_with (go_at_call 13; refine (szPktS_any A.d T.nd A.cd r1 _ Hnd.out (by omega) (by omega)).mono ?_; rintro e w' ⟨rfl, rfl⟩; rw [if_pos h1])
      go_ret
      exact ⟨⟨-1, rfl, by omega, by omega, by omega⟩, b0.out⟩
    · obtain ⟨r2, hr2⟩ : ∃ r, r1 - (T.nd : Int) = r := ⟨_, rfl⟩
      have p2 : 0 ≤ r2 := by omega
      have q2 : r2 ≤ 1048576 := by omega
      have s2 : ¬ r2 < 0 := by omega
      have E2 : Hid ((if r1 < (T.nd : Int) then (-1 : Int) else r1 - T.nd) = r2) := by show _ = _; rw [if_neg h1, hr2]
      have G2 : Hid (r1 - (T.nd : Int) = r2) := hr2
      clear hr2 h1
      by_cases h2 : r2 < (T.nl : Int)
      · go_enter Tryd.func4, Tryd.ntmps4
        go_upto_region 4 with (go_at_call 13; refine (szPktS_any A.o T.no A.co 1048576 _ Hno.out (by omega) (by omega)).mono ?_; rintro e w' ⟨rfl, rfl⟩; rw [E1.out])
        go_upto_region 7 with (go_at_call 13; refine (szPktS_any A.d T.nd A.cd r1 _ Hnd.out (by omega) (by omega)).mono ?_; rintro e w' ⟨rfl, rfl⟩; rw [E2.out])
        go_wp2_with (go_at_call 13; refine (szPktS_any A.l T.nl A.cl r2 _ Hnl.out (by omega) (by omega)).mono ?_; rintro e w' ⟨rfl, rfl⟩; rw [if_pos h2])
        go_ret
        exact ⟨⟨-1, rfl, by omega, by omega, by omega⟩, b0.out⟩
      · obtain ⟨r3, hr3⟩ : ∃ r, r2 - (T.nl : Int) = r := ⟨_, rfl⟩
        have p3 : 0 ≤ r3 := by omega
        have q3 : r3 ≤ 1048576 := by omega
        have s3 : ¬ r3 < 0 := by omega
        have E3 : Hid ((if r2 < (T.nl : Int) then (-1 : Int) else r2 - T.nl) = r3) := by show _ = _; rw [if_neg h2, hr3]
        have G3 : Hid (r2 - (T.nl : Int) = r3) := hr3
        clear hr3 h2
        by_cases h3 : r3 < (T.nt : Int)
        · go_enter Tryd.func4, Tryd.ntmps4
          go_upto_region 4 with (go_at_call 13; refine (szPktS_any A.o T.no A.co 1048576 _ Hno.out (by omega) (by omega)).mono ?_; rintro e w' ⟨rfl, rfl⟩; rw [E1.out])
          go_upto_region 7 with (go_at_call 13; refine (szPktS_any A.d T.nd A.cd r1 _ Hnd.out (by omega) (by omega)).mono ?_; rintro e w' ⟨rfl, rfl⟩; rw [E2.out])
          go_upto_region 10 with (go_at_call 13; refine (szPktS_any A.l T.nl A.cl r2 _ Hnl.out (by omega) (by omega)).mono ?_; rintro e w' ⟨rfl, rfl⟩; rw [E3.out])
          go_wp2_with (go_at_call 14; refine (szIntS_any A.t T.nt A.ct r3 _ Hnt.out (by omega) (by omega)).mono ?_; rintro e w' ⟨rfl, rfl⟩; rw [if_pos h3])
          go_ret
          exact ⟨⟨-1, rfl, by omega, by omega, by omega⟩, b0.out⟩
        · obtain ⟨r4, hr4⟩ : ∃ r, r3 - (T.nt : Int) = r := ⟨_, rfl⟩
          have p4 : 0 ≤ r4 := by omega
          have q4 : r4 ≤ 1048576 := by omega
          have s4 : ¬ r4 < 0 := by omega
          have E4 : Hid ((if r3 < (T.nt : Int) then (-1 : Int) else r3 - T.nt) = r4) := by show _ = _; rw [if_neg h3, hr4]
          have G4 : Hid (r3 - (T.nt : Int) = r4) := hr4
          clear hr4 h3
          go_enter Tryd.func4, Tryd.ntmps4
          go_upto_region 4 with (go_at_call 13; refine (szPktS_any A.o T.no A.co 1048576 _ Hno.out (by omega) (by omega)).mono ?_; rintro e w' ⟨rfl, rfl⟩; rw [E1.out])
          go_upto_region 7 with (go_at_call 13; refine (szPktS_any A.d T.nd A.cd r1 _ Hnd.out (by omega) (by omega)).mono ?_; rintro e w' ⟨rfl, rfl⟩; rw [E2.out])
          go_upto_region 10 with (go_at_call 13; refine (szPktS_any A.l T.nl A.cl r2 _ Hnl.out (by omega) (by omega)).mono ?_; rintro e w' ⟨rfl, rfl⟩; rw [E3.out])
          go_wp2_with (go_at_call 14; refine (szIntS_any A.t T.nt A.ct r3 _ Hnt.out (by omega) (by omega)).mono ?_; rintro e w' ⟨rfl, rfl⟩; rw [E4.out])
          go_ret
          have g1 := G1.out
          have g2 := G2.out
          have g3 := G3.out
          have g4 := G4.out
          exact ⟨⟨r4, rfl, by omega, by omega, by omega⟩, b0.out⟩

theorem zi_put {L U : Nat} {w : World} {a : Option Addr} {n : Nat} {f : Nat → Int} (h : ZI L U w a n f) {B : Nat} (hB : B < L) (o : Nat) (v : Value) : ZI L U (w.setCell ⟨B, o, none⟩ v) a n f :=
  ZI.chg h (chg_set (Chg.refl B (B + 1) _) (Nat.le_refl _) (Nat.lt_succ_self _) _ _) (.inr hB)
theorem zi_put6 {L U : Nat} {w : World} {a : Option Addr} {n : Nat} {f : Nat → Int} {B : Nat} {u v0 v1 v2 v3 v4 v5 : Value} (h : ZI L U w a n f) (hB : B + 1 < L) : ZI L U (((((((w.setCell ⟨B + 1, 5, none⟩ u).setCell ⟨B, 0, none⟩ v0).setCell ⟨B, 1, none⟩ v1).setCell ⟨B, 2, none⟩ v2).setCell ⟨B, 3, none⟩ v3).setCell ⟨B, 4, none⟩ v4).setCell ⟨B, 5, none⟩ v5) a n f :=
  zi_put (zi_put (zi_put (zi_put (zi_put (zi_put (zi_put h hB _ _) (by omega) _ _) (by omega) _ _) (by omega) _ _) (by omega) _ _) (by omega) _ _) (by omega) _ _
theorem Chg.bel {L U : Nat} {a w w' : World} (h : Chg L U w w') (hb : Below a.heap.size a w) (hn : a.heap.size ≤ L) : Below a.heap.size a w' :=
  hb.trans ⟨h.os, h.tape, h.output, h.size, fun k hk => h.block k (Nat.lt_of_lt_of_le hk hb.size) (by omega)⟩
theorem Sits.chg {W W' : World} {B : Nat} {vs : Array Value} {t : TypeId} {L U : Nat} (h : Sits W B vs t) (hc : Chg L U W W') (hn : B < L ∨ U ≤ B) : Sits W' B vs t := (hc.block B h.lt (by omega)).trans h

set_option maxHeartbeats 2000000 in
theorem toTrace_any (T : Tr) (A : Ta) (w : World) (hA : TrAt w T A) (hno : T.no ≤ 1048576) (hnd : T.nd ≤ 1048576) (hnl : T.nl ≤ 1048576) (hnt : T.nt ≤ 1048576) :
    Calls Tryd.prog 6 #[T.val A] w fun e w' => ∃ A' : Ta, e = .returned (T.val A') ∧ A'.co = T.no ∧ A'.cd = T.nd ∧ A'.cl = T.nl ∧ A'.ct = T.nt ∧ TrZ w.heap.size w'.heap.size w' T A' ∧ Below w.heap.size w w' := by
  have HA : Hid (TrAt w T A) := hA
  have Hno : Hid (T.no ≤ 1048576) := hno
  have Hnd : Hid (T.nd ≤ 1048576) := hnd
  have Hnl : Hid (T.nl ≤ 1048576) := hnl
  have Hnt : Hid (T.nt ≤ 1048576) := hnt
  clear hA hno hnd hnl hnt
  obtain ⟨v0, hv0⟩ : ∃ W0, ((w.alloc (.cells (trCells T A) 25)).alloc (.cells trZero 31)).alloc (.cells #[.bool T.ok, .slice none 0 0, .slice none 0 0, .slice none 0 0, .slice none 0 0, .int .i64 0] 31) = W0 := ⟨_, rfl⟩
  have b0 : Below w.heap.size w v0 := by rw [← hv0]; exact (((Below.refl _ w).alloc (Nat.le_refl _) _).alloc (by simp) _).alloc (by simp; omega) _
  have s0 : Sits v0 w.heap.size (trCells T A) 25 := by rw [← hv0]; exact ((Sits.new w _ _).alloc _).alloc _
  have z0 : Sits v0 (w.heap.size + 1) trZero 31 := by rw [← hv0]; exact (Sits.new' (by simp)).alloc _
  have u0 : Sits v0 (w.heap.size + 1 + 1) #[.bool T.ok, .slice none 0 0, .slice none 0 0, .slice none 0 0, .slice none 0 0, .int .i64 0] 31 := by rw [← hv0]; exact Sits.new' (by simp)
  have n0 : w.heap.size + 1 + 1 + 1 ≤ v0.heap.size := by rw [← hv0]; simp
  have HV0 : Hid (((w.alloc (.cells (trCells T A) 25)).alloc (.cells trZero 31)).alloc (.cells #[.bool T.ok, .slice none 0 0, .slice none 0 0, .slice none 0 0, .slice none 0 0, .int .i64 0] 31) = v0) := hv0
  clear hv0
  go_enter Tryd.func6, Tryd.ntmps6
  go_upto_region 3 with fail
  rw [HV0.out]
  clear HV0
  have HS : Hid (Sits _ _ _ _) := s0
  have HZ : Hid (Sits _ _ _ _) := z0
  have HU : Hid (Sits _ _ _ _) := u0
  have HB : Hid (Below _ _ _) := b0
  have HN : Hid (w.heap.size + 1 + 1 + 1 ≤ v0.heap.size) := n0
  have y : v0.cell? ⟨w.heap.size, 1, none⟩ = some (.slice A.o T.no A.co) := Sits.cell HS.out 1
  clear s0 z0 u0 b0 n0
  go_upto_region 4 with (go_at_call 17; refine (toPktS_any A.o T.no A.co T.o _ ((PR.below HA.out.o HB.out).mono (HB.out).size) Hno.out).mono ?_; rintro e w1 ⟨x0, rfl, hz, hb⟩; have t2 := Sits.below HU.out hb (Sits.lt HU.out); have yy := t2.cell 1; have yf := t2.frozen; have lw := t2.lt; have HT : Hid (Sits _ _ _ _) := t2; have HZI : Hid (ZI _ _ _ _ _ _) := hz; have HB1 : Hid (Below _ _ _) := hb; clear t2 hz hb)
  obtain ⟨v1, hv⟩ : ∃ v, w1.setCell ⟨w.heap.size + 1 + 1, 1, none⟩ (.slice x0 T.no T.no) = v := ⟨_, rfl⟩
  have ch : Chg (w.heap.size + 1 + 1) (w.heap.size + 1 + 1 + 1) w1 v1 := by rw [← hv]; exact chg_set (Chg.refl _ _ _) (Nat.le_refl _) (Nat.lt_succ_self _) _ _
  have hn := HN.out
  have hs1 := Below.size HB1.out
  have n1 : w.heap.size + 1 + 1 + 1 ≤ v1.heap.size := by have := ch.size; omega
  have s1 : Sits v1 w.heap.size (trCells T A) 25 := (Sits.below HS.out HB1.out (Sits.lt HS.out)).chg ch (.inl (by omega))
  have z1 : Sits v1 (w.heap.size + 1) trZero 31 := (Sits.below HZ.out HB1.out (Sits.lt HZ.out)).chg ch (.inl (by omega))
  have u1 : Sits v1 (w.heap.size + 1 + 1) #[.bool T.ok, .slice x0 T.no T.no, .slice none 0 0, .slice none 0 0, .slice none 0 0, .int .i64 0] 31 := by rw [← hv]; exact Sits.set HT.out 1 _
  have b1 : Below w.heap.size w v1 := ch.bel ((HB.out).trans (Below.mono HB1.out (HB.out).size)) (by omega)
  have i0 : ZI v0.heap.size v1.heap.size v1 x0 (T.no * 6) (flat T.o) := ZI.chg (ZI.wide HZI.out (Nat.le_refl _) ch.size) ch (.inr (by omega))
  have m0 : v0.heap.size ≤ v1.heap.size := by have := ch.size; omega
  have m : w.heap.size + 1 + 1 + 1 ≤ v0.heap.size := hn
  rw [hv]
  clear hv ch hn hs1 HS HZ HU HB HN HT HZI HB1 y yy yf lw
  have HS : Hid (Sits _ _ _ _) := s1
  have HZ : Hid (Sits _ _ _ _) := z1
  have HU : Hid (Sits _ _ _ _) := u1
  have HB : Hid (Below _ _ _) := b1
  have HN : Hid (w.heap.size + 1 + 1 + 1 ≤ v1.heap.size) := n1
  have y : v1.cell? ⟨w.heap.size, 2, none⟩ = some (.slice A.d T.nd A.cd) := Sits.cell HS.out 2
  clear s1 z1 u1 b1 n1
  go_upto_region 5 with (go_at_call 17; refine (toPktS_any A.d T.nd A.cd T.d _ ((PR.below HA.out.d HB.out).mono (HB.out).size) Hnd.out).mono ?_; rintro e w2 ⟨x1, rfl, hz, hb⟩; have t2 := Sits.below HU.out hb (Sits.lt HU.out); have yy := t2.cell 2; have yf := t2.frozen; have lw := t2.lt; have HT : Hid (Sits _ _ _ _) := t2; have HZI : Hid (ZI _ _ _ _ _ _) := hz; have HB1 : Hid (Below _ _ _) := hb; clear t2 hz hb)
  obtain ⟨v2, hv⟩ : ∃ v, w2.setCell ⟨w.heap.size + 1 + 1, 2, none⟩ (.slice x1 T.nd T.nd) = v := ⟨_, rfl⟩
  have ch : Chg (w.heap.size + 1 + 1) (w.heap.size + 1 + 1 + 1) w2 v2 := by rw [← hv]; exact chg_set (Chg.refl _ _ _) (Nat.le_refl _) (Nat.lt_succ_self _) _ _
  have hn := HN.out
  have hs1 := Below.size HB1.out
  have n2 : w.heap.size + 1 + 1 + 1 ≤ v2.heap.size := by have := ch.size; omega
  have s2 : Sits v2 w.heap.size (trCells T A) 25 := (Sits.below HS.out HB1.out (Sits.lt HS.out)).chg ch (.inl (by omega))
  have z2 : Sits v2 (w.heap.size + 1) trZero 31 := (Sits.below HZ.out HB1.out (Sits.lt HZ.out)).chg ch (.inl (by omega))
  have u2 : Sits v2 (w.heap.size + 1 + 1) #[.bool T.ok, .slice x0 T.no T.no, .slice x1 T.nd T.nd, .slice none 0 0, .slice none 0 0, .int .i64 0] 31 := by rw [← hv]; exact Sits.set HT.out 2 _
  have b2 : Below w.heap.size w v2 := ch.bel ((HB.out).trans (Below.mono HB1.out (HB.out).size)) (by omega)
  replace i0 := ZI.chg (ZI.below i0 HB1.out) ch (.inr (by omega))
  have i1 : ZI v1.heap.size v2.heap.size v2 x1 (T.nd * 6) (flat T.d) := ZI.chg (ZI.wide HZI.out (Nat.le_refl _) ch.size) ch (.inr (by omega))
  have m1 : v1.heap.size ≤ v2.heap.size := by have := ch.size; omega
  rw [hv]
  clear hv ch hn hs1 HS HZ HU HB HN HT HZI HB1 y yy yf lw
  have HS : Hid (Sits _ _ _ _) := s2
  have HZ : Hid (Sits _ _ _ _) := z2
  have HU : Hid (Sits _ _ _ _) := u2
  have HB : Hid (Below _ _ _) := b2
  have HN : Hid (w.heap.size + 1 + 1 + 1 ≤ v2.heap.size) := n2
  have y : v2.cell? ⟨w.heap.size, 3, none⟩ = some (.slice A.l T.nl A.cl) := Sits.cell HS.out 3
  clear s2 z2 u2 b2 n2
  go_upto_region 6 with (go_at_call 17; refine (toPktS_any A.l T.nl A.cl T.l _ ((PR.below HA.out.l HB.out).mono (HB.out).size) Hnl.out).mono ?_; rintro e w3 ⟨x2, rfl, hz, hb⟩; have t2 := Sits.below HU.out hb (Sits.lt HU.out); have yy := t2.cell 3; have yf := t2.frozen; have lw := t2.lt; have HT : Hid (Sits _ _ _ _) := t2; have HZI : Hid (ZI _ _ _ _ _ _) := hz; have HB1 : Hid (Below _ _ _) := hb; clear t2 hz hb)
  obtain ⟨v3, hv⟩ : ∃ v, w3.setCell ⟨w.heap.size + 1 + 1, 3, none⟩ (.slice x2 T.nl T.nl) = v := ⟨_, rfl⟩
  have ch : Chg (w.heap.size + 1 + 1) (w.heap.size + 1 + 1 + 1) w3 v3 := by rw [← hv]; exact chg_set (Chg.refl _ _ _) (Nat.le_refl _) (Nat.lt_succ_self _) _ _
  have hn := HN.out
  have hs1 := Below.size HB1.out
  have n3 : w.heap.size + 1 + 1 + 1 ≤ v3.heap.size := by have := ch.size; omega
  have s3 : Sits v3 w.heap.size (trCells T A) 25 := (Sits.below HS.out HB1.out (Sits.lt HS.out)).chg ch (.inl (by omega))
  have z3 : Sits v3 (w.heap.size + 1) trZero 31 := (Sits.below HZ.out HB1.out (Sits.lt HZ.out)).chg ch (.inl (by omega))
  have u3 : Sits v3 (w.heap.size + 1 + 1) #[.bool T.ok, .slice x0 T.no T.no, .slice x1 T.nd T.nd, .slice x2 T.nl T.nl, .slice none 0 0, .int .i64 0] 31 := by rw [← hv]; exact Sits.set HT.out 3 _
  have b3 : Below w.heap.size w v3 := ch.bel ((HB.out).trans (Below.mono HB1.out (HB.out).size)) (by omega)
  replace i0 := ZI.chg (ZI.below i0 HB1.out) ch (.inr (by omega))
  replace i1 := ZI.chg (ZI.below i1 HB1.out) ch (.inr (by omega))
  have i2 : ZI v2.heap.size v3.heap.size v3 x2 (T.nl * 6) (flat T.l) := ZI.chg (ZI.wide HZI.out (Nat.le_refl _) ch.size) ch (.inr (by omega))
  have m2 : v2.heap.size ≤ v3.heap.size := by have := ch.size; omega
  rw [hv]
  clear hv ch hn hs1 HS HZ HU HB HN HT HZI HB1 y yy yf lw
  have HS : Hid (Sits _ _ _ _) := s3
  have HZ : Hid (Sits _ _ _ _) := z3
  have HU : Hid (Sits _ _ _ _) := u3
  have HB : Hid (Below _ _ _) := b3
  have HN : Hid (w.heap.size + 1 + 1 + 1 ≤ v3.heap.size) := n3
  have y : v3.cell? ⟨w.heap.size, 4, none⟩ = some (.slice A.t T.nt A.ct) := Sits.cell HS.out 4
  clear s3 z3 u3 b3 n3
  go_upto_region 7 with (go_at_call 18; refine (toIntS_any A.t T.nt A.ct T.t _ (Row.below HA.out.t HB.out) Hnt.out).mono ?_; rintro e w4 ⟨x3, rfl, hz, hb⟩; have t2 := Sits.below HU.out hb (Sits.lt HU.out); have yy := t2.cell 4; have yf := t2.frozen; have lw := t2.lt; have HT : Hid (Sits _ _ _ _) := t2; have HZI : Hid (ZI _ _ _ _ _ _) := hz; have HB1 : Hid (Below _ _ _) := hb; clear t2 hz hb)
  obtain ⟨v4, hv⟩ : ∃ v, w4.setCell ⟨w.heap.size + 1 + 1, 4, none⟩ (.slice x3 T.nt T.nt) = v := ⟨_, rfl⟩
  have ch : Chg (w.heap.size + 1 + 1) (w.heap.size + 1 + 1 + 1) w4 v4 := by rw [← hv]; exact chg_set (Chg.refl _ _ _) (Nat.le_refl _) (Nat.lt_succ_self _) _ _
  have hn := HN.out
  have hs1 := Below.size HB1.out
  have n4 : w.heap.size + 1 + 1 + 1 ≤ v4.heap.size := by have := ch.size; omega
  have s4 : Sits v4 w.heap.size (trCells T A) 25 := (Sits.below HS.out HB1.out (Sits.lt HS.out)).chg ch (.inl (by omega))
  have z4 : Sits v4 (w.heap.size + 1) trZero 31 := (Sits.below HZ.out HB1.out (Sits.lt HZ.out)).chg ch (.inl (by omega))
  have u4 : Sits v4 (w.heap.size + 1 + 1) #[.bool T.ok, .slice x0 T.no T.no, .slice x1 T.nd T.nd, .slice x2 T.nl T.nl, .slice x3 T.nt T.nt, .int .i64 0] 31 := by rw [← hv]; exact Sits.set HT.out 4 _
  have b4 : Below w.heap.size w v4 := ch.bel ((HB.out).trans (Below.mono HB1.out (HB.out).size)) (by omega)
  replace i0 := ZI.chg (ZI.below i0 HB1.out) ch (.inr (by omega))
  replace i1 := ZI.chg (ZI.below i1 HB1.out) ch (.inr (by omega))
  replace i2 := ZI.chg (ZI.below i2 HB1.out) ch (.inr (by omega))
  have i3 : ZI v3.heap.size v4.heap.size v4 x3 T.nt T.t := ZI.chg (ZI.wide HZI.out (Nat.le_refl _) ch.size) ch (.inr (by omega))
  have m3 : v3.heap.size ≤ v4.heap.size := by have := ch.size; omega
  rw [hv]
  clear hv ch hn hs1 HS HZ HU HB HN HT HZI HB1 y yy yf lw
  have HZ : Hid (Sits _ _ _ _) := z4
  have HU : Hid (Sits _ _ _ _) := u4
  have HB : Hid (Below _ _ _) := b4
  have I0 : Hid (ZI _ _ _ _ _ _) := i0
  have I1 : Hid (ZI _ _ _ _ _ _) := i1
  have I2 : Hid (ZI _ _ _ _ _ _) := i2
  have I3 : Hid (ZI _ _ _ _ _ _) := i3
  have y5 : v4.cell? ⟨w.heap.size, 5, none⟩ = some (.int .i64 T.now) := s4.cell 5
  have zf := z4.frozen
  have uf := u4.frozen
  have q0 : v4.cell? ⟨w.heap.size + 1 + 1, 0, none⟩ = some (.bool T.ok) := u4.cell 0
  have q1 : v4.cell? ⟨w.heap.size + 1 + 1, 1, none⟩ = some (.slice x0 T.no T.no) := u4.cell 1
  have q2 : v4.cell? ⟨w.heap.size + 1 + 1, 2, none⟩ = some (.slice x1 T.nd T.nd) := u4.cell 2
  have q3 : v4.cell? ⟨w.heap.size + 1 + 1, 3, none⟩ = some (.slice x2 T.nl T.nl) := u4.cell 3
  have q4 : v4.cell? ⟨w.heap.size + 1 + 1, 4, none⟩ = some (.slice x3 T.nt T.nt) := u4.cell 4
  have q5 : v4.cell? ⟨w.heap.size + 1 + 1, 5, none⟩ = some (.int .i64 0) := u4.cell 5
  have g0 : v4.cell? ⟨w.heap.size + 1, 0, none⟩ = some (.bool false) := z4.cell 0
  have g1 : v4.cell? ⟨w.heap.size + 1, 1, none⟩ = some (.slice none 0 0) := z4.cell 1
  have g2 : v4.cell? ⟨w.heap.size + 1, 2, none⟩ = some (.slice none 0 0) := z4.cell 2
  have g3 : v4.cell? ⟨w.heap.size + 1, 3, none⟩ = some (.slice none 0 0) := z4.cell 3
  have g4 : v4.cell? ⟨w.heap.size + 1, 4, none⟩ = some (.slice none 0 0) := z4.cell 4
  have g5 : v4.cell? ⟨w.heap.size + 1, 5, none⟩ = some (.int .i64 0) := z4.cell 5
  have hlt : w.heap.size + 1 + 1 < v4.heap.size := u4.lt
  clear s4 z4 u4 b4 i0 i1 i2 i3
  go_wp2
  have hz : Sits _ (w.heap.size + 1) #[.bool T.ok, .slice x0 T.no T.no, .slice x1 T.nd T.nd, .slice x2 T.nl T.nl, .slice x3 T.nt T.nt, .int .i64 T.now] 31 := Sits.set (Sits.set (Sits.set (Sits.set (Sits.set (Sits.set (Sits.other (B' := w.heap.size + 1 + 1) (k := 5) HZ.out (by omega) (.int .i64 T.now)) 0 (.bool T.ok)) 1 (.slice x0 T.no T.no)) 2 (.slice x1 T.nd T.nd)) 3 (.slice x2 T.nl T.nl)) 4 (.slice x3 T.nt T.nt)) 5 (.int .i64 T.now)
  refine bodyPost_ret (ret_tr (t := 31) (B := w.heap.size + 1) Tryd.results6 rfl hz) rfl ⟨⟨x0, T.no, x1, T.nd, x2, T.nl, x3, T.nt⟩, rfl, rfl, rfl, rfl, rfl, ⟨v1.heap.size, v2.heap.size, v3.heap.size, ⟨by omega, m1, m2, by simpa [World.setCell] using m3⟩, ?_, ?_, ?_, ?_⟩, ?_⟩
  · exact ZI.wide (zi_put6 I0.out (by omega)) (by omega) (Nat.le_refl _)
  · exact zi_put6 I1.out (by omega)
  · exact zi_put6 I2.out (by omega)
  · exact ZI.wide (zi_put6 I3.out (by omega)) (Nat.le_refl _) (by simp [World.setCell])
  · exact (((((((Below.setCell HB.out (by show w.heap.size ≤ w.heap.size + 1 + 1; omega) _).setCell (Nat.le_succ _) _).setCell (Nat.le_succ _) _).setCell (Nat.le_succ _) _).setCell (Nat.le_succ _) _).setCell (Nat.le_succ _) _).setCell (Nat.le_succ _) _)

set_option maxHeartbeats 2000000 in
theorem eqTrace_yes (T : Tr) (A A' : Ta) (w : World) (h1 : TrAt w T A) (h2 : TrAt w T A') (hno : T.no ≤ 1048576) (hnd : T.nd ≤ 1048576) (hnl : T.nl ≤ 1048576) (hnt : T.nt ≤ 1048576) :
    Calls Tryd.prog 9 #[T.val A, T.val A'] w fun e w' => e = .returned (.bool true) ∧ Below w.heap.size w w' := by
  have H1 : Hid (∀ V, Below w.heap.size w V → TrAt V T A) := fun V h => h1.below h
  have H2 : Hid (∀ V, Below w.heap.size w V → TrAt V T A') := fun V h => h2.below h
  have Hno : Hid (T.no ≤ 1048576) := hno
  have Hnd : Hid (T.nd ≤ 1048576) := hnd
  have Hnl : Hid (T.nl ≤ 1048576) := hnl
  have Hnt : Hid (T.nt ≤ 9223372036854775807) := Nat.le_trans hnt (by omega)
  clear h1 h2 hno hnd hnl hnt
  obtain ⟨v0, hv0⟩ : ∃ W0, (w.alloc (.cells (trCells T A) 31)).alloc (.cells (trCells T A') 31) = W0 := ⟨_, rfl⟩
  have b0 : Below w.heap.size w v0 := by rw [← hv0]; exact ((Below.refl _ w).alloc (Nat.le_refl _) _).alloc (by simp) _
  have s0 : Sits v0 w.heap.size (trCells T A) 31 := by rw [← hv0]; exact (Sits.new w _ _).alloc _
  have r0 : Sits v0 (w.heap.size + 1) (trCells T A') 31 := by rw [← hv0]; exact Sits.new' (by simp)
  have HV0 : Hid ((w.alloc (.cells (trCells T A) 31)).alloc (.cells (trCells T A') 31) = v0) := hv0
  have hbb : (T.ok != T.ok) = false := by simp
  clear hv0
  go_enter Tryd.func9, Tryd.ntmps9
  go_upto_region 1 with fail
  rw [HV0.out]
  clear HV0
  have HS : Hid (Sits _ _ _ _) := s0
  have HR : Hid (Sits _ _ _ _) := r0
  have HB : Hid (Below _ _ _) := b0
  have x0 : v0.cell? ⟨w.heap.size, 0, none⟩ = some (.bool T.ok) := Sits.cell HS.out 0
  have x1 : v0.cell? ⟨w.heap.size + 1, 0, none⟩ = some (.bool T.ok) := Sits.cell HR.out 0
  have y0 : v0.cell? ⟨w.heap.size, 1, none⟩ = some (.slice A.o T.no A.co) := Sits.cell HS.out 1
  have y1 : v0.cell? ⟨w.heap.size + 1, 1, none⟩ = some (.slice A'.o T.no A'.co) := Sits.cell HR.out 1
  clear s0 r0 b0
  go_upto_region 5 with (go_at_call 22; refine (eqPktS_yes A.o A'.o T.no A.co A'.co T.o _ ((H1.out) _ HB.out).o ((H2.out) _ HB.out).o Hno.out).mono ?_; rintro e v1 ⟨rfl, hb⟩)
  have s1 := Sits.below HS.out hb (Sits.lt HS.out)
  have r1 := Sits.below HR.out hb (Sits.lt HR.out)
  have b1 := (HB.out).trans (hb.mono (HB.out).size)
  clear HS HR HB hb y0 y1 x0 x1
  have HS : Hid (Sits _ _ _ _) := s1
  have HR : Hid (Sits _ _ _ _) := r1
  have HB : Hid (Below _ _ _) := b1
  have y0 : v1.cell? ⟨w.heap.size, 2, none⟩ = some (.slice A.d T.nd A.cd) := Sits.cell HS.out 2
  have y1 : v1.cell? ⟨w.heap.size + 1, 2, none⟩ = some (.slice A'.d T.nd A'.cd) := Sits.cell HR.out 2
  clear s1 r1 b1
  go_upto_region 7 with (go_at_call 22; refine (eqPktS_yes A.d A'.d T.nd A.cd A'.cd T.d _ ((H1.out) _ HB.out).d ((H2.out) _ HB.out).d Hnd.out).mono ?_; rintro e v2 ⟨rfl, hb⟩)
  have s2 := Sits.below HS.out hb (Sits.lt HS.out)
  have r2 := Sits.below HR.out hb (Sits.lt HR.out)
  have b2 := (HB.out).trans (hb.mono (HB.out).size)
  clear HS HR HB hb y0 y1
  have HS : Hid (Sits _ _ _ _) := s2
  have HR : Hid (Sits _ _ _ _) := r2
  have HB : Hid (Below _ _ _) := b2
  have y0 : v2.cell? ⟨w.heap.size, 3, none⟩ = some (.slice A.l T.nl A.cl) := Sits.cell HS.out 3
  have y1 : v2.cell? ⟨w.heap.size + 1, 3, none⟩ = some (.slice A'.l T.nl A'.cl) := Sits.cell HR.out 3
  clear s2 r2 b2
  go_upto_region 9 with (go_at_call 22; refine (eqPktS_yes A.l A'.l T.nl A.cl A'.cl T.l _ ((H1.out) _ HB.out).l ((H2.out) _ HB.out).l Hnl.out).mono ?_; rintro e v3 ⟨rfl, hb⟩)
  have s3 := Sits.below HS.out hb (Sits.lt HS.out)
  have r3 := Sits.below HR.out hb (Sits.lt HR.out)
  have b3 := (HB.out).trans (hb.mono (HB.out).size)
  clear HS HR HB hb y0 y1
  have HS : Hid (Sits _ _ _ _) := s3
  have HR : Hid (Sits _ _ _ _) := r3
  have HB : Hid (Below _ _ _) := b3
  have y0 : v3.cell? ⟨w.heap.size, 4, none⟩ = some (.slice A.t T.nt A.ct) := Sits.cell HS.out 4
  have y1 : v3.cell? ⟨w.heap.size + 1, 4, none⟩ = some (.slice A'.t T.nt A'.ct) := Sits.cell HR.out 4
  clear s3 r3 b3
  go_upto_region 11 with (go_at_call 23; refine (eqIntS_yes A.t A'.t T.nt A.ct A'.ct T.t _ ((H1.out) _ HB.out).t ((H2.out) _ HB.out).t Hnt.out).mono ?_; rintro e v4 ⟨rfl, hb⟩)
  have s4 := Sits.below HS.out hb (Sits.lt HS.out)
  have r4 := Sits.below HR.out hb (Sits.lt HR.out)
  have b4 := (HB.out).trans (hb.mono (HB.out).size)
  clear HS HR HB hb y0 y1
  have y0 : v4.cell? ⟨w.heap.size, 5, none⟩ = some (.int .i64 T.now) := s4.cell 5
  have y1 : v4.cell? ⟨w.heap.size + 1, 5, none⟩ = some (.int .i64 T.now) := r4.cell 5
  have HB : Hid (Below _ _ _) := b4
  clear s4 r4 b4
  go_wp2
  go_ret
  exact ⟨rfl, HB.out⟩

theorem Chg.wid {L U L' U' : Nat} {w w' : World} (h : Chg L U w w') (h1 : L' ≤ L) (h2 : U ≤ U') : Chg L' U' w w' := ⟨h.os, h.tape, h.output, h.size, fun i hi hn => h.block i hi (by omega)⟩

set_option maxHeartbeats 2000000 in
theorem markTrace_z (L U : Nat) (T : Tr) (A : Ta) (w : World) (h : TrZ L U w T A) (hU : U ≤ w.heap.size) (hno : T.no ≤ 1048576) (hnd : T.nd ≤ 1048576) (hnl : T.nl ≤ 1048576) (hnt : T.nt ≤ 1048576) :
    Calls Tryd.prog 10 #[T.val A, .int .i64 1] w fun e w' => (∃ r : Int, e = .returned (.int .i64 r) ∧ 0 ≤ r) ∧ Chg L U w w' := by
  obtain ⟨m1, m2, m3, ⟨hm0, hm1, hm2, hm3⟩, i0, i1, i2, i3⟩ := h.z
  have Hno : Hid (T.no ≤ 1048576) := hno
  have Hnd : Hid (T.nd ≤ 1048576) := hnd
  have Hnl : Hid (T.nl ≤ 1048576) := hnl
  have Hnt : Hid (T.nt ≤ 1048576) := hnt
  obtain ⟨k1, hk1⟩ : ∃ k : Int, 1 + (T.no : Int) * 6 = k := ⟨_, rfl⟩
  obtain ⟨k2, hk2⟩ : ∃ k : Int, k1 + (T.nd : Int) * 6 = k := ⟨_, rfl⟩
  obtain ⟨k3, hk3⟩ : ∃ k : Int, k2 + (T.nl : Int) * 6 = k := ⟨_, rfl⟩
  obtain ⟨k4, hk4⟩ : ∃ k : Int, k3 + (T.nt : Int) = k := ⟨_, rfl⟩
  have e1 : 0 ≤ k1 ∧ k1 ≤ 10000000 := by omega
  have e2 : 0 ≤ k2 ∧ k2 ≤ 20000000 := by omega
  have e3 : 0 ≤ k3 ∧ k3 ≤ 30000000 := by omega
  have e4 : 0 ≤ k4 := by omega
  have K1 : Hid (1 + (T.no : Int) * 6 = k1) := hk1
  have K2 : Hid (k1 + (T.nd : Int) * 6 = k2) := hk2
  have K3 : Hid (k2 + (T.nl : Int) * 6 = k3) := hk3
  have K4 : Hid (k3 + (T.nt : Int) = k4) := hk4
  clear hno hnd hnl hnt h hk1 hk2 hk3 hk4
  obtain ⟨v0, hv0⟩ : ∃ W0, w.alloc (.cells (trCells T A) 31) = W0 := ⟨_, rfl⟩
  have HV0 : Hid (w.alloc (.cells (trCells T A) 31) = v0) := hv0
  have b0 : Below w.heap.size w v0 := by rw [← hv0]; exact (Below.refl _ w).alloc (Nat.le_refl _) _
  have s0 : Sits v0 w.heap.size (trCells T A) 31 := by rw [← hv0]; exact Sits.new w _ _
  replace i0 := ZI.below i0 b0
  replace i1 := ZI.below i1 b0
  replace i2 := ZI.below i2 b0
  replace i3 := ZI.below i3 b0
  have c0 : Chg L U w v0 := Chg.of_below b0
  clear hv0 b0
  go_enter Tryd.func10, Tryd.ntmps10
  go_upto_region 1 with fail
  rw [HV0.out]
  clear HV0
  have HS : Hid (Sits _ _ _ _) := s0
  have HC : Hid (Chg L U w v0) := c0
  have HI0 : Hid (ZI _ _ _ _ _ _) := i0
  have HI1 : Hid (ZI _ _ _ _ _ _) := i1
  have HI2 : Hid (ZI _ _ _ _ _ _) := i2
  have HI3 : Hid (ZI _ _ _ _ _ _) := i3
  have y : v0.cell? ⟨w.heap.size, 1, none⟩ = some (.slice A.o T.no A.co) := Sits.cell HS.out 1
  clear s0 c0 i0 i1 i2 i3
  go_upto_region 2 with (go_at_call 24; refine (markPktS_zi L m1 A.o T.no A.co (flat T.o) 1 _ HI0.out Hno.out (by omega) (by omega)).mono ?_; rintro e v1 ⟨rfl, zn, ch⟩; rw [K1.out])
  have s1 := Sits.chg HS.out ch (by omega)
  have c1 : Chg L U w v1 := (HC.out).trans (ch.wid (by omega) (by omega))
  have i1 := ZI.chg HI1.out ch (by omega)
  have i2 := ZI.chg HI2.out ch (by omega)
  have i3 := ZI.chg HI3.out ch (by omega)
  clear HS HC zn ch y HI0 HI1 HI2 HI3
  have HS : Hid (Sits _ _ _ _) := s1
  have HC : Hid (Chg L U w v1) := c1
  have HI1 : Hid (ZI _ _ _ _ _ _) := i1
  have HI2 : Hid (ZI _ _ _ _ _ _) := i2
  have HI3 : Hid (ZI _ _ _ _ _ _) := i3
  have y : v1.cell? ⟨w.heap.size, 2, none⟩ = some (.slice A.d T.nd A.cd) := Sits.cell HS.out 2
  clear s1 c1 i1 i2 i3
  go_upto_region 3 with (go_at_call 24; refine (markPktS_zi m1 m2 A.d T.nd A.cd (flat T.d) k1 _ HI1.out Hnd.out (by omega) (by omega)).mono ?_; rintro e v2 ⟨rfl, zn, ch⟩; rw [K2.out])
  have s2 := Sits.chg HS.out ch (by omega)
  have c2 : Chg L U w v2 := (HC.out).trans (ch.wid (by omega) (by omega))
  have i2 := ZI.chg HI2.out ch (by omega)
  have i3 := ZI.chg HI3.out ch (by omega)
  clear HS HC zn ch y HI1 HI2 HI3
  have HS : Hid (Sits _ _ _ _) := s2
  have HC : Hid (Chg L U w v2) := c2
  have HI2 : Hid (ZI _ _ _ _ _ _) := i2
  have HI3 : Hid (ZI _ _ _ _ _ _) := i3
  have y : v2.cell? ⟨w.heap.size, 3, none⟩ = some (.slice A.l T.nl A.cl) := Sits.cell HS.out 3
  clear s2 c2 i2 i3
  go_upto_region 4 with (go_at_call 24; refine (markPktS_zi m2 m3 A.l T.nl A.cl (flat T.l) k2 _ HI2.out Hnl.out (by omega) (by omega)).mono ?_; rintro e v3 ⟨rfl, zn, ch⟩; rw [K3.out])
  have s3 := Sits.chg HS.out ch (by omega)
  have c3 : Chg L U w v3 := (HC.out).trans (ch.wid (by omega) (by omega))
  have i3 := ZI.chg HI3.out ch (by omega)
  clear HS HC zn ch y HI2 HI3
  have HS : Hid (Sits _ _ _ _) := s3
  have HC : Hid (Chg L U w v3) := c3
  have HI3 : Hid (ZI _ _ _ _ _ _) := i3
  have y : v3.cell? ⟨w.heap.size, 4, none⟩ = some (.slice A.t T.nt A.ct) := Sits.cell HS.out 4
  clear s3 c3 i3
  go_upto_region 5 with (go_at_call 25; refine (markIntS_zi m3 U A.t T.nt A.ct T.t k3 _ HI3.out Hnt.out (by omega) (by omega)).mono ?_; rintro e v4 ⟨rfl, zn, ch⟩; rw [K4.out])
  have s4 := Sits.chg HS.out ch (by omega)
  have c4 : Chg L U w v4 := (HC.out).trans (ch.wid (by omega) (by omega))
  clear HS HC zn ch y HI3
  have HC : Hid (Chg L U w v4) := c4
  clear c4 s4
  go_wp2
  go_ret
  exact ⟨⟨k4, rfl, e4⟩, HC.out⟩

end Go.Proofs.YtcfkmkkgeoaaeaaDoor
