/-
  WHAT PACKETS COST: costsOf, Cost OF BOTH SIDES.
-/
import Derived.Test.YtmhdjccbkenhmapReady
import Derived.Test.YtmhdjccbkenhmapTimes
import Derived.Maps.OwnSet
import Derived.Maps.OwnOps
namespace Go.Proofs.Ytmhdjccbkenhmap
open Go.RowKit Go.Maps
set_option linter.unusedVariables false

/-- How long x bytes take, with what they are wrapped in. -/
def costF (s : Sh) (x : Int) : Int := upF ((x + s.ov) * 1000000000) s.rt
theorem cost_small {rt ov x : Int} (h0 : 1000 ≤ rt) (h1 : rt ≤ 1000000000000) (h2 : 0 ≤ ov) (h3 : ov ≤ 200) (h4 : 1 ≤ x) (h5 : x ≤ 2000) : (x + ov) * 1000000000 / rt ≤ 2200000000 ∧ 0 ≤ (x + ov) * 1000000000 / rt := by
  have hp : 0 ≤ (x + ov) * 1000000000 := by omega
  refine ⟨?_, Int.ediv_nonneg hp (by omega)⟩
  have := Int.ediv_le_ediv (show (0 : Int) < 1000 by omega) (show (x + ov) * 1000000000 ≤ 2200000000000 by omega)
  have h6 : (x + ov) * 1000000000 / rt ≤ (x + ov) * 1000000000 / 1000 := by
    apply Int.ediv_le_of_le_mul (by omega)
    have h7 : (x + ov) * 1000000000 = (x + ov) * 1000000 * 1000 := by omega
    rw [h7, Int.mul_ediv_cancel _ (by omega)]
    exact Int.mul_le_mul_of_nonneg_left h0 (by omega)
  omega
theorem up_small {n c : Int} (h : n / c ≤ 2200000000) (h0 : 0 ≤ n / c) : 0 ≤ upF n c ∧ upF n c ≤ 2200000001 := by
  unfold upF; split <;> omega

theorem lawInt : Keyed Try.prog 3 := int_keyed Try.underlying3
theorem zeroInt (w : World) : (zeroValue 3).run Try.prog w = .ok (.int .i64 0) w := by kernel_rfl
theorem ownsMap_below {H : Type} {P : Program} {k : TypeId} {R : Value → Option (DataW H × List MemPlace)} {w w' : World} {b n : Nat} {D : DataW H} (h : w.ownsMap P k R b n D) (hb : Below w.heap.size w w') : w'.ownsMap P k R b n D := by
  have hlt := h.lt
  obtain ⟨es, clock, h1, F, hs, hD⟩ := h
  exact ⟨es, clock, (hb.block b hlt).trans h1, F, hs, hD⟩
theorem keyLit (x : Int) : WideAt.IsKeyLit (.int .i64 x) := trivial
theorem has_next {D : DataW Unit} {f : Nat → Int} {k : Nat} (h : ∀ i, i < k → Maps.has D (.int .i64 (f i)) = true) (h2 : Maps.has D (.int .i64 (f k)) = true) : ∀ i, i < k + 1 → Maps.has D (.int .i64 (f i)) = true := fun i hi => by
  by_cases e : i = k
  · rw [e]; exact h2
  · exact h i (by omega)
/-- Each size that is there has its cost. -/
def Priced (s : Sh) (D : DataW Unit) : Prop := ∀ x : Int, Maps.has D (.int .i64 x) = true → D.atKey (.int .i64 x) (.lit (.int .i64 0)) = .lit (.int .i64 (costF s x))
theorem Priced.put {s : Sh} {D : DataW Unit} (h : Priced s D) (hm : IsMap D) (x : Int) : Priced s (D.put (.int .i64 x) (.lit (.int .i64 (costF s x)))) := by
  intro y hy
  by_cases e : y = x
  · subst e
    exact atKey_put_same hm (keyLit _) _ _
  · have hne : (Lit.int .i64 y) ≠ (Lit.int .i64 x) := by simpa using e
    rw [has_put_other hne] at hy
    rw [atKey_put_other hne]
    exact h y hy
theorem has_put_keep {D : DataW Unit} (hm : IsMap D) (x y : Int) (d : DataW Unit) (h : Maps.has D (.int .i64 y) = true) : Maps.has (D.put (.int .i64 x) d) (.int .i64 y) = true := by
  by_cases e : y = x
  · subst e; exact has_put_same hm (keyLit _) _
  · rw [has_put_other (by simpa using e)]; exact h

set_option maxRecDepth 100000 in
set_option maxHeartbeats 2000000 in
theorem icostsOf_any (s : Sh) (a : Option Addr) (N ca : Nat) (b : Option Addr) (n c : Nat) (z : Option Addr) (m cz : Nat) (f : Nat → Int) (w : World) (hs : numP s) (hm : m ≤ 1048576) (hr : Row .i64 w z m f) (hf : ∀ i, i < m → 1 ≤ f i ∧ f i ≤ 2000) :
    Calls Try.prog 45 #[shVal s a N ca b n c, .slice z m cz] w fun e w' => ∃ (B : Nat) (D : DataW Unit), e = .returned (.map (some B)) ∧ w'.ownsMap Try.prog 3 (plainElem Try.prog 3) B m D ∧ Priced s D ∧ (∀ i, i < m → Maps.has D (.int .i64 (f i)) = true) ∧ Below w.heap.size w w' := by
  obtain ⟨⟨r0, r1⟩, ⟨o0, o1⟩, _⟩ := hs
  have HR : Hid (Row .i64 w z m f) := hr
  have HF : Hid (∀ i, i < m → 1 ≤ f i ∧ f i ≤ 2000) := hf
  have hmi : (m : Int) ≤ 1048576 := by omega
  clear hr hf
  obtain ⟨W0, hW0⟩ : ∃ W, w.alloc (.cells (shCells s a N ca b n c) 31) = W := ⟨_, rfl⟩
  have s0 : Sits W0 w.heap.size (shCells s a N ca b n c) 31 := by rw [← hW0]; exact Sits.new _ _ _
  have b0 : Below w.heap.size w W0 := by rw [← hW0]; exact (Below.refl _ w).alloc (Nat.le_refl _) _
  have HW0 : Hid (w.alloc (.cells (shCells s a N ca b n c) 31) = W0) := hW0
  have HS0 : Hid (Sits _ _ _ _) := s0
  have HB0 : Hid (Below w.heap.size w W0) := b0
  clear s0 b0 hW0
  have HBB : Hid (∀ w', Below W0.heap.size W0 w' → Below w.heap.size w w') := fun w' hw' => (HB0.out).trans (hw'.mono (HB0.out).size)
  have hmm := @run_makeMap Try.prog
  go_enter Try.func45, Try.ntmps45
  go_upto_region 1 with fail
  rw [HW0.out]
  clear HW0
  go_wp2
  go_loopw [13] (fun i wr => ∃ (k : Nat) (D : DataW Unit), k ≤ m ∧ i = .int .i64 (k : Int) ∧ wr.ownsMap Try.prog 3 (plainElem Try.prog 3) W0.heap.size k D ∧ Priced s D ∧ (∀ i, i < k → Maps.has D (.int .i64 (f i)) = true) ∧ Below W0.heap.size W0 wr) (fun i _ => m - (intOf i).toNat)
  case atStart => exact ⟨0, .map [], Nat.zero_le _, rfl, World.ownsMap_made _ _ _ _, (fun x hx => by cases hx), (fun i hi => absurd hi (Nat.not_lt_zero _)), (Below.refl _ _).alloc (Nat.le_refl _) _⟩
  case round =>
    obtain ⟨k, D, hk, rfl, hown, hpr, hhas, hB⟩ := hrel
    have HPR : Hid (Priced s D) := hpr
    have HHAS : Hid (∀ i, i < k → Maps.has D (.int .i64 (f i)) = true) := hhas
    have HB : Hid (Below W0.heap.size W0 wr) := hB
    have HOWN : Hid (wr.ownsMap Try.prog 3 (plainElem Try.prog 3) W0.heap.size k D) := hown
    have HIM : Hid (IsMap D) := hown.isMap
    clear hpr hhas hown
    by_cases hlt : k < m
    · obtain ⟨b1, off, rfl, hbl, hcs⟩ := Row.at HR.out hlt
      have c1 := ((HBB.out _ hB).cell (p := ⟨b1, off + k, none⟩) hbl).trans (hcs k hlt)
      obtain ⟨f0, f1⟩ := HF.out k hlt
      obtain ⟨v, hv⟩ : ∃ v, f k = v := ⟨_, rfl⟩
      rw [hv] at c1 f0 f1
      have HV : Hid (f k = v) := hv
      have hlti : (k : Int) < m := by omega
      have hkey : keyOf Try.prog 3 (.int .i64 v) = some (.int .i64 v) := keyOf_int_mk Try.underlying3 (WalkArith.wf_i64 (by omega))
      have HKEY : Hid (keyOf Try.prog 3 (.int .i64 v) = some (.int .i64 v)) := hkey
      clear hcs hv hkey hB
      cases hh : Maps.has D (.int .i64 v)
      case true =>
        go_wp2_with (at_lookup; refine wpList_lookup_own_ok_int _ rfl _ _ 76 rfl 3 3 .i64 lawInt Try.underlying76 Try.underlying3 (zeroInt _) W0.heap.size k D rfl HOWN.out _ _ rfl HKEY.out ?_; intro c0 hat hwc; rw [hh]; clear hat hwc)
        go_roundw
        case rel => exact ⟨k + 1, D, by omega, by go_num, (HOWN.out).mono (Nat.le_succ _), HPR.out, has_next HHAS.out (by rw [HV.out]; exact hh), HB.out⟩
        case measure => simp [intOf]; omega
      case false =>
        have s1 := Sits.below HS0.out HB.out (Sits.lt HS0.out)
        have x0 := s1.cell 0
        have x1 := s1.cell 1
        clear s1
        obtain ⟨q0, q1⟩ := cost_small r0 r1 o0 o1 f0 f1
        have HC : Hid ((v + s.ov) * 1000000000 / s.rt < 9223372036854775807) := by show _ < _; omega
        have HWF : Hid ((Lit.int .i64 (upF ((v + s.ov) * 1000000000) s.rt)).wf = true) := by have := up_small q0 q1; exact WalkArith.wf_i64 (by omega)
        clear q0 q1
        go_wp2_with (first
          | (at_lookup; refine wpList_lookup_own_ok_int _ rfl _ _ 76 rfl 3 3 .i64 lawInt Try.underlying76 Try.underlying3 (zeroInt _) W0.heap.size k D rfl HOWN.out _ _ rfl HKEY.out ?_; intro c0 hat hwc; rw [hh]; clear hat hwc)
          | (go_at_call 66; refine (timeOf_impl_ok (v + s.ov) s.rt (by omega) (by omega) (by omega) (by omega) HC.out _).mono ?_; rintro e w1 ⟨rfl, hk1⟩; have HB1 : Hid (Below wr.heap.size wr w1) := hk1.1; clear hk1)
          | (at_mapUpdate; refine wpList_mapUpdate_own _ rfl _ _ _ 76 rfl 3 3 lawInt Try.underlying76 (plainElem (H := Unit) Try.prog 3) W0.heap.size k D rfl (ownsMap_below HOWN.out HB1.out) (by unfold maxLen; omega) _ _ _ rfl rfl HKEY.out _ [] (plainElem_int Try.underlying3 HWF.out) ?_; intro w2 hown2 hgrow2))
        have hb1 : Below W0.heap.size W0 w1 := (HB.out).trans ((HB1.out).mono (HB.out).size)
        have hb2 : Below W0.heap.size W0 w2 := hb1.grown hgrow2 hb1.size (fun j hj => by cases hj; exact Nat.le_refl _)
        go_roundw
        case rel => exact ⟨k + 1, D.put (.int .i64 v) (.lit (.int .i64 (costF s v))), by omega, by go_num, hown2, (HPR.out).put HIM.out v, has_next (fun i hi => has_put_keep HIM.out _ _ _ (HHAS.out i hi)) (by rw [HV.out]; exact has_put_same HIM.out (keyLit _) _), hb2⟩
        case measure => simp [intOf]; omega
    · obtain rfl : k = m := by omega
      go_wp2
      go_ret
      exact ⟨_, D, rfl, HOWN.out, HPR.out, HHAS.out, HBB.out _ hB⟩

theorem l8cost_any (s : Sh) (a : Option Addr) (N ca : Nat) (b : Option Addr) (n c : Nat) (v : Int) (w : World) (hs : numP s) (f0 : 1 ≤ v) (f1 : v ≤ 2000) :
    Calls Try.prog 48 #[shVal s a N ca b n c, .int .i64 v] w fun e w' => e = .returned (.int .i64 (costF s v)) ∧ Below w.heap.size w w' := by
  obtain ⟨⟨r0, r1⟩, ⟨o0, o1⟩, _⟩ := hs
  have s0 := Sits.new w (shCells s a N ca b n c) 31
  have b0 : Below w.heap.size w (w.alloc (.cells (shCells s a N ca b n c) 31)) := (Below.refl _ w).alloc (Nat.le_refl _) _
  have HB0 : Hid (Below _ _ _) := b0
  have x0 := s0.cell 0
  have x1 := s0.cell 1
  obtain ⟨q0, q1⟩ := cost_small r0 r1 o0 o1 f0 f1
  have HC : Hid ((v + s.ov) * 1000000000 / s.rt < 9223372036854775807) := by show _ < _; omega
  clear q0 q1 s0 b0
  go_enter Try.func48, Try.ntmps48
  go_wp2_with (go_at_call 69; refine (timeOf_spec_ok (v + s.ov) s.rt (by omega) (by omega) (by omega) (by omega) HC.out _).mono ?_; rintro e w1 ⟨rfl, rfl⟩)
  go_ret
  exact ⟨rfl, HB0.out⟩

/-- Does a packet of v bytes cost anything, and how much? -/
def cstB (s : Sh) (N : Nat) (L : Nat → Ln) (ts : List Int) (v : Int) : Bool := shB s N L ts && decide (1 ≤ v ∧ v ≤ 2000)
def cstV (s : Sh) (N : Nat) (L : Nat → Ln) (ts : List Int) (v : Int) : Int := if cstB s N L ts v then costF s v else 0
theorem cst_no {s : Sh} {N : Nat} {L : Nat → Ln} {ts : List Int} {v : Int} (h : cstB s N L ts v = false) : Value.tuple #[.int .i64 0, .bool false] = .tuple #[.int .i64 (cstV s N L ts v), .bool (cstB s N L ts v)] := by unfold cstV; rw [h]; rfl
theorem cst_yes {s : Sh} {N : Nat} {L : Nat → Ln} {ts : List Int} {v : Int} (h : cstB s N L ts v = true) : Value.tuple #[.int .i64 (costF s v), .bool true] = .tuple #[.int .i64 (cstV s N L ts v), .bool (cstB s N L ts v)] := by unfold cstV; rw [h]; rfl

set_option maxRecDepth 100000 in
set_option maxHeartbeats 1000000 in
theorem scost_any (s : Sh) (a : Option Addr) (N ca : Nat) (b : Option Addr) (n c : Nat) (L : Nat → Ln) (tn : Nat → Int) (v : Int) (w : World)
    (hN : N ≤ 1048576) (hcn : cntF L N ≤ 1048576) (hnn : n ≤ 1048576) (hP : LR w.heap.size w a N L) (hb : Row .i64 w b n tn) :
    Calls Try.prog 20 #[shVal s a N ca b n c, .int .i64 v] w fun e w' => e = .returned (.tuple #[.int .i64 (cstV s N L ((List.range n).map tn) v), .bool (cstB s N L ((List.range n).map tn) v)]) ∧ Below w.heap.size w w' := by
  have HP : Hid (LR w.heap.size w a N L) := hP
  have HRB : Hid (Row .i64 w b n tn) := hb
  have HN : Hid (N ≤ 1048576) := hN
  have HCN : Hid (cntF L N ≤ 1048576) := hcn
  have HNN : Hid (n ≤ 1048576) := hnn
  clear hP hb hN hcn hnn
  obtain ⟨ts, hts⟩ : ∃ l, (List.range n).map tn = l := ⟨_, rfl⟩
  have HTS : Hid ((List.range n).map tn = ts) := hts
  rw [hts]
  clear hts
  obtain ⟨W0, hW0⟩ : ∃ W, w.alloc (.cells (shCells s a N ca b n c) 31) = W := ⟨_, rfl⟩
  have s0 : Sits W0 w.heap.size (shCells s a N ca b n c) 31 := by rw [← hW0]; exact Sits.new _ _ _
  have b0 : Below w.heap.size w W0 := by rw [← hW0]; exact (Below.refl _ w).alloc (Nat.le_refl _) _
  have HW0 : Hid (w.alloc (.cells (shCells s a N ca b n c) 31) = W0) := hW0
  have HS0 : Hid (Sits _ _ _ _) := s0
  have HB0 : Hid (Below w.heap.size w W0) := b0
  have x0 := s0.cell 0
  have x1 := s0.cell 1
  have x2 := s0.cell 2
  have x3 := s0.cell 3
  have x4 := s0.cell 4
  have x5 := s0.cell 5
  have x6 := s0.cell 6
  clear s0 b0 hW0
  cases t0 : shB s N L ts
  case false =>
    have HE : Hid (cstB s N L ts v = false) := by show _ = _; unfold cstB; rw [t0]; rfl
    go_enter Try.func20, Try.ntmps20
    go_upto_region 1 with fail
    rw [HW0.out]
    go_wp2_with (go_at_call 24; refine (sshapeOk_any s a N ca b n c L tn _ HN.out HCN.out HNN.out (LR.go HP.out HB0.out (HB0.out).size) (Row.below HRB.out HB0.out)).mono ?_; rintro e w1 ⟨rfl, b1⟩; rw [HTS.out, t0]; have HB1 : Hid (Below w.heap.size w w1) := (HB0.out).trans (b1.mono (HB0.out).size); have HS1 : Hid (Sits w1 w.heap.size (shCells s a N ca b n c) 31) := Sits.below HS0.out b1 (Sits.lt HS0.out); clear b1)
    exact bodyPost_ret (v := .tuple #[.int .i64 0, .bool false]) (by simp [results, Try.results20, go_sem]) rfl ⟨rets (cst_no HE.out), HB1.out⟩
  case true =>
  by_cases t1 : v < 1
  · have t1' : decide (v < 1) = true := by simpa using t1
    have HE : Hid (cstB s N L ts v = false) := by show _ = _; unfold cstB; rw [t0]; simp; omega
    go_enter Try.func20, Try.ntmps20
    go_upto_region 1 with fail
    rw [HW0.out]
    go_wp2_with (go_at_call 24; refine (sshapeOk_any s a N ca b n c L tn _ HN.out HCN.out HNN.out (LR.go HP.out HB0.out (HB0.out).size) (Row.below HRB.out HB0.out)).mono ?_; rintro e w1 ⟨rfl, b1⟩; rw [HTS.out, t0]; have HB1 : Hid (Below w.heap.size w w1) := (HB0.out).trans (b1.mono (HB0.out).size); have HS1 : Hid (Sits w1 w.heap.size (shCells s a N ca b n c) 31) := Sits.below HS0.out b1 (Sits.lt HS0.out); clear b1)
    exact bodyPost_ret (v := .tuple #[.int .i64 0, .bool false]) (by simp [results, Try.results20, go_sem]) rfl ⟨rets (cst_no HE.out), HB1.out⟩
  have t1' : decide (v < 1) = false := by simpa using t1
  by_cases t2 : 2000 < v
  · have t2' : decide (2000 < v) = true := by simpa using t2
    have HE : Hid (cstB s N L ts v = false) := by show _ = _; unfold cstB; rw [t0]; simp; omega
    go_enter Try.func20, Try.ntmps20
    go_upto_region 1 with fail
    rw [HW0.out]
    go_wp2_with (go_at_call 24; refine (sshapeOk_any s a N ca b n c L tn _ HN.out HCN.out HNN.out (LR.go HP.out HB0.out (HB0.out).size) (Row.below HRB.out HB0.out)).mono ?_; rintro e w1 ⟨rfl, b1⟩; rw [HTS.out, t0]; have HB1 : Hid (Below w.heap.size w w1) := (HB0.out).trans (b1.mono (HB0.out).size); have HS1 : Hid (Sits w1 w.heap.size (shCells s a N ca b n c) 31) := Sits.below HS0.out b1 (Sits.lt HS0.out); clear b1)
    exact bodyPost_ret (v := .tuple #[.int .i64 0, .bool false]) (by simp [results, Try.results20, go_sem]) rfl ⟨rets (cst_no HE.out), HB1.out⟩
  have t2' : decide (2000 < v) = false := by simpa using t2
  have HE : Hid (cstB s N L ts v = true) := by show _ = _; unfold cstB; rw [t0]; simp; omega
  have HNUM : Hid (numP s) := (show numP s by have h1 := t0; unfold shB at h1; exact (of_decide_eq_true h1).1)
  go_enter Try.func20, Try.ntmps20
  go_upto_region 1 with fail
  rw [HW0.out]
  go_upto_region 3 with (go_at_call 24; refine (sshapeOk_any s a N ca b n c L tn _ HN.out HCN.out HNN.out (LR.go HP.out HB0.out (HB0.out).size) (Row.below HRB.out HB0.out)).mono ?_; rintro e w1 ⟨rfl, b1⟩; rw [HTS.out, t0]; have HB1 : Hid (Below w.heap.size w w1) := (HB0.out).trans (b1.mono (HB0.out).size); have HS1 : Hid (Sits w1 w.heap.size (shCells s a N ca b n c) 31) := Sits.below HS0.out b1 (Sits.lt HS0.out); clear b1)
  have y0 := Sits.cell HS1.out 0
  have y1 := Sits.cell HS1.out 1
  have y2 := Sits.cell HS1.out 2
  have y3 := Sits.cell HS1.out 3
  have y4 := Sits.cell HS1.out 4
  have y5 := Sits.cell HS1.out 5
  have y6 := Sits.cell HS1.out 6
  go_wp2_with (go_at_call 48; refine (l8cost_any s a N ca b n c v _ HNUM.out (by omega) (by omega)).mono ?_; rintro e w2 ⟨rfl, b2⟩)
  exact bodyPost_ret (v := .tuple #[.int .i64 (costF s v), .bool true]) (by simp [results, Try.results20, go_sem]) rfl ⟨rets (cst_yes HE.out), (HB1.out).trans (b2.mono (HB1.out).size)⟩

set_option maxRecDepth 100000 in
set_option maxHeartbeats 1000000 in
theorem icost_any (s : Sh) (a : Option Addr) (N ca : Nat) (b : Option Addr) (n c : Nat) (L : Nat → Ln) (tn : Nat → Int) (v : Int) (w : World)
    (hN : N ≤ 1048576) (hcn : cntF L N ≤ 1048576) (hnn : n ≤ 1048576) (hP : LR w.heap.size w a N L) (hb : Row .i64 w b n tn) :
    Calls Try.prog 21 #[shVal s a N ca b n c, .int .i64 v] w fun e w' => e = .returned (.tuple #[.int .i64 (cstV s N L ((List.range n).map tn) v), .bool (cstB s N L ((List.range n).map tn) v)]) ∧ Below w.heap.size w w' := by
  have HP : Hid (LR w.heap.size w a N L) := hP
  have HRB : Hid (Row .i64 w b n tn) := hb
  have HN : Hid (N ≤ 1048576) := hN
  have HCN : Hid (cntF L N ≤ 1048576) := hcn
  have HNN : Hid (n ≤ 1048576) := hnn
  clear hP hb hN hcn hnn
  obtain ⟨ts, hts⟩ : ∃ l, (List.range n).map tn = l := ⟨_, rfl⟩
  have HTS : Hid ((List.range n).map tn = ts) := hts
  rw [hts]
  clear hts
  obtain ⟨W0, hW0⟩ : ∃ W, w.alloc (.cells (shCells s a N ca b n c) 31) = W := ⟨_, rfl⟩
  have s0 : Sits W0 w.heap.size (shCells s a N ca b n c) 31 := by rw [← hW0]; exact Sits.new _ _ _
  have b0 : Below w.heap.size w W0 := by rw [← hW0]; exact (Below.refl _ w).alloc (Nat.le_refl _) _
  have HW0 : Hid (w.alloc (.cells (shCells s a N ca b n c) 31) = W0) := hW0
  have HS0 : Hid (Sits _ _ _ _) := s0
  have HB0 : Hid (Below w.heap.size w W0) := b0
  have x0 := s0.cell 0
  have x1 := s0.cell 1
  have x2 := s0.cell 2
  have x3 := s0.cell 3
  have x4 := s0.cell 4
  have x5 := s0.cell 5
  have x6 := s0.cell 6
  clear s0 b0 hW0
  cases t0 : shB s N L ts
  case false =>
    have HE : Hid (cstB s N L ts v = false) := by show _ = _; unfold cstB; rw [t0]; rfl
    go_enter Try.func21, Try.ntmps21
    go_upto_region 1 with fail
    rw [HW0.out]
    go_wp2_with (go_at_call 30; refine (ishapeOk_any s a N ca b n c L tn _ HN.out HCN.out HNN.out (LR.go HP.out HB0.out (HB0.out).size) (Row.below HRB.out HB0.out)).mono ?_; rintro e w1 ⟨rfl, b1⟩; rw [HTS.out, t0]; have HB1 : Hid (Below w.heap.size w w1) := (HB0.out).trans (b1.mono (HB0.out).size); have HS1 : Hid (Sits w1 w.heap.size (shCells s a N ca b n c) 31) := Sits.below HS0.out b1 (Sits.lt HS0.out); clear b1)
    exact bodyPost_ret (v := .tuple #[.int .i64 0, .bool false]) (by simp [results, Try.results21, go_sem]) rfl ⟨rets (cst_no HE.out), HB1.out⟩
  case true =>
  cases t1 : inB v 1 2000
  case false =>
    have HE : Hid (cstB s N L ts v = false) := by show _ = _; unfold cstB; rw [t0]; unfold inB at t1; simp at t1 ⊢; omega
    go_enter Try.func21, Try.ntmps21
    go_upto_region 1 with fail
    rw [HW0.out]
    go_wp2_with (first | (go_at_call 30; refine (ishapeOk_any s a N ca b n c L tn _ HN.out HCN.out HNN.out (LR.go HP.out HB0.out (HB0.out).size) (Row.below HRB.out HB0.out)).mono ?_; rintro e w1 ⟨rfl, b1⟩; rw [HTS.out, t0]; have HB1 : Hid (Below w.heap.size w w1) := (HB0.out).trans (b1.mono (HB0.out).size); have HS1 : Hid (Sits w1 w.heap.size (shCells s a N ca b n c) 31) := Sits.below HS0.out b1 (Sits.lt HS0.out); clear b1) | (go_at_call 44; refine (within_any _ _ _ _).mono ?_; rintro e w9 ⟨rfl, hw9⟩; replace hw9 := hw9.symm; subst hw9; rw [t1]))
    exact bodyPost_ret (v := .tuple #[.int .i64 0, .bool false]) (by simp [results, Try.results21, go_sem]) rfl ⟨rets (cst_no HE.out), HB1.out⟩
  case true =>
  have t1' : 1 ≤ v ∧ v ≤ 2000 := by unfold inB at t1; simpa using t1
  have HE : Hid (cstB s N L ts v = true) := by show _ = _; unfold cstB; rw [t0]; simp; omega
  have HNUM : Hid (numP s) := (show numP s by have h1 := t0; unfold shB at h1; exact (of_decide_eq_true h1).1)
  go_enter Try.func21, Try.ntmps21
  go_upto_region 1 with fail
  rw [HW0.out]
  go_upto_region 3 with (first | (go_at_call 30; refine (ishapeOk_any s a N ca b n c L tn _ HN.out HCN.out HNN.out (LR.go HP.out HB0.out (HB0.out).size) (Row.below HRB.out HB0.out)).mono ?_; rintro e w1 ⟨rfl, b1⟩; rw [HTS.out, t0]; have HB1 : Hid (Below w.heap.size w w1) := (HB0.out).trans (b1.mono (HB0.out).size); have HS1 : Hid (Sits w1 w.heap.size (shCells s a N ca b n c) 31) := Sits.below HS0.out b1 (Sits.lt HS0.out); clear b1) | (go_at_call 44; refine (within_any _ _ _ _).mono ?_; rintro e w9 ⟨rfl, hw9⟩; replace hw9 := hw9.symm; subst hw9; rw [t1]))
  have y0 := Sits.cell HS1.out 0
  have y1 := Sits.cell HS1.out 1
  have y2 := Sits.cell HS1.out 2
  have y3 := Sits.cell HS1.out 3
  have y4 := Sits.cell HS1.out 4
  have y5 := Sits.cell HS1.out 5
  have y6 := Sits.cell HS1.out 6
  have HR1 : Hid (Row .i64 (w1.alloc (.cells #[.int .i64 v] 3)) (some ⟨w1.heap.size, 0, none⟩) 1 (fun _ => v)) := .inr ⟨w1.heap.size, 0, rfl, by simp, fun i hi => by have e : i = 0 := (by omega); subst e; exact (Sits.new w1 #[.int .i64 v] 3).cell 0⟩
  have HV1 : Hid (∀ i, i < 1 → 1 ≤ (fun _ => v : Nat → Int) i ∧ (fun _ => v : Nat → Int) i ≤ 2000) := fun i hi => t1'
  have HKEY : Hid (keyOf Try.prog 3 (.int .i64 v) = some (.int .i64 v)) := keyOf_int_mk Try.underlying3 (WalkArith.wf_i64 (by omega))
  go_wp2_with (first
    | (go_at_call 45; refine (icostsOf_any s a N ca b n c (some ⟨w1.heap.size, 0, none⟩) 1 1 (fun _ => v) _ HNUM.out (by omega) HR1.out HV1.out).mono ?_; rintro e w2 ⟨B, D, rfl, hown, hpr, hhas, b2⟩; have HOWN : Hid (w2.ownsMap Try.prog 3 (plainElem Try.prog 3) B 1 D) := hown; have HPR : Hid (D.atKey (.int .i64 v) (.lit (.int .i64 0)) = .lit (.int .i64 (costF s v))) := hpr v (hhas 0 (by omega)); have HB2 : Hid (Below w.heap.size w w2) := ((HB1.out).alloc (HB1.out).size _).trans (b2.mono (by simp; have := (HB1.out).size; omega)); clear hown hpr hhas b2)
    | (at_lookup; refine wpList_lookup_own_int _ rfl _ _ 76 rfl 3 3 .i64 lawInt Try.underlying76 Try.underlying3 (zeroInt _) B 1 D rfl HOWN.out _ _ rfl HKEY.out ?_; intro c0 hat hwc; obtain rfl : c0 = costF s v := by have := hat.symm.trans HPR.out; simpa using this))
  exact bodyPost_ret (v := .tuple #[.int .i64 (costF s v), .bool true]) (by simp [results, Try.results21, go_sem]) rfl ⟨rets (cst_yes HE.out), HB2.out⟩

end Go.Proofs.Ytmhdjccbkenhmap
