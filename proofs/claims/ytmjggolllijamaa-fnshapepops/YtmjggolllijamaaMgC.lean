/-
  SEVERAL TEXTS IN ONE (a claim may hold 60 files): Ready, ShapeN, DrawSh, BentSh, DrawShPu0, DrawShPu, DrawShPo, PushLaw, ShapesN, SendI, FirstI, Costs, PopShI, Shapes, AllLn, SamePk.
-/
import Derived.Test.YtmjggolllijamaaShapeS
import Derived.Test.YtmjggolllijamaaMgA
import Derived.Test.YtmjggolllijamaaMgB
import Derived.Test.YtmjggolllijamaaPushW
import Derived.Deep.RegionHeld3
import Derived.Deep.Cut
import Derived.Test.YtmjggolllijamaaPushShT
import Derived.Test.YtmjggolllijamaaAppIn
import Derived.Test.YtmjggolllijamaaPassN
import Derived.Test.YtmjggolllijamaaCostF
import Derived.Maps.OwnSet
import Derived.Maps.OwnOps
import Derived.Test.YtmjggolllijamaaLines
import Derived.Deep.AppendLies
import Derived.Test.YtmjggolllijamaaTold
import Derived.Test.YtmjggolllijamaaBys
/-
  WHEN A SHAPER IS READY; A NEW ONE: Ready AND ShapeNew OF BOTH SIDES.
-/
namespace Go.Proofs.Ytmjggolllijamaa
open Go.RowKit
set_option linter.unusedVariables false

/-- May a packet go, and when? -/
def rdyB (s : Sh) (N : Nat) (L : Nat → Ln) (ts : List Int) : Bool := shB s N L ts && decide (ts ≠ [])
def rdyV (s : Sh) (N : Nat) (L : Nat → Ln) (ts : List Int) : Int := if rdyB s N L ts then s.nx else 0
theorem rdy_no {s : Sh} {N : Nat} {L : Nat → Ln} {ts : List Int} (h : rdyB s N L ts = false) : Value.tuple #[.int .i64 0, .bool false] = .tuple #[.int .i64 (rdyV s N L ts), .bool (rdyB s N L ts)] := by unfold rdyV; rw [h]; rfl
theorem rdy_yes {s : Sh} {N : Nat} {L : Nat → Ln} {ts : List Int} (h : rdyB s N L ts = true) : Value.tuple #[.int .i64 s.nx, .bool true] = .tuple #[.int .i64 (rdyV s N L ts), .bool (rdyB s N L ts)] := by unfold rdyV; rw [h]; rfl
theorem rets {v v' : Value} (h : v = v') : Ending.returned v = Ending.returned v' := by rw [h]

theorem iready_any (s : Sh) (a : Option Addr) (N ca : Nat) (b : Option Addr) (n c : Nat) (L : Nat → Ln) (tn : Nat → Int) (w : World)
    (hN : N ≤ 1048576) (hcn : cntF L N ≤ 1048576) (hnn : n ≤ 1048576) (hP : LR w.heap.size w a N L) (hb : Row .i64 w b n tn) :
    Calls Try.prog 23 #[shVal s a N ca b n c] w fun e w' => e = .returned (.tuple #[.int .i64 (rdyV s N L ((List.range n).map tn)), .bool (rdyB s N L ((List.range n).map tn))]) ∧ Below w.heap.size w w' := by
  have HP : Hid (LR w.heap.size w a N L) := hP
  have HRB : Hid (Row .i64 w b n tn) := hb
  have HN : Hid (N ≤ 1048576) := hN
  have HCN : Hid (cntF L N ≤ 1048576) := hcn
  have HNN : Hid (n ≤ 1048576) := hnn
  have HTN : Hid (((List.range n).map tn = []) ↔ n = 0) := (show ((List.range n).map tn = []) ↔ n = 0 by simp)
  clear hP hb hN hcn hnn
  obtain ⟨ts, hts⟩ : ∃ l, (List.range n).map tn = l := ⟨_, rfl⟩
  have HTS : Hid ((List.range n).map tn = ts) := hts
  rw [hts] at HTN ⊢
  clear hts
  obtain ⟨W0, hW0⟩ : ∃ W, w.alloc (.cells (shCells s a N ca b n c) 29) = W := ⟨_, rfl⟩
  have s0 : Sits W0 w.heap.size (shCells s a N ca b n c) 29 := by rw [← hW0]; exact Sits.new _ _ _
  have b0 : Below w.heap.size w W0 := by rw [← hW0]; exact (Below.refl _ w).alloc (Nat.le_refl _) _
  have HW0 : Hid (w.alloc (.cells (shCells s a N ca b n c) 29) = W0) := hW0
  have HS0 : Hid (Sits _ _ _ _) := s0
  have HB0 : Hid (Below _ _ _) := b0
  have x0 := s0.cell 0
  have x1 := s0.cell 1
  have x2 := s0.cell 2
  have x3 := s0.cell 3
  have x4 := s0.cell 4
  have x5 := s0.cell 5
  have x6 := s0.cell 6
  clear s0 b0 hW0
  cases t0 : shB s N L ts
  case false =>
    have HE : Hid (rdyB s N L ts = false) := by show _ = _; unfold rdyB; rw [t0]; rfl
    go_enter Try.func23, Try.ntmps23
    go_upto_region 1 with fail
    rw [HW0.out]
    go_wp2_with (go_at_call 21; refine (ishapeOk_any s a N ca b n c L tn _ HN.out HCN.out HNN.out (LR.go HP.out HB0.out (HB0.out).size) (Row.below HRB.out HB0.out)).mono ?_; rintro e w1 ⟨rfl, b1⟩; rw [HTS.out, t0])
    exact bodyPost_ret (v := .tuple #[.int .i64 0, .bool false]) (by simp [results, Try.results23, go_sem]) rfl ⟨rets (rdy_no HE.out), (HB0.out).trans (b1.mono (HB0.out).size)⟩
  case true =>
  by_cases t1 : n = 0
  · have t1' : ((n : Int) == 0) = true := by simpa using t1
    have HE : Hid (rdyB s N L ts = false) := by show _ = _; unfold rdyB; rw [t0, (HTN.out).2 t1]; rfl
    clear t1
    go_enter Try.func23, Try.ntmps23
    go_upto_region 1 with fail
    rw [HW0.out]
    go_wp2_with (go_at_call 21; refine (ishapeOk_any s a N ca b n c L tn _ HN.out HCN.out HNN.out (LR.go HP.out HB0.out (HB0.out).size) (Row.below HRB.out HB0.out)).mono ?_; rintro e w1 ⟨rfl, b1⟩; rw [HTS.out, t0]; have s1 := Sits.below HS0.out b1 (Sits.lt HS0.out); have z6 := s1.cell 6; have z2 := s1.cell 2; clear s1)
    exact bodyPost_ret (v := .tuple #[.int .i64 0, .bool false]) (by simp [results, Try.results23, go_sem]) rfl ⟨rets (rdy_no HE.out), (HB0.out).trans (b1.mono (HB0.out).size)⟩
  · have t1' : ((n : Int) == 0) = false := by simpa using t1
    have HE : Hid (rdyB s N L ts = true) := by
      show _ = _; unfold rdyB; rw [t0]
      have : ts ≠ [] := fun e => t1 ((HTN.out).1 e)
      simp [this]
    go_enter Try.func23, Try.ntmps23
    go_upto_region 1 with fail
    rw [HW0.out]
    go_wp2_with (go_at_call 21; refine (ishapeOk_any s a N ca b n c L tn _ HN.out HCN.out HNN.out (LR.go HP.out HB0.out (HB0.out).size) (Row.below HRB.out HB0.out)).mono ?_; rintro e w1 ⟨rfl, b1⟩; rw [HTS.out, t0]; have s1 := Sits.below HS0.out b1 (Sits.lt HS0.out); have z6 := s1.cell 6; have z2 := s1.cell 2; clear s1)
    exact bodyPost_ret (v := .tuple #[.int .i64 s.nx, .bool true]) (by simp [results, Try.results23, go_sem]) rfl ⟨rets (rdy_yes HE.out), (HB0.out).trans (b1.mono (HB0.out).size)⟩

end Go.Proofs.Ytmjggolllijamaa

/-
  A NEW SHAPER: ShapeNew OF BOTH SIDES; marks on one whose Turn is empty.
-/
namespace Go.Proofs.Ytmjggolllijamaa
open Go.RowKit
set_option linter.unusedVariables false

def emLn : Ln := ⟨0, fun _ => default, 0, ⟨0, 0, 0, 0, 0, 0, false⟩⟩
def emL : Nat → Ln := fun _ => emLn
theorem cnt_em : ∀ N, cntF emL N = 0
  | 0 => rfl
  | N + 1 => by rw [cntF_succ, cnt_em N]; rfl
/-- Is a new one well? -/
def newSB (r o q l : Int) : Bool := shB ⟨r, o, 0, q, l⟩ 4 emL []
theorem em_at (N k t : Nat) (hk : k < N) (ht : t < 9) : (madeCells lnZero (N * 9))[k * 9 + t]? = some (lnZero.getD t undef) := by
  have hi : k * 9 + t < N * 9 := by omega
  simp only [madeCells, Array.getElem?_map, Array.getElem?_range, hi, if_true, Option.map_some]
  have hm : (k * 9 + t) % 9 = t := by omega
  have hc : t = 0 ∨ t = 1 ∨ t = 2 ∨ t = 3 ∨ t = 4 ∨ t = 5 ∨ t = 6 ∨ t = 7 ∨ t = 8 := by omega
  rcases hc with rfl | rfl | rfl | rfl | rfl | rfl | rfl | rfl | rfl <;> simp [hm]
theorem em_lv (N k : Nat) (hk : k < N) : LV (madeCells lnZero (N * 9)) (k * 9) none 0 emLn :=
  ⟨em_at N k 0 hk (by omega), em_at N k 1 hk (by omega), em_at N k 2 hk (by omega), em_at N k 3 hk (by omega), em_at N k 4 hk (by omega), em_at N k 5 hk (by omega), em_at N k 6 hk (by omega), em_at N k 7 hk (by omega), em_at N k 8 hk (by omega)⟩
theorem ret_shb {fn : Func} {tmps : Array Value} {W : World} {i j B : Nat} {v0 v1 v2 v3 v4 v5 v6 : Value} {b : Bool} {t : TypeId} (hr : fn.results = #[.cell i 29, .tmp j]) (hi : tmps[i]?.getD undef = .pointer (some ⟨B, 0, none⟩)) (hj : tmps[j]?.getD undef = .bool b) (hs : Sits W B #[v0, v1, v2, v3, v4, v5, v6] t) : (results fn tmps).run Try.prog W = .ok (.tuple #[.agg #[v0, v1, v2, v3, v4, v5, v6], .bool b]) W := by
  have c0 : W.cell? ⟨B, 0, none⟩ = some v0 := hs.cell 0
  have c1 : W.cell? ⟨B, 1, none⟩ = some v1 := hs.cell 1
  have c2 : W.cell? ⟨B, 2, none⟩ = some v2 := hs.cell 2
  have c3 : W.cell? ⟨B, 3, none⟩ = some v3 := hs.cell 3
  have c4 : W.cell? ⟨B, 4, none⟩ = some v4 := hs.cell 4
  have c5 : W.cell? ⟨B, 5, none⟩ = some v5 := hs.cell 5
  have c6 : W.cell? ⟨B, 6, none⟩ = some v6 := hs.cell 6
  simp [results, hr, hi, hj, go_sem, c0, c1, c2, c3, c4, c5, c6]

set_option maxRecDepth 100000 in
set_option maxHeartbeats 4000000 in
theorem sshapeNew_any (r o q l : Int) (w : World) :
    Calls Try.prog 89 #[.int .i64 r, .int .i64 o, .int .i64 q, .int .i64 l] w fun e w' =>
      (newSB r o q l = true ∧ ∃ B : Nat, e = .returned (.tuple #[shVal ⟨r, o, 0, q, l⟩ (some ⟨B, 0, none⟩) 4 4 none 0 0, .bool true]) ∧ LO w.heap.size w' B 4 (fun _ => none) (fun _ => 0) emL ∧ Below w.heap.size w w') ∨
      (newSB r o q l = false ∧ e = .returned (.tuple #[shVal ⟨0, 0, 0, 0, 0⟩ none 0 0 none 0 0, .bool false]) ∧ Below w.heap.size w w') := by
  have hmk : ∀ w : World, (Instr.makeSlice 27 (.int .i64 4) (.int .i64 4)).run Try.prog w = .ok (.slice (some ⟨w.heap.size, 0, none⟩) 4 4) (w.alloc (.cells (madeCells lnZero (4 * 9)) 53)) := fun w => run_make_ln 4 (by omega) w
  obtain ⟨V, hV⟩ : ∃ V, madeCells lnZero (4 * 9) = V := ⟨_, rfl⟩
  have HV : Hid (madeCells lnZero (4 * 9) = V) := hV
  rw [hV] at hmk
  clear hV
  obtain ⟨W0, hW0⟩ : ∃ W, ((w.alloc (.cells shZero 29)).alloc (.cells V 53)).alloc (.cells (shCells ⟨r, o, 0, q, l⟩ (some ⟨w.heap.size + 1, 0, none⟩) 4 4 none 0 0) 29) = W := ⟨_, rfl⟩
  have s0 : Sits W0 w.heap.size shZero 29 := by rw [← hW0]; exact ((Sits.new _ _ _).alloc _).alloc _
  have s1 : Sits W0 (w.heap.size + 1) V 53 := by rw [← hW0]; exact (Sits.new' (by simp)).alloc _
  have s2 : Sits W0 (w.heap.size + 1 + 1) (shCells ⟨r, o, 0, q, l⟩ (some ⟨w.heap.size + 1, 0, none⟩) 4 4 none 0 0) 29 := by rw [← hW0]; exact Sits.new' (by simp)
  have b0 : Below w.heap.size w W0 := by rw [← hW0]; exact (((Below.refl _ w).alloc (Nat.le_refl _) _).alloc (by simp) _).alloc (by simp; omega) _
  have HW0 : Hid (((w.alloc (.cells shZero 29)).alloc (.cells V 53)).alloc (.cells (shCells ⟨r, o, 0, q, l⟩ (some ⟨w.heap.size + 1, 0, none⟩) 4 4 none 0 0) 29) = W0) := hW0
  have HS0 : Hid (Sits W0 w.heap.size shZero 29) := s0
  have HS2 : Hid (Sits W0 (w.heap.size + 1 + 1) (shCells ⟨r, o, 0, q, l⟩ (some ⟨w.heap.size + 1, 0, none⟩) 4 4 none 0 0) 29) := s2
  have HB0 : Hid (Below w.heap.size w W0) := b0
  have lo : LO (w.heap.size + 1) W0 (w.heap.size + 1) 4 (fun _ => none) (fun _ => 0) emL := ⟨Nat.le_refl _, ⟨V, _, s1, by rw [← HV.out]; simp [madeCells], fun i hi => by rw [← HV.out]; exact em_lv 4 i hi⟩, fun _ _ => Nat.le_refl _, fun _ _ => .inl rfl, fun _ _ _ _ _ h => absurd rfl h⟩
  have HLO : Hid (LO (w.heap.size + 1) W0 (w.heap.size + 1) 4 (fun _ => none) (fun _ => 0) emL) := lo
  have HCN : Hid (cntF emL 4 ≤ 1048576) := by show _ ≤ _; rw [cnt_em]; omega
  have HLR : Hid (LR W0.heap.size W0 (some ⟨w.heap.size + 1, 0, none⟩) 4 emL) := lo.lr
  have x0 := s2.cell 0
  have x1 := s2.cell 1
  have x2 := s2.cell 2
  have x3 := s2.cell 3
  have x4 := s2.cell 4
  have x5 := s2.cell 5
  have x6 := s2.cell 6
  clear s0 s1 s2 b0 hW0 lo
  go_enter Try.func89, Try.ntmps89
  go_upto_region 2 with fail
  rw [HW0.out]
  clear HW0
  cases hnb : newSB r o q l
  case false =>
    go_wp2_with (go_at_call 16; refine (sshapeOk_any ⟨r, o, 0, q, l⟩ (some ⟨w.heap.size + 1, 0, none⟩) 4 4 none 0 0 emL (fun _ => 0) _ (by omega) HCN.out (by omega) HLR.out (.inl rfl)).mono ?_; rintro e w3 ⟨rfl, b3⟩; rw [show shB ⟨r, o, 0, q, l⟩ 4 emL ((List.range 0).map fun _ => (0 : Int)) = false from hnb]; have t0 := Sits.below HS0.out b3 (Sits.lt HS0.out); have r0 := t0.cell 0; have r1 := t0.cell 1; have r2 := t0.cell 2; have r3 := t0.cell 3; have r4 := t0.cell 4; have r5 := t0.cell 5; have r6 := t0.cell 6; have rf := t0.frozen; have V0 : Hid (Sits w3 w.heap.size shZero 29) := t0; have HB3 : Hid (Below w.heap.size w w3) := (HB0.out).trans (b3.mono (HB0.out).size); have t1 := Sits.below HS2.out b3 (Sits.lt HS2.out); have p0 := t1.cell 0; have p1 := t1.cell 1; have p2 := t1.cell 2; have p3 := t1.cell 3; have p4 := t1.cell 4; have p5 := t1.cell 5; have p6 := t1.cell 6; have HLO3 : Hid (LO (w.heap.size + 1) w3 (w.heap.size + 1) 4 (fun _ => none) (fun _ => 0) emL) := LO.below HLO.out b3; clear t0 t1 b3)
    refine bodyPost_ret (ret_shb Try.results89 rfl rfl (((((((Sits.set V0.out 0 (.int .i64 0)).set 1 (.int .i64 0)).set 2 (.int .i64 0)).set 3 (.int .i64 0)).set 4 (.int .i64 0)).set 5 (.slice none 0 0)).set 6 (.slice none 0 0))) rfl ?_
    exact .inr ⟨hnb, rfl, (((((((HB3.out).setCell (Nat.le_refl _) _).setCell (Nat.le_refl _) _).setCell (Nat.le_refl _) _).setCell (Nat.le_refl _) _).setCell (Nat.le_refl _) _).setCell (Nat.le_refl _) _).setCell (Nat.le_refl _) _⟩
  case true =>
    go_wp2_with (go_at_call 16; refine (sshapeOk_any ⟨r, o, 0, q, l⟩ (some ⟨w.heap.size + 1, 0, none⟩) 4 4 none 0 0 emL (fun _ => 0) _ (by omega) HCN.out (by omega) HLR.out (.inl rfl)).mono ?_; rintro e w3 ⟨rfl, b3⟩; rw [show shB ⟨r, o, 0, q, l⟩ 4 emL ((List.range 0).map fun _ => (0 : Int)) = true from hnb]; have t0 := Sits.below HS0.out b3 (Sits.lt HS0.out); have r0 := t0.cell 0; have r1 := t0.cell 1; have r2 := t0.cell 2; have r3 := t0.cell 3; have r4 := t0.cell 4; have r5 := t0.cell 5; have r6 := t0.cell 6; have rf := t0.frozen; have V0 : Hid (Sits w3 w.heap.size shZero 29) := t0; have HB3 : Hid (Below w.heap.size w w3) := (HB0.out).trans (b3.mono (HB0.out).size); have t1 := Sits.below HS2.out b3 (Sits.lt HS2.out); have p0 := t1.cell 0; have p1 := t1.cell 1; have p2 := t1.cell 2; have p3 := t1.cell 3; have p4 := t1.cell 4; have p5 := t1.cell 5; have p6 := t1.cell 6; have HLO3 : Hid (LO (w.heap.size + 1) w3 (w.heap.size + 1) 4 (fun _ => none) (fun _ => 0) emL) := LO.below HLO.out b3; clear t0 t1 b3)
    refine bodyPost_ret (ret_shb Try.results89 rfl rfl (((((((Sits.set V0.out 0 (.int .i64 r)).set 1 (.int .i64 o)).set 2 (.int .i64 0)).set 3 (.int .i64 q)).set 4 (.int .i64 l)).set 5 (.slice (some ⟨w.heap.size + 1, 0, none⟩) 4 4)).set 6 (.slice none 0 0))) rfl ?_
    have h0 : w.heap.size ≤ w.heap.size := Nat.le_refl _
    have h1 : w.heap.size < w.heap.size + 1 := Nat.lt_succ_self _
    have c9 : Chg w.heap.size (w.heap.size + 1) w3 _ := (chg_set (chg_set (chg_set (chg_set (chg_set (chg_set (chg_set (Chg.refl _ _ w3) h0 h1 0 (.int .i64 r)) h0 h1 1 (.int .i64 o)) h0 h1 2 (.int .i64 0)) h0 h1 3 (.int .i64 q)) h0 h1 4 (.int .i64 l)) h0 h1 5 (.slice (some ⟨w.heap.size + 1, 0, none⟩) 4 4)) h0 h1 6 (.slice none 0 0))
    exact .inl ⟨hnb, w.heap.size + 1, rfl, (LO.chg HLO3.out c9 (.inl (Nat.le_refl _))).mono (by omega), c9.bel HB3.out (Nat.le_refl _)⟩

set_option maxRecDepth 100000 in
set_option maxHeartbeats 4000000 in
theorem ishapeNew_any (r o q l : Int) (w : World) :
    Calls Try.prog 56 #[.int .i64 r, .int .i64 o, .int .i64 q, .int .i64 l] w fun e w' =>
      (newSB r o q l = true ∧ ∃ B : Nat, e = .returned (.tuple #[shVal ⟨r, o, 0, q, l⟩ (some ⟨B, 0, none⟩) 4 4 none 0 0, .bool true]) ∧ LO w.heap.size w' B 4 (fun _ => none) (fun _ => 0) emL ∧ Below w.heap.size w w') ∨
      (newSB r o q l = false ∧ e = .returned (.tuple #[shVal ⟨0, 0, 0, 0, 0⟩ none 0 0 none 0 0, .bool false]) ∧ Below w.heap.size w w') := by
  have hmk : ∀ w : World, (Instr.makeSlice 27 (.int .i64 4) (.int .i64 4)).run Try.prog w = .ok (.slice (some ⟨w.heap.size, 0, none⟩) 4 4) (w.alloc (.cells (madeCells lnZero (4 * 9)) 53)) := fun w => run_make_ln 4 (by omega) w
  obtain ⟨V, hV⟩ : ∃ V, madeCells lnZero (4 * 9) = V := ⟨_, rfl⟩
  have HV : Hid (madeCells lnZero (4 * 9) = V) := hV
  rw [hV] at hmk
  clear hV
  obtain ⟨W0, hW0⟩ : ∃ W, ((w.alloc (.cells shZero 29)).alloc (.cells V 53)).alloc (.cells (shCells ⟨r, o, 0, q, l⟩ (some ⟨w.heap.size + 1, 0, none⟩) 4 4 none 0 0) 29) = W := ⟨_, rfl⟩
  have s0 : Sits W0 w.heap.size shZero 29 := by rw [← hW0]; exact ((Sits.new _ _ _).alloc _).alloc _
  have s1 : Sits W0 (w.heap.size + 1) V 53 := by rw [← hW0]; exact (Sits.new' (by simp)).alloc _
  have s2 : Sits W0 (w.heap.size + 1 + 1) (shCells ⟨r, o, 0, q, l⟩ (some ⟨w.heap.size + 1, 0, none⟩) 4 4 none 0 0) 29 := by rw [← hW0]; exact Sits.new' (by simp)
  have b0 : Below w.heap.size w W0 := by rw [← hW0]; exact (((Below.refl _ w).alloc (Nat.le_refl _) _).alloc (by simp) _).alloc (by simp; omega) _
  have HW0 : Hid (((w.alloc (.cells shZero 29)).alloc (.cells V 53)).alloc (.cells (shCells ⟨r, o, 0, q, l⟩ (some ⟨w.heap.size + 1, 0, none⟩) 4 4 none 0 0) 29) = W0) := hW0
  have HS0 : Hid (Sits W0 w.heap.size shZero 29) := s0
  have HS2 : Hid (Sits W0 (w.heap.size + 1 + 1) (shCells ⟨r, o, 0, q, l⟩ (some ⟨w.heap.size + 1, 0, none⟩) 4 4 none 0 0) 29) := s2
  have HB0 : Hid (Below w.heap.size w W0) := b0
  have lo : LO (w.heap.size + 1) W0 (w.heap.size + 1) 4 (fun _ => none) (fun _ => 0) emL := ⟨Nat.le_refl _, ⟨V, _, s1, by rw [← HV.out]; simp [madeCells], fun i hi => by rw [← HV.out]; exact em_lv 4 i hi⟩, fun _ _ => Nat.le_refl _, fun _ _ => .inl rfl, fun _ _ _ _ _ h => absurd rfl h⟩
  have HLO : Hid (LO (w.heap.size + 1) W0 (w.heap.size + 1) 4 (fun _ => none) (fun _ => 0) emL) := lo
  have HCN : Hid (cntF emL 4 ≤ 1048576) := by show _ ≤ _; rw [cnt_em]; omega
  have HLR : Hid (LR W0.heap.size W0 (some ⟨w.heap.size + 1, 0, none⟩) 4 emL) := lo.lr
  have x0 := s2.cell 0
  have x1 := s2.cell 1
  have x2 := s2.cell 2
  have x3 := s2.cell 3
  have x4 := s2.cell 4
  have x5 := s2.cell 5
  have x6 := s2.cell 6
  clear s0 s1 s2 b0 hW0 lo
  go_enter Try.func56, Try.ntmps56
  go_upto_region 2 with fail
  rw [HW0.out]
  clear HW0
  cases hnb : newSB r o q l
  case false =>
    go_wp2_with (go_at_call 21; refine (ishapeOk_any ⟨r, o, 0, q, l⟩ (some ⟨w.heap.size + 1, 0, none⟩) 4 4 none 0 0 emL (fun _ => 0) _ (by omega) HCN.out (by omega) HLR.out (.inl rfl)).mono ?_; rintro e w3 ⟨rfl, b3⟩; rw [show shB ⟨r, o, 0, q, l⟩ 4 emL ((List.range 0).map fun _ => (0 : Int)) = false from hnb]; have t0 := Sits.below HS0.out b3 (Sits.lt HS0.out); have r0 := t0.cell 0; have r1 := t0.cell 1; have r2 := t0.cell 2; have r3 := t0.cell 3; have r4 := t0.cell 4; have r5 := t0.cell 5; have r6 := t0.cell 6; have rf := t0.frozen; have V0 : Hid (Sits w3 w.heap.size shZero 29) := t0; have HB3 : Hid (Below w.heap.size w w3) := (HB0.out).trans (b3.mono (HB0.out).size); have t1 := Sits.below HS2.out b3 (Sits.lt HS2.out); have p0 := t1.cell 0; have p1 := t1.cell 1; have p2 := t1.cell 2; have p3 := t1.cell 3; have p4 := t1.cell 4; have p5 := t1.cell 5; have p6 := t1.cell 6; have HLO3 : Hid (LO (w.heap.size + 1) w3 (w.heap.size + 1) 4 (fun _ => none) (fun _ => 0) emL) := LO.below HLO.out b3; clear t0 t1 b3)
    refine bodyPost_ret (ret_shb Try.results56 rfl rfl (((((((Sits.set V0.out 0 (.int .i64 0)).set 1 (.int .i64 0)).set 2 (.int .i64 0)).set 3 (.int .i64 0)).set 4 (.int .i64 0)).set 5 (.slice none 0 0)).set 6 (.slice none 0 0))) rfl ?_
    exact .inr ⟨hnb, rfl, (((((((HB3.out).setCell (Nat.le_refl _) _).setCell (Nat.le_refl _) _).setCell (Nat.le_refl _) _).setCell (Nat.le_refl _) _).setCell (Nat.le_refl _) _).setCell (Nat.le_refl _) _).setCell (Nat.le_refl _) _⟩
  case true =>
    go_wp2_with (go_at_call 21; refine (ishapeOk_any ⟨r, o, 0, q, l⟩ (some ⟨w.heap.size + 1, 0, none⟩) 4 4 none 0 0 emL (fun _ => 0) _ (by omega) HCN.out (by omega) HLR.out (.inl rfl)).mono ?_; rintro e w3 ⟨rfl, b3⟩; rw [show shB ⟨r, o, 0, q, l⟩ 4 emL ((List.range 0).map fun _ => (0 : Int)) = true from hnb]; have t0 := Sits.below HS0.out b3 (Sits.lt HS0.out); have r0 := t0.cell 0; have r1 := t0.cell 1; have r2 := t0.cell 2; have r3 := t0.cell 3; have r4 := t0.cell 4; have r5 := t0.cell 5; have r6 := t0.cell 6; have rf := t0.frozen; have V0 : Hid (Sits w3 w.heap.size shZero 29) := t0; have HB3 : Hid (Below w.heap.size w w3) := (HB0.out).trans (b3.mono (HB0.out).size); have t1 := Sits.below HS2.out b3 (Sits.lt HS2.out); have p0 := t1.cell 0; have p1 := t1.cell 1; have p2 := t1.cell 2; have p3 := t1.cell 3; have p4 := t1.cell 4; have p5 := t1.cell 5; have p6 := t1.cell 6; have HLO3 : Hid (LO (w.heap.size + 1) w3 (w.heap.size + 1) 4 (fun _ => none) (fun _ => 0) emL) := LO.below HLO.out b3; clear t0 t1 b3)
    refine bodyPost_ret (ret_shb Try.results56 rfl rfl (((((((Sits.set V0.out 0 (.int .i64 r)).set 1 (.int .i64 o)).set 2 (.int .i64 0)).set 3 (.int .i64 q)).set 4 (.int .i64 l)).set 5 (.slice (some ⟨w.heap.size + 1, 0, none⟩) 4 4)).set 6 (.slice none 0 0))) rfl ?_
    have h0 : w.heap.size ≤ w.heap.size := Nat.le_refl _
    have h1 : w.heap.size < w.heap.size + 1 := Nat.lt_succ_self _
    have c9 : Chg w.heap.size (w.heap.size + 1) w3 _ := (chg_set (chg_set (chg_set (chg_set (chg_set (chg_set (chg_set (Chg.refl _ _ w3) h0 h1 0 (.int .i64 r)) h0 h1 1 (.int .i64 o)) h0 h1 2 (.int .i64 0)) h0 h1 3 (.int .i64 q)) h0 h1 4 (.int .i64 l)) h0 h1 5 (.slice (some ⟨w.heap.size + 1, 0, none⟩) 4 4)) h0 h1 6 (.slice none 0 0))
    exact .inl ⟨hnb, w.heap.size + 1, rfl, (LO.chg HLO3.out c9 (.inl (Nat.le_refl _))).mono (by omega), c9.bel HB3.out (Nat.le_refl _)⟩

set_option maxHeartbeats 1000000 in
/-- markShape of one whose lists are empty. -/
theorem markShape_lo (base up : Nat) (s : Sh) (B N ca : Nat) (b : Option Addr) (cb : Nat) (A : Nat → Option Addr) (C : Nat → Nat) (L : Nat → Ln) (k0 : Int) (w : World) (hlo : LO base w B N A C L) (hun : Under up B N A L) (hup : up ≤ w.heap.size) (hN : N ≤ 1048576) (hcn : cntF L N ≤ 1048576) (h0 : 0 ≤ k0) (h1 : k0 ≤ 1000000000) :
    Calls Try.prog 12 #[shVal s (some ⟨B, 0, none⟩) N ca b 0 cb, .int .i64 k0] w fun e w' => e = .returned (.int .i64 (upAt L k0 N)) ∧ LO base w' B N A C (upL L k0) ∧ Chg base up w w' := by
  have HLO : Hid (LO base w B N A C L) := hlo
  have HUN : Hid (Under up B N A L) := hun
  have HC : Hid (cntF L N ≤ 1048576) := hcn
  have HN : Hid (N ≤ 1048576) := hN
  have HUP : Hid (up ≤ w.heap.size) := hup
  obtain ⟨Q, hQ⟩ : ∃ q, upAt L k0 N = q := ⟨_, rfl⟩
  have hb : 0 ≤ Q ∧ Q ≤ 1099511627776 := by rw [← hQ]; unfold upAt; omega
  obtain ⟨q0, q1⟩ := hb
  rw [hQ]
  have HQ : Hid (upAt L k0 N = Q) := hQ
  clear hlo hun hcn hN hup hQ
  obtain ⟨W0, hW0⟩ : ∃ W, w.alloc (.cells (shCells s (some ⟨B, 0, none⟩) N ca b 0 cb) 29) = W := ⟨_, rfl⟩
  have s0 : Sits W0 w.heap.size (shCells s (some ⟨B, 0, none⟩) N ca b 0 cb) 29 := by rw [← hW0]; exact Sits.new _ _ _
  have b0 : Below w.heap.size w W0 := by rw [← hW0]; exact (Below.refl _ w).alloc (Nat.le_refl _) _
  have HW0 : Hid (w.alloc (.cells (shCells s (some ⟨B, 0, none⟩) N ca b 0 cb) 29) = W0) := hW0
  have HB0 : Hid (Below w.heap.size w W0) := b0
  have HS0 : Hid (Sits W0 w.heap.size (shCells s (some ⟨B, 0, none⟩) N ca b 0 cb) 29) := s0
  have x2 := s0.cell 5
  clear s0 b0 hW0
  go_enter Try.func12, Try.ntmps12
  go_upto_region 1 with fail
  rw [HW0.out]
  clear HW0
  go_upto_region 2 with (go_at_call 38; refine (markLineS_lo base up B N ca A C L k0 _ (LO.below HLO.out HB0.out) HUN.out HN.out HC.out h0 h1).mono ?_; rintro e w1 ⟨rfl, lo1, c1⟩; rw [HQ.out]; have HLO1 : Hid (LO base w1 B N A C (upL L k0)) := lo1; have HC1 : Hid (Chg base up W0 w1) := c1; have s1 := Sits.chg HS0.out c1 (.inr HUP.out); have x3 := s1.cell 6; have HS1 : Hid (Sits w1 w.heap.size (shCells s (some ⟨B, 0, none⟩) N ca b 0 cb) 29) := s1; clear lo1 c1 s1)
  go_wp2_with (go_at_call 39; refine (markIntS_nil b cb Q _ q0 q1).mono ?_; rintro e w2 ⟨rfl, c2⟩; have HB2 : Hid (Below w1.heap.size w1 w2) := c2.none; clear c2)
  go_ret
  exact ⟨rfl, LO.below HLO1.out HB2.out, ((Chg.of_below HB0.out).trans HC1.out).trans (Chg.of_below HB2.out)⟩

set_option maxHeartbeats 1000000 in
theorem markShape_nilN (s : Sh) (a : Option Addr) (ca : Nat) (b : Option Addr) (cb : Nat) (k0 : Int) (w : World) (q0 : 0 ≤ k0) (q1 : k0 ≤ 1099511627776) :
    Calls Try.prog 12 #[shVal s a 0 ca b 0 cb, .int .i64 k0] w fun e w' => e = .returned (.int .i64 k0) ∧ Below w.heap.size w w' := by
  obtain ⟨W0, hW0⟩ : ∃ W, w.alloc (.cells (shCells s a 0 ca b 0 cb) 29) = W := ⟨_, rfl⟩
  have s0 : Sits W0 w.heap.size (shCells s a 0 ca b 0 cb) 29 := by rw [← hW0]; exact Sits.new _ _ _
  have b0 : Below w.heap.size w W0 := by rw [← hW0]; exact (Below.refl _ w).alloc (Nat.le_refl _) _
  have HW0 : Hid (w.alloc (.cells (shCells s a 0 ca b 0 cb) 29) = W0) := hW0
  have HB0 : Hid (Below w.heap.size w W0) := b0
  have HS0 : Hid (Sits W0 w.heap.size (shCells s a 0 ca b 0 cb) 29) := s0
  have x2 := s0.cell 5
  have x3 := s0.cell 6
  clear s0 b0 hW0
  go_enter Try.func12, Try.ntmps12
  go_upto_region 1 with fail
  rw [HW0.out]
  clear HW0
  go_upto_region 2 with (go_at_call 38; refine (markLineS_nil a ca k0 _).mono ?_; rintro e w1 ⟨rfl, hw1⟩; replace hw1 := hw1.symm; subst hw1)
  go_wp2_with (go_at_call 39; refine (markIntS_nil b cb k0 _ q0 q1).mono ?_; rintro e w2 ⟨rfl, c2⟩; have HB2 : Hid (Below w.heap.size w w2) := (HB0.out).trans (c2.none.mono (HB0.out).size); clear c2)
  go_ret
  exact ⟨rfl, HB2.out⟩

set_option maxHeartbeats 1000000 in
/-- heldShape of one whose lists are empty. -/
theorem heldShape_any (s : Sh) (a : Option Addr) (N ca : Nat) (b : Option Addr) (cb : Nat) (L : Nat → Ln) (k0 : Int) (w : World) (hP : LR w.heap.size w a N (upL L k0)) (hN : N ≤ 1048576) (hcn : cntF L N ≤ 1048576) (h0 : 0 ≤ k0) (h1 : k0 ≤ 1000000000) :
    Calls Try.prog 13 #[shVal s a N ca b 0 cb, .int .i64 k0] w fun e w' => e = .returned (.int .i64 (upAt L k0 N)) ∧ Below w.heap.size w w' := by
  have HP : Hid (LR w.heap.size w a N (upL L k0)) := hP
  have HC : Hid (cntF L N ≤ 1048576) := hcn
  have HN : Hid (N ≤ 1048576) := hN
  obtain ⟨Q, hQ⟩ : ∃ q, upAt L k0 N = q := ⟨_, rfl⟩
  have hb : 0 ≤ Q ∧ Q ≤ 1099511627776 := by rw [← hQ]; unfold upAt; omega
  obtain ⟨q0, q1⟩ := hb
  rw [hQ]
  have HQ : Hid (upAt L k0 N = Q) := hQ
  have qn : ¬ Q < 0 := by omega
  clear hP hcn hN hQ
  obtain ⟨W0, hW0⟩ : ∃ W, w.alloc (.cells (shCells s a N ca b 0 cb) 29) = W := ⟨_, rfl⟩
  have s0 : Sits W0 w.heap.size (shCells s a N ca b 0 cb) 29 := by rw [← hW0]; exact Sits.new _ _ _
  have b0 : Below w.heap.size w W0 := by rw [← hW0]; exact (Below.refl _ w).alloc (Nat.le_refl _) _
  have HW0 : Hid (w.alloc (.cells (shCells s a N ca b 0 cb) 29) = W0) := hW0
  have HB0 : Hid (Below w.heap.size w W0) := b0
  have HS0 : Hid (Sits W0 w.heap.size (shCells s a N ca b 0 cb) 29) := s0
  have x2 := s0.cell 5
  have x3 := s0.cell 6
  clear s0 b0 hW0
  go_enter Try.func13, Try.ntmps13
  go_upto_region 1 with fail
  rw [HW0.out]
  clear HW0
  go_upto_region 4 with (go_at_call 40; refine (heldLineS_any a N ca L k0 _ (LR.go HP.out HB0.out (HB0.out).size) HN.out HC.out h0 h1).mono ?_; rintro e w1 ⟨rfl, hw1⟩; replace hw1 := hw1.symm; subst hw1; rw [HQ.out])
  go_wp2_with (go_at_call 41; refine (heldIntS_any b 0 cb Q _ (.inl rfl) (by omega) q0 q1).mono ?_; rintro e w2 ⟨rfl, b2⟩; have HB2 : Hid (Below w.heap.size w w2) := (HB0.out).trans (b2.mono (HB0.out).size); clear b2)
  go_ret
  exact ⟨rfl, HB2.out⟩

end Go.Proofs.Ytmjggolllijamaa

/-
  A SHAPE DRAWN: l8draw.
-/
namespace Go.Proofs.Ytmjggolllijamaa
open Go.RowKit
set_option linter.unusedVariables false

theorem SW.only {base : Nat} {w w' : World} {V B cl Bc : Nat} {s : Sh} {A : Nat → Option Addr} {C : Nat → Nat} {L : Nat → Ln} {y : Option Addr} {n cy : Nat} {tn : Nat → Int} (h : SW base w V B cl s A C L y n cy tn) (ho : Only Bc w w') (hB : Bc < base) : SW base w' V B cl s A C L y n cy tn :=
  h.keep (ho.block V h.sv.lt (by have := h.bV; omega)) (ho.block B h.lq.lt (by have := h.lq.lo; omega)) (fun i hi g hg => ho.block _ ((h.lq.own i hi).under g hg) (by have := (h.lq.own i hi).above g hg; omega)) (fun g hg => ho.block _ (h.tq.1.undr g hg) (by have := h.tq.1.abov g hg; omega))

theorem shP_new {r o q l : Int} (h1 : 1000 ≤ r) (h2 : r ≤ 1000000000000) (h3 : 0 ≤ o) (h4 : o ≤ 200) (h5 : 1 ≤ q) (h6 : q ≤ 10000) (h7 : 1 ≤ l) (h8 : l ≤ 40) : shP ⟨r, o, 0, q, l⟩ 4 emL [] := by
  refine ⟨⟨⟨h1, h2⟩, ⟨h3, h4⟩, ⟨by show (0 : Int) ≤ 0; omega, by show (0 : Int) ≤ _; omega⟩, ⟨h5, h6⟩, ⟨h7, h8⟩⟩, rfl, by rw [cnt_em]; show ((0 : Nat) : Int) ≤ l; omega, ?_, fun i hi => ⟨rfl, ⟨by show (-2000 : Int) ≤ 0; omega, by show (0 : Int) ≤ 12000; omega⟩, fifo_of (Nat.zero_le _) fun j hj => absurd hj (Nat.not_lt_zero _), fun k hk => absurd hk (Nat.not_lt_zero _)⟩⟩
  show List.Perm [] (wl emL 4)
  have : wl emL 4 = [] := by unfold wl emL emLn; simp
  rw [this]
theorem pop_nx {s : Sh} {L : Nat → Ln} {ts : List Int} {now : Int} (hs : shP s 4 L ts) (hne : ts ≠ []) (K : Nat) (n0 : 0 ≤ now) (n1 : now ≤ 1000000000000) : 0 ≤ now + costF s ((L (popHost ts K)).f 0).size ∧ now + costF s ((L (popHost ts K)).f 0).size ≤ 4000000000000 := by
  obtain ⟨pg, _⟩ := pop_first hs hne K
  obtain ⟨⟨r0, r1⟩, ⟨o0, o1⟩, _⟩ := hs.1
  unfold Pk.good inB at pg
  simp only [Bool.and_eq_true, decide_eq_true_eq] at pg
  obtain ⟨q0, q1⟩ := cost_small r0 r1 o0 o1 pg.2.2.2.2.1.1 pg.2.2.2.2.1.2
  have := up_small q0 q1
  unfold costF
  omega
theorem Pk.drawn.is {p : Pk} {id tm : Int} (h : p.drawn id tm) (i0 : 0 ≤ id) (i1 : id ≤ 1000000000000) (t0 : 0 ≤ tm) (t1 : tm ≤ 1000000000000) : p.good = true := by
  obtain ⟨p1, p2, p3, p4, p5, p6⟩ := h
  unfold Pk.good inB
  simp only [Bool.and_eq_true, decide_eq_true_eq]
  omega

/-- What is known while a Shape is drawn. -/
structure DS (w : World) (Bc : Nat) (a : Option Addr) (len cap : Nat) (base V B cl : Nat) (W : World) (s : Sh) (A : Nat → Option Addr) (C : Nat → Nat) (L : Nat → Ln) (y : Option Addr) (n cy : Nat) (tn : Nat → Int) (ts : List Int) : Prop where
  sw : SW base W V B cl s A C L y n cy tn
  hts : (List.range n).map tn = ts
  sp : shP s 4 L ts
  z : Sits W w.heap.size shZero 29
  cu : Cur W Bc a len cap
  on : Only Bc w W
  lo : w.heap.size < base
  bc : Bc < w.heap.size
theorem DS.only {w : World} {Bc : Nat} {a : Option Addr} {len cap : Nat} {base V B cl : Nat} {W W' : World} {s : Sh} {A : Nat → Option Addr} {C : Nat → Nat} {L : Nat → Ln} {y : Option Addr} {n cy : Nat} {tn : Nat → Int} {ts : List Int} (h : DS w Bc a len cap base V B cl W s A C L y n cy tn ts) (hc : Cur W' Bc a len cap) (ho : Only Bc W W') : DS w Bc a len cap base V B cl W' s A C L y n cy tn ts :=
  ⟨h.sw.only ho (by have := h.lo; have := h.bc; omega), h.hts, h.sp, Sits.only h.z ho (by have := h.bc; omega), hc, Only.trans h.on ho, h.lo, h.bc⟩
theorem DS.below {w : World} {Bc : Nat} {a : Option Addr} {len cap : Nat} {base V B cl : Nat} {W W' : World} {s : Sh} {A : Nat → Option Addr} {C : Nat → Nat} {L : Nat → Ln} {y : Option Addr} {n cy : Nat} {tn : Nat → Int} {ts : List Int} (h : DS w Bc a len cap base V B cl W s A C L y n cy tn ts) (hb : Below W.heap.size W W') : DS w Bc a len cap base V B cl W' s A C L y n cy tn ts :=
  ⟨h.sw.below hb, h.hts, h.sp, Sits.below h.z hb h.z.lt, cur_low h.cu hb h.cu.1, only_low h.on hb h.on.size, h.lo, h.bc⟩
theorem DS.put {w : World} {Bc : Nat} {a : Option Addr} {len cap : Nat} {base V B cl : Nat} {W W' : World} {s s' : Sh} {A A' : Nat → Option Addr} {C C' : Nat → Nat} {L L' : Nat → Ln} {y y' : Option Addr} {n cy n' cy' : Nat} {tn tn' : Nat → Int} {ts ts' : List Int} (h : DS w Bc a len cap base V B cl W s A C L y n cy tn ts)
    (hw : SW base W' V B cl s' A' C' L' y' n' cy' tn') (ht : (List.range n').map tn' = ts') (hp : shP s' 4 L' ts') (hb : Below base W W') : DS w Bc a len cap base V B cl W' s' A' C' L' y' n' cy' tn' ts' :=
  ⟨hw, ht, hp, Sits.below h.z hb h.lo, cur_low h.cu hb (by have := h.lo; have := h.bc; omega), only_low h.on hb (by have := h.lo; omega), h.lo, h.bc⟩
/-- A Shape and a number, handed back. -/
theorem ret_shn {fn : Func} {tmps : Array Value} {W : World} {i j B : Nat} {v0 v1 v2 v3 v4 v5 v6 : Value} {z : Int} {t : TypeId} (hr : fn.results = #[.cell i 29, .tmp j]) (hi : tmps[i]?.getD undef = .pointer (some ⟨B, 0, none⟩)) (hj : tmps[j]?.getD undef = .int .i64 z) (hs : Sits W B #[v0, v1, v2, v3, v4, v5, v6] t) : (results fn tmps).run Try.prog W = .ok (.tuple #[.agg #[v0, v1, v2, v3, v4, v5, v6], .int .i64 z]) W := by
  have c0 : W.cell? ⟨B, 0, none⟩ = some v0 := hs.cell 0
  have c1 : W.cell? ⟨B, 1, none⟩ = some v1 := hs.cell 1
  have c2 : W.cell? ⟨B, 2, none⟩ = some v2 := hs.cell 2
  have c3 : W.cell? ⟨B, 3, none⟩ = some v3 := hs.cell 3
  have c4 : W.cell? ⟨B, 4, none⟩ = some v4 := hs.cell 4
  have c5 : W.cell? ⟨B, 5, none⟩ = some v5 := hs.cell 5
  have c6 : W.cell? ⟨B, 6, none⟩ = some v6 := hs.cell 6
  simp [results, hr, hi, hj, go_sem, c0, c1, c2, c3, c4, c5, c6]
theorem LO.lq_em {base : Nat} {w : World} {B : Nat} (h : LO base w B 4 (fun _ => none) (fun _ => 0) emL) : LQ base w B 4 (fun _ => none) (fun _ => 0) emL := by
  obtain ⟨vs, t, hs, h1, h2⟩ := h.sits
  exact ⟨h.lo, ⟨vs, t, hs, by omega, h2⟩, fun i hi => PO.nil _ _ _, fun i hi g hg => (by cases hg), fun i j _ _ _ => Off.none_left _⟩

set_option maxRecDepth 100000 in
set_option maxHeartbeats 8000000 in
theorem l8draw_any (Bc : Nat) (a : Option Addr) (len cap : Nat) (w : World) (hc : Cur w Bc a len cap) :
    Calls Try.prog 71 #[.pointer (some ⟨Bc, 0, none⟩)] w fun e w' => ∃ (s : Sh) (B : Nat) (A : Nat → Option Addr) (C : Nat → Nat) (cl : Nat) (L : Nat → Ln) (y : Option Addr) (n cy : Nat) (tn : Nat → Int) (now : Int), e = .returned (.tuple #[shVal s (some ⟨B, 0, none⟩) 4 cl y n cy, .int .i64 now]) ∧ OwnI (w.heap.size + 1) w' (some ⟨B, 0, none⟩) 4 cl A C L y n cy tn ∧ shP s 4 L ((List.range n).map tn) ∧ (0 ≤ now ∧ now ≤ 198000000) ∧ Cur w' Bc a len cap ∧ Only Bc w w' := by
  have hB := hc.1
  obtain ⟨W0, hW0⟩ : ∃ W, w.alloc (.cells shZero 29) = W := ⟨_, rfl⟩
  have C0 : Hid (Cur W0 Bc a len cap) := by show Cur _ _ _ _ _; rw [← hW0]; exact hc.alloc _ _
  have O0 : Hid (Only Bc w W0) := by show Only _ _ _; rw [← hW0]; exact (Only.refl Bc w).alloc _
  have Z0 : Hid (Sits W0 w.heap.size shZero 29) := by show Sits _ _ _ _; rw [← hW0]; exact Sits.new _ _ _
  clear hc
  go_enter Try.func71, Try.ntmps71
  go_wp2_with fail
  (try rw [hW0])
  clear hW0
  refine Calls.mono (pick_lit (fun v => 1000 ≤ v ∧ v ≤ 1000000000) Bc a len cap _ C0.out _ _ 4 ?n1 ?n2 ?n3 ?q) ?_
  case n1 => rfl
  case n2 => omega
  case n3 => omega
  case q =>
    intro v hv
    simp only [List.mem_cons, List.not_mem_nil, or_false] at hv
    rcases hv with rfl | rfl | rfl | rfl
    all_goals exact ⟨_, rfl, by omega, by omega⟩
  rintro o w1 ⟨x1, rfl, ⟨x10, x11⟩, c1, o1⟩
  have C1 : Hid (Cur w1 Bc a len cap) := c1
  have O1 : Hid (Only Bc w w1) := Only.trans O0.out o1
  have Z1 : Hid (Sits w1 w.heap.size shZero 29) := Sits.only Z0.out o1 (by omega)
  clear c1 o1 C0 O0 Z0
  go_wp2_with fail
  refine (below_any Bc a len cap _ C1.out 60 (by omega) (by omega)).mono ?_
  rintro o w2 ⟨x2, rfl, x20, x21, c2, o2⟩
  have C2 : Hid (Cur w2 Bc a len cap) := c2
  have O2 : Hid (Only Bc w w2) := Only.trans O1.out o2
  have Z2 : Hid (Sits w2 w.heap.size shZero 29) := Sits.only Z1.out o2 (by omega)
  clear c2 o2 C1 O1 Z1
  go_wp2_with fail
  refine Calls.mono (pick_lit (fun v => 1 ≤ v ∧ v ≤ 10000) Bc a len cap _ C2.out _ _ 2 ?n1 ?n2 ?n3 ?q) ?_
  case n1 => rfl
  case n2 => omega
  case n3 => omega
  case q =>
    intro v hv
    simp only [List.mem_cons, List.not_mem_nil, or_false] at hv
    rcases hv with rfl | rfl
    all_goals exact ⟨_, rfl, by omega, by omega⟩
  rintro o w3 ⟨x3, rfl, ⟨x30, x31⟩, c3, o3⟩
  have C3 : Hid (Cur w3 Bc a len cap) := c3
  have O3 : Hid (Only Bc w w3) := Only.trans O2.out o3
  have Z3 : Hid (Sits w3 w.heap.size shZero 29) := Sits.only Z2.out o3 (by omega)
  clear c3 o3 C2 O2 Z2
  go_wp2_with fail
  refine (below_any Bc a len cap _ C3.out 14 (by omega) (by omega)).mono ?_
  rintro o w4 ⟨x4, rfl, x40, x41, c4, o4⟩
  have C4 : Hid (Cur w4 Bc a len cap) := c4
  have O4 : Hid (Only Bc w w4) := Only.trans O3.out o4
  have Z4 : Hid (Sits w4 w.heap.size shZero 29) := Sits.only Z3.out o4 (by omega)
  have hw4 : IntKind.i64.wrap (2 + x4) = 2 + x4 := wrap_in (by omega) (by omega)
  clear c4 o4 C3 O3 Z3
  go_wp2_with fail
  (try rw [hw4])
  clear hw4
  have hsp : shP ⟨x1, x2, 0, x3, 2 + x4⟩ 4 emL [] := shP_new (by omega) (by omega) (by omega) (by omega) (by omega) (by omega) (by omega) (by omega)
  refine (sshapeNew_any x1 x2 x3 (2 + x4) _).mono ?_
  rintro o w5 hor
  have hor2 : ∃ B : Nat, o = .returned (.tuple #[shVal ⟨x1, x2, 0, x3, 2 + x4⟩ (some ⟨B, 0, none⟩) 4 4 none 0 0, .bool true]) ∧ LO w4.heap.size w5 B 4 (fun _ => none) (fun _ => 0) emL ∧ Below w4.heap.size w4 w5 := by
    rcases hor with ⟨_, h⟩ | ⟨hn, _⟩
    · exact h
    · exact absurd (sh_yes hsp) (by unfold newSB at hn; rw [hn]; simp)
  clear hor
  obtain ⟨B, he, lo, b5⟩ := hor2
  obtain ⟨base, hbase⟩ : ∃ b, w4.heap.size = b := ⟨_, rfl⟩
  obtain ⟨s0, hs0⟩ : ∃ s : Sh, (⟨x1, x2, 0, x3, 2 + x4⟩ : Sh) = s := ⟨_, rfl⟩
  rw [hs0] at he hsp
  subst he
  obtain ⟨V, hV⟩ : ∃ V, w5.heap.size = V := ⟨_, rfl⟩
  have zl4 := Sits.lt Z4.out
  have hD : ∀ W, w5.alloc (.cells (shCells s0 (some ⟨B, 0, none⟩) 4 4 none 0 0) 29) = W → DS w Bc a len cap base V B 4 W s0 (fun _ => none) (fun _ => 0) emL none 0 0 (fun _ => 0) [] := by
    rintro W rfl
    have bb : Below base w4 (w5.alloc (.cells (shCells s0 (some ⟨B, 0, none⟩) 4 4 none 0 0) 29)) := by rw [← hbase]; exact b5.alloc b5.size _
    have lq := (LO.lq_em lo).below ((Below.refl _ w5).alloc (Nat.le_refl _) (.cells (shCells s0 (some ⟨B, 0, none⟩) 4 4 none 0 0) 29))
    rw [hbase] at lq
    have hBV : B < V := by rw [← hV]; exact (LO.lq_em lo).lt
    exact ⟨⟨Sits.new' hV, by rw [← hV, ← hbase]; exact b5.size, by omega, fun i hi g hg => (by cases hg), fun g hg => (by cases hg), lq, ⟨JO.nil _ _ _, fun g hg => (by cases hg), fun i hi => Off.none_right _⟩⟩, rfl, hsp, Sits.below Z4.out bb (by omega), cur_low C4.out bb (by omega), only_low O4.out bb (by omega), by omega, hB⟩
  have HD0 : Hid (∀ W, w5.alloc (.cells (shCells s0 (some ⟨B, 0, none⟩) 4 4 none 0 0) 29) = W → DS w Bc a len cap base V B 4 W s0 (fun _ => none) (fun _ => 0) emL none 0 0 (fun _ => 0) []) := hD
  clear hD lo b5 hsp C4 O4 Z4 hbase zl4 hs0 x10 x11 x20 x21 x30 x31 x40 x41
  go_wp2_with fail
  --REG1
  obtain ⟨W5, hW5⟩ : ∃ W, w5.alloc (.cells (shCells s0 (some ⟨B, 0, none⟩) 4 4 none 0 0) 29) = W := ⟨_, rfl⟩
  have D0 : Hid (DS w Bc a len cap base V B 4 W5 s0 (fun _ => none) (fun _ => 0) emL none 0 0 (fun _ => 0) []) := HD0.out _ hW5
  rw [hW5]
  (try rw [hV])
  clear hW5 HD0 hV
  refine (below_any Bc a len cap _ (DS.cu D0.out) 22 (by omega) (by omega)).mono ?_
  rintro o w6 ⟨x6, rfl, x60, x61, c6, o6⟩
  have D1 : Hid (DS w Bc a len cap base V B 4 w6 s0 (fun _ => none) (fun _ => 0) emL none 0 0 (fun _ => 0) []) := DS.only D0.out c6 o6
  clear c6 o6 D0
  obtain ⟨m, rfl⟩ := Int.eq_ofNat_of_zero_le x60
  have hm : m < 22 := by omega
  clear x60 x61
  go_wp2
  go_loopw [6, 8] (fun now i W => ∃ (k : Nat) (t : Int) (s : Sh) (A : Nat → Option Addr) (C : Nat → Nat) (L : Nat → Ln) (y : Option Addr) (n cy : Nat) (tn : Nat → Int) (ts : List Int), k ≤ m ∧ now = .int .i64 t ∧ i = .int .i64 k ∧ 0 ≤ t ∧ t ≤ 9000000 * (k : Int) ∧ DS w Bc a len cap base V B 4 W s A C L y n cy tn ts) (fun _ i _ => m - (intOf i).toNat)
  case atStart => exact ⟨0, 0, s0, _, _, emL, none, 0, 0, _, [], Nat.zero_le _, rfl, rfl, by omega, by omega, D1.out⟩
  case round =>
    obtain ⟨k, t, s, A, C, L, y, n, cy, tn, ts, hk, rfl, rfl, t0, t1, hd⟩ := hrel
    have HD : Hid (DS w Bc a len cap base V B 4 wr s A C L y n cy tn ts) := hd
    clear hd D1
    by_cases hlt : k < m
    · have hlti : (k : Int) < (m : Int) := by omega
      go_wp2_with fail
      refine (below_any Bc a len cap _ (DS.cu HD.out) 4 (by omega) (by omega)).mono ?_
      rintro o w7 ⟨x7, rfl, x70, x71, c7, o7⟩
      have D7 : Hid (DS w Bc a len cap base V B 4 w7 s A C L y n cy tn ts) := DS.only HD.out c7 o7
      have hw1 : IntKind.i64.wrap (x7 * 3000000) = x7 * 3000000 := wrap_in (by omega) (by omega)
      have hw2 : IntKind.i64.wrap (t + x7 * 3000000) = t + x7 * 3000000 := wrap_in (by omega) (by omega)
      obtain ⟨u, hu⟩ : ∃ u, t + x7 * 3000000 = u := ⟨_, rfl⟩
      have u0 : 0 ≤ u := by omega
      have u1 : u ≤ 9000000 * (k : Int) + 9000000 := by omega
      clear c7 o7 HD
      go_wp2_with fail
      (try simp only [hw1, hw2, hu])
      clear hw1 hw2 hu x70 x71
      refine (once_any Bc a len cap _ (DS.cu D7.out) 3 (by omega) (by omega)).mono ?_
      rintro o w8 ⟨b, rfl, c8, o8⟩
      have D8 : Hid (DS w Bc a len cap base V B 4 w8 s A C L y n cy tn ts) := DS.only D7.out c8 o8
      clear c8 o8 D7
      cases b
      case true =>
        go_wp2_with fail
        refine (l8pop_any base V B 4 n cy s y A C L tn ts u _ (DS.sw D8.out) (DS.hts D8.out) (DS.sp D8.out) u0 (by omega)).mono ?_
        rintro o w9 (⟨_, rfl, b9⟩ | ⟨hyes, K, hK, rfl, A', C', y', n', cy', tn', sw9, ht9, b9⟩)
        · have D9 : Hid (DS w Bc a len cap base V B 4 w9 s A C L y n cy tn ts) := DS.below D8.out b9
          clear b9
          go_wp2
          go_roundw
          case rel => exact ⟨k + 1, u, s, A, C, L, y, n, cy, tn, ts, by omega, rfl, by go_num, u0, by omega, D9.out⟩
          case measure => simp [intOf]; omega
        · have hne := (none_no hyes).1
          obtain ⟨p0, p1⟩ := pop_nx (DS.sp D8.out) hne K u0 (by omega)
          have D9 : Hid (DS w Bc a len cap base V B 4 w9 ⟨s.rt, s.ov, u + costF s ((L (popHost ts K)).f 0).size, s.qt, s.lim⟩ A' C' (popLn L (shK ts s.qt (fun i => (L i).sh) K) (popHost ts K)) y' n' cy' tn' (popTs L ts K)) := DS.put D8.out sw9 ht9 (shP_pop (DS.sp D8.out) hne hK p0 p1) b9
          clear b9 sw9 ht9 hyes
          go_wp2
          go_roundw
          case rel => exact ⟨k + 1, u, _, A', C', _, y', n', cy', tn', _, by omega, rfl, by go_num, u0, by omega, D9.out⟩
          case measure => simp [intOf]; omega
      case false =>
        have hw3 : IntKind.i64.wrap ((k : Int) + 1) = (k : Int) + 1 := wrap_in (by omega) (by omega)
        go_wp2_with fail
        (try simp only [hw3])
        clear hw3
        refine (l3pkt_any Bc a len cap _ (DS.cu D8.out) ((k : Int) + 1) u).mono ?_
        rintro o w9 ⟨p, rfl, hp, c9, o9⟩
        have D9 : Hid (DS w Bc a len cap base V B 4 w9 s A C L y n cy tn ts) := DS.only D8.out c9 o9
        have hpg : p.good = true := hp.is (by omega) (by omega) u0 (by omega)
        obtain ⟨eh, h4⟩ := host_of hpg
        have HPG : Hid (p.good = true) := hpg
        have HEH : Hid (p.host = ((p.host.toNat : Nat) : Int)) := eh
        have H4 : Hid (p.host.toNat < 4) := h4
        clear c9 o9 D8 hp hpg eh h4
        have HPUSH : Hid (Calls Try.prog 90 #[.pointer (some ⟨V, 0, none⟩), p.val] w9 fun e w' => (e = .returned (.bool false) ∨ e = .returned (.bool true)) ∧ ∃ (A' : Nat → Option Addr) (C' : Nat → Nat) (L' : Nat → Ln) (y' : Option Addr) (n' cy' : Nat) (tn' : Nat → Int) (ts' : List Int), DS w Bc a len cap base V B 4 w' s A' C' L' y' n' cy' tn' ts') := by
          refine (l8push_sw base V B 4 n cy s y A C L tn p p.host.toNat _ (DS.sw D9.out) (by have := (DS.sp D9.out).2.2.1; have := (DS.sp D9.out).1.2.2.2.2; omega) (Nat.le_trans (turn_len (by rw [DS.hts D9.out]; exact DS.sp D9.out)) (by omega)) HEH.out H4.out (has_turn (by rw [DS.hts D9.out]; exact DS.sp D9.out) H4.out)).mono ?_
          rintro o wa (⟨_, rfl, ba⟩ | ⟨hyes, rfl, A', C', y', n', cy', tn', swa, hta, _, ba⟩)
          · exact ⟨.inl rfl, A, C, L, y, n, cy, tn, ts, DS.below D9.out ba⟩
          · rw [DS.hts D9.out] at hta
            exact ⟨.inr rfl, A', C', _, y', n', cy', tn', _, DS.put D9.out swa hta (shP_push (DS.sp D9.out) HPG.out (of_decide_eq_true hyes)) ba⟩
        go_wp2_with fail
        refine (HPUSH.out).mono ?_
        rintro o wa ⟨hor, A', C', L', y', n', cy', tn', ts', hd⟩
        have DA : Hid (DS w Bc a len cap base V B 4 wa s A' C' L' y' n' cy' tn' ts') := hd
        clear hd HPUSH D9
        rcases hor with rfl | rfl
        all_goals
          go_wp2
          go_roundw
          case rel => exact ⟨k + 1, u, s, A', C', L', y', n', cy', tn', ts', by omega, rfl, by go_num, u0, by omega, DA.out⟩
          case measure => simp [intOf]; omega
    · obtain rfl : k = m := by omega
      have hsv := (DS.sw HD.out).sv
      have v0 := hsv.cell 0
      have v1 := hsv.cell 1
      have v2 := hsv.cell 2
      have v3 := hsv.cell 3
      have v4 := hsv.cell 4
      have v5 := hsv.cell 5
      have v6 := hsv.cell 6
      clear hsv
      go_wp2_with (go_at_call 27; refine (l8own_oi s (some ⟨B, 0, none⟩) 4 y n cy L tn _ (by have := (DS.sp HD.out).2.2.1; have := (DS.sp HD.out).1.2.2.2.2; omega) (Nat.le_trans (turn_len (by rw [DS.hts HD.out]; exact DS.sp HD.out)) (by omega)) (DS.sw HD.out).lq.lr (SW.row (DS.sw HD.out))).mono ?_; rintro o wz ⟨Bz, Az, Cz, clz, yz, cyz, rfl, oz, bz⟩; have DZ : Hid (DS w Bc a len cap base V B 4 wz s A C L y n cy tn ts) := DS.below HD.out bz; have OZ : Hid (OwnI wr.heap.size wz (some ⟨Bz, 0, none⟩) 4 clz Az Cz L yz n cyz tn) := oz; have hzz := bz.size; have r0 := Sits.cell (DS.z DZ.out) 0; have r1 := Sits.cell (DS.z DZ.out) 1; have r2 := Sits.cell (DS.z DZ.out) 2; have r3 := Sits.cell (DS.z DZ.out) 3; have r4 := Sits.cell (DS.z DZ.out) 4; have r5 := Sits.cell (DS.z DZ.out) 5; have r6 := Sits.cell (DS.z DZ.out) 6; have rf := Sits.frozen (DS.z DZ.out); clear oz bz v0 v1 v2 v3 v4 v5 v6)
      have hlo := (DS.on DZ.out).size
      have hlw := (DS.lo DZ.out)
      have hbc := (DS.bc DZ.out)
      have hsz := Sits.lt (DS.z DZ.out)
      have hbz : w.heap.size + 1 ≤ wr.heap.size := by have := Sits.lt (DS.z HD.out); omega
      have hcu : ∀ (X : World) (q : Nat) (v : Value), Cur X Bc a len cap → Cur (X.setCell ⟨w.heap.size, q, none⟩ v) Bc a len cap := fun X q v hX => hX.setNew (by omega) _
      have hon : ∀ (X : World) (q : Nat) (v : Value), Only Bc w X → Only Bc w (X.setCell ⟨w.heap.size, q, none⟩ v) := fun X q v hX => hX.setNew (Nat.le_refl _) _
      have hoi : ∀ (X : World) (q : Nat) (v : Value), OwnI (w.heap.size + 1) X (some ⟨Bz, 0, none⟩) 4 clz Az Cz L yz n cyz tn → OwnI (w.heap.size + 1) (X.setCell ⟨w.heap.size, q, none⟩ v) (some ⟨Bz, 0, none⟩) 4 clz Az Cz L yz n cyz tn := fun X q v hX => OwnI.far hX (Nat.lt_succ_self _) q v
      refine bodyPost_ret (ret_shn (B := w.heap.size) Try.results71 rfl rfl (sh_put7 (DS.z DZ.out) s (some ⟨Bz, 0, none⟩) 4 clz yz n cyz)) rfl ?_
      exact ⟨s, Bz, Az, Cz, clz, L, yz, n, cyz, tn, t, rfl, hoi _ _ _ (hoi _ _ _ (hoi _ _ _ (hoi _ _ _ (hoi _ _ _ (hoi _ _ _ (hoi _ _ _ (OwnI.mono OZ.out hbz))))))), by rw [DS.hts DZ.out]; exact DS.sp DZ.out, ⟨t0, by omega⟩, hcu _ _ _ (hcu _ _ _ (hcu _ _ _ (hcu _ _ _ (hcu _ _ _ (hcu _ _ _ (hcu _ _ _ (DS.cu DZ.out))))))), hon _ _ _ (hon _ _ _ (hon _ _ _ (hon _ _ _ (hon _ _ _ (hon _ _ _ (hon _ _ _ (DS.on DZ.out)))))))⟩

end Go.Proofs.Ytmjggolllijamaa

/-
  A SHAPE BENT: l8bent.
-/
namespace Go.Proofs.Ytmjggolllijamaa
open Go.RowKit
set_option linter.unusedVariables false

theorem step_belowS {w : World} {ops : Array Oper} {o : Oper} {act : Act} {K : Act → World → Prop} {Q : Exit → Act → World → Prop} {E : Prop} (hgd : o.guard = none) (x y : Operand) (t1 t2 : TypeId)
    (ho : o.op = .call { callee := .value (.func 46), args := #[x, y], argTypes := #[t1, t2] })
    (B : Nat) (n : Int) (n0 : 1 ≤ n) (n1 : n ≤ 9223372036854775807) (hx : act.eval x = .pointer (some ⟨B, 0, none⟩)) (hy : act.eval y = .int .i64 n) (a : Option Addr) (len cap : Nat) (hc : Cur w B a len cap)
    (h : ∀ v w', 0 ≤ v → v < n → Cur w' B a len cap → Only B w w' → K (act.put o.dst (.int .i64 v)) w') :
    if Region.wanted o (yielded ops act.tmps) = true then Oper.wp Try.prog o act w K Q else E := by
  have hw : Region.wanted o (yielded ops act.tmps) = true := by simp [Region.wanted, hgd]
  rw [if_pos hw]
  unfold Oper.wp
  have he : (execOp act.eval o).run Try.prog w = .ok (.enter 46 #[.pointer (some ⟨B, 0, none⟩), .int .i64 n]) w := by
    have hfun := Try.func46
    simp [execOp, ho, resolve, invoke, go_sem, Act.eval]
    exact ⟨by simpa [Act.eval] using hx, by simpa [Act.eval] using hy⟩
  rw [he, Oper.upon_enter]
  refine (below_any B a len cap w hc n n0 n1).mono ?_
  rintro e w' ⟨v, rfl, v0, v1, cc, oo⟩
  exact h v w' v0 v1 cc oo
theorem OwnI.cnt {base : Nat} {w : World} {x : Option Addr} {N ca : Nat} {A : Nat → Option Addr} {C : Nat → Nat} {L : Nat → Ln} {y : Option Addr} {n cy : Nat} {tn : Nat → Int} (h : OwnI base w x N ca A C L y n cy tn) : n ≤ cy := h.jo.cap
theorem cnt_moreS {L L' : Nat → Ln} {N : Nat} (h : ∀ i, i < N → (L' i).n = (L i).n) (h2 : (L' N).n = 0) : cntF L' (N + 1) = cntF L N := by
  rw [cntF_succ, h2, Nat.add_zero]
  unfold cntF
  congr 1
  exact List.map_congr_left fun i hi => h i (List.mem_range.1 hi)

/-- What l8bent answers. -/
def BentIs (w : World) (Bc : Nat) (a : Option Addr) (len cap : Nat) (e : Ending) (w' : World) : Prop :=
  ∃ (s : Sh) (x : Option Addr) (N ca : Nat) (A : Nat → Option Addr) (C : Nat → Nat) (L : Nat → Ln) (y : Option Addr) (n cy : Nat) (tn : Nat → Int) (now : Int), e = .returned (.tuple #[shVal s x N ca y n cy, .int .i64 now]) ∧ OwnI (w.heap.size + 1) w' x N ca A C L y n cy tn ∧ N ≤ 5 ∧ cntF L N ≤ 1000 ∧ n ≤ 5 ∧ (-1 ≤ s.nx ∧ s.nx ≤ 4000000000001) ∧ (0 ≤ now ∧ now ≤ 198000000) ∧ Cur w' Bc a len cap ∧ Only Bc w w'
theorem BS.bent {w : World} {Bc : Nat} {a : Option Addr} {len cap : Nat} {base V : Nat} {W : World} {s : Sh} {x : Option Addr} {N ca : Nat} {A : Nat → Option Addr} {C : Nat → Nat} {L : Nat → Ln} {y : Option Addr} {n cy : Nat} {tn : Nat → Int} {now : Int} (h : BS w Bc a len cap base V W s x N ca A C L y n cy tn) (h1 : N ≤ 5) (h2 : cntF L N ≤ 1000) (h3 : n ≤ 5) (h4 : -1 ≤ s.nx ∧ s.nx ≤ 4000000000001) (h5 : 0 ≤ now ∧ now ≤ 198000000) :
    BentIs w Bc a len cap (.returned (.tuple #[shVal s x N ca y n cy, .int .i64 now])) (set7 W w.heap.size s x N ca y n cy) :=
  ⟨s, x, N, ca, A, C, L, y, n, cy, tn, now, rfl, h.back.2.1.mono h.lo, h1, h2, h3, h4, h5, h.back.2.2.1, h.back.2.2.2⟩

set_option maxRecDepth 100000 in
set_option maxHeartbeats 8000000 in
theorem l8bent_any (Bc : Nat) (a : Option Addr) (len cap : Nat) (w : World) (hc : Cur w Bc a len cap) :
    Calls Try.prog 43 #[.pointer (some ⟨Bc, 0, none⟩)] w fun e w' => BentIs w Bc a len cap e w' := by
  have hB := hc.1
  obtain ⟨W0, hW0⟩ : ∃ W, w.alloc (.cells shZero 29) = W := ⟨_, rfl⟩
  have C0 : Hid (Cur W0 Bc a len cap) := by show Cur _ _ _ _ _; rw [← hW0]; exact hc.alloc _ _
  have O0 : Hid (Only Bc w W0) := by show Only _ _ _; rw [← hW0]; exact (Only.refl Bc w).alloc _
  have Z0 : Hid (Sits W0 w.heap.size shZero 29) := by show Sits _ _ _ _; rw [← hW0]; exact Sits.new _ _ _
  have HS0 : Hid (W0.heap.size = w.heap.size + 1) := by show _ = _; rw [← hW0]; simp
  clear hc
  go_enter Try.func43, Try.ntmps43
  go_wp2_with fail
  (try rw [hW0])
  clear hW0
  refine (l8draw_any Bc a len cap _ C0.out).mono ?_
  rintro e w1 ⟨s, B, A, C, cl, L, y, n, cy, tn, now, rfl, hoi, hsp, hnow, c1, o1⟩
  have HCN : Hid (cntF L 4 ≤ 40) := by show _ ≤ _; have := hsp.2.2.1; have := hsp.1.2.2.2.2; omega
  have HN4 : Hid (n ≤ 4) := turn_len hsp
  have HNX : Hid (0 ≤ s.nx ∧ s.nx ≤ 4000000000000) := hsp.1.2.2.1
  have HNOW : Hid (0 ≤ now ∧ now ≤ 198000000) := hnow
  obtain ⟨base, hbase⟩ : ∃ b, W0.heap.size + 1 = b := ⟨_, rfl⟩
  rw [hbase] at hoi
  have HOI : Hid (OwnI base w1 (some ⟨B, 0, none⟩) 4 cl A C L y n cy tn) := hoi
  have C1 : Hid (Cur w1 Bc a len cap) := c1
  have O1 : Hid (Only Bc W0 w1) := o1
  have HBA : Hid (W0.heap.size + 1 = base) := hbase
  clear hoi c1 o1 hsp hnow hbase
  go_upto_region 2 with fail
  obtain ⟨V, hV⟩ : ∃ V, w1.heap.size = V := ⟨_, rfl⟩
  obtain ⟨W1, hW1⟩ : ∃ W, w1.alloc (.cells (shCells s (some ⟨B, 0, none⟩) 4 cl y n cy) 29) = W := ⟨_, rfl⟩
  have H1 : Hid (BS w Bc a len cap base V W1 s (some ⟨B, 0, none⟩) 4 cl A C L y n cy tn) := by
    show BS _ _ _ _ _ _ _ _ _ _ _ _ _ _ _ _ _ _ _
    have hz := HS0.out
    have hba := HBA.out
    have hoi := HOI.out
    have u1 := hoi.lp.undr ⟨B, 0, none⟩ rfl
    have u2 := hoi.lp.abov ⟨B, 0, none⟩ rfl
    have u1' : B < w1.heap.size := u1
    have u2' : base ≤ B := u2
    rw [← hW1]
    exact ⟨Sits.new' hV, (Sits.only Z0.out O1.out (by omega)).alloc _, hoi.below ((Below.refl _ _).alloc (Nat.le_refl _) _), (C1.out).alloc _ _, ((O0.out).trans O1.out).alloc _, by omega, hB, by omega, fun g e => by cases e; show B ≠ V; omega, fun i hi g e => by have := (hoi.po i hi).under g e; omega, fun g e => by have := hoi.jo.undr g e; omega⟩
  rw [hW1, hV]
  obtain ⟨xb, hxb⟩ : ∃ x, some (⟨B, 0, none⟩ : Addr) = x := ⟨_, rfl⟩
  rw [hxb] at H1
  clear hW1 hV HOI C1 O1 C0 O0 Z0 HS0 HBA
  go_wp2_with fail
  refine (once_any Bc a len cap _ (BS.cu H1.out) 9 (by omega) (by omega)).mono ?_
  rintro e w2 ⟨b2, rfl, c2, o2⟩
  have H2 : Hid (BS w Bc a len cap base V w2 s xb 4 cl A C L y n cy tn) := BS.only H1.out c2 o2
  clear c2 o2 H1
  have HFIN : Hid (∀ W, BS w Bc a len cap base V W s xb 4 cl A C L y n cy tn → True) := fun _ _ => trivial
  clear HFIN
  cases b2
  case false =>
    have hv := (BS.sv H2.out)
    have v0 := hv.cell 0
    have v1 := hv.cell 1
    have v2 := hv.cell 2
    have v3 := hv.cell 3
    have v4 := hv.cell 4
    have v5 := hv.cell 5
    have v6 := hv.cell 6
    have hz := (BS.z H2.out)
    have r0 := hz.cell 0
    have r1 := hz.cell 1
    have r2 := hz.cell 2
    have r3 := hz.cell 3
    have r4 := hz.cell 4
    have r5 := hz.cell 5
    have r6 := hz.cell 6
    have rf := hz.frozen
    clear hv hz
    go_wp2
    refine bodyPost_ret (ret_shn (B := w.heap.size) Try.results43 rfl rfl (BS.back H2.out).1) rfl ?_
    exact BS.bent H2.out (by omega) (by have := HCN.out; omega) (by have := HN4.out; omega) (by have := HNX.out; omega) HNOW.out
  case true =>
    go_wp2_with fail
    refine (below_any Bc a len cap _ (BS.cu H2.out) 5 (by omega) (by omega)).mono ?_
    rintro e w3 ⟨q, rfl, q0, q1, c3, o3⟩
    have H3 : Hid (BS w Bc a len cap base V w3 s xb 4 cl A C L y n cy tn) := BS.only H2.out c3 o3
    clear c3 o3 H2
    rcases (show q = 0 ∨ q = 1 ∨ q = 2 ∨ q = 3 ∨ q = 4 by omega) with rfl | rfl | rfl | rfl | rfl
    · clear q0 q1
      go_wp2_with fail
      refine Calls.mono (pick_lit (fun v => 999 ≤ v ∧ v ≤ 1000000000001) Bc a len cap _ (BS.cu H3.out) _ _ 4 ?n1 ?n2 ?n3 ?q) ?_
      case n1 => rfl
      case n2 => omega
      case n3 => omega
      case q =>
        intro v hv
        simp only [List.mem_cons, List.not_mem_nil, or_false] at hv
        rcases hv with rfl | rfl | rfl | rfl
        all_goals exact ⟨_, rfl, by omega, by omega⟩
      rintro e w4 ⟨N, rfl, ⟨N0, N1⟩, c4, o4⟩
      have H4 : Hid (BS w Bc a len cap base V w4 s xb 4 cl A C L y n cy tn) := BS.only H3.out c4 o4
      obtain ⟨s', hs'⟩ : ∃ s' : Sh, (⟨N, s.ov, s.nx, s.qt, s.lim⟩ : Sh) = s' := ⟨_, rfl⟩
      have H5 : Hid (BS w Bc a len cap base V (w4.setCell ⟨V, 0, none⟩ (.int .i64 N)) s' xb 4 cl A C L y n cy tn) := BS.num H4.out s' 0 (.int .i64 N) (by rw [← hs']; rfl)
      have HNX' : Hid (-1 ≤ s'.nx ∧ s'.nx ≤ 4000000000001) := by show _ ∧ _; rw [← hs']; have := HNX.out; exact ⟨by show -1 ≤ s.nx; omega, by show s.nx ≤ _; omega⟩
      have vc := (BS.sv H4.out).cell 0
      have vf := (BS.sv H4.out).frozen
      clear c4 o4 hs'
      go_upto_region 13 with fail
      obtain ⟨W5, hW5⟩ : ∃ W, w4.setCell ⟨V, 0, none⟩ (.int .i64 N) = W := ⟨_, rfl⟩
      rw [hW5] at H5 ⊢
      clear hW5 vc vf H4 H3
      have hv := (BS.sv H5.out)
      have v0 := hv.cell 0
      have v1 := hv.cell 1
      have v2 := hv.cell 2
      have v3 := hv.cell 3
      have v4 := hv.cell 4
      have v5 := hv.cell 5
      have v6 := hv.cell 6
      have hz := (BS.z H5.out)
      have r0 := hz.cell 0
      have r1 := hz.cell 1
      have r2 := hz.cell 2
      have r3 := hz.cell 3
      have r4 := hz.cell 4
      have r5 := hz.cell 5
      have r6 := hz.cell 6
      have rf := hz.frozen
      clear hv hz
      go_wp2
      refine bodyPost_ret (ret_shn (B := w.heap.size) Try.results43 rfl rfl (BS.back H5.out).1) rfl ?_
      exact BS.bent H5.out (by omega) (by have := HCN.out; omega) (by have := HN4.out; omega) (HNX'.out) HNOW.out
    · clear q0 q1
      go_wp2_with fail
      refine Calls.mono (pick_lit (fun v => -1 ≤ v ∧ v ≤ 201) Bc a len cap _ (BS.cu H3.out) _ _ 3 ?n1 ?n2 ?n3 ?q) ?_
      case n1 => rfl
      case n2 => omega
      case n3 => omega
      case q =>
        intro v hv
        simp only [List.mem_cons, List.not_mem_nil, or_false] at hv
        rcases hv with rfl | rfl | rfl
        all_goals exact ⟨_, rfl, by omega, by omega⟩
      rintro e w4 ⟨N, rfl, ⟨N0, N1⟩, c4, o4⟩
      have H4 : Hid (BS w Bc a len cap base V w4 s xb 4 cl A C L y n cy tn) := BS.only H3.out c4 o4
      obtain ⟨s', hs'⟩ : ∃ s' : Sh, (⟨s.rt, N, s.nx, s.qt, s.lim⟩ : Sh) = s' := ⟨_, rfl⟩
      have H5 : Hid (BS w Bc a len cap base V (w4.setCell ⟨V, 1, none⟩ (.int .i64 N)) s' xb 4 cl A C L y n cy tn) := BS.num H4.out s' 1 (.int .i64 N) (by rw [← hs']; rfl)
      have HNX' : Hid (-1 ≤ s'.nx ∧ s'.nx ≤ 4000000000001) := by show _ ∧ _; rw [← hs']; have := HNX.out; exact ⟨by show -1 ≤ s.nx; omega, by show s.nx ≤ _; omega⟩
      have vc := (BS.sv H4.out).cell 1
      have vf := (BS.sv H4.out).frozen
      clear c4 o4 hs'
      go_upto_region 13 with fail
      obtain ⟨W5, hW5⟩ : ∃ W, w4.setCell ⟨V, 1, none⟩ (.int .i64 N) = W := ⟨_, rfl⟩
      rw [hW5] at H5 ⊢
      clear hW5 vc vf H4 H3
      have hv := (BS.sv H5.out)
      have v0 := hv.cell 0
      have v1 := hv.cell 1
      have v2 := hv.cell 2
      have v3 := hv.cell 3
      have v4 := hv.cell 4
      have v5 := hv.cell 5
      have v6 := hv.cell 6
      have hz := (BS.z H5.out)
      have r0 := hz.cell 0
      have r1 := hz.cell 1
      have r2 := hz.cell 2
      have r3 := hz.cell 3
      have r4 := hz.cell 4
      have r5 := hz.cell 5
      have r6 := hz.cell 6
      have rf := hz.frozen
      clear hv hz
      go_wp2
      refine bodyPost_ret (ret_shn (B := w.heap.size) Try.results43 rfl rfl (BS.back H5.out).1) rfl ?_
      exact BS.bent H5.out (by omega) (by have := HCN.out; omega) (by have := HN4.out; omega) (HNX'.out) HNOW.out
    · clear q0 q1
      have vc := (BS.sv H3.out).cell 6
      have vf := (BS.sv H3.out).frozen
      have hVl := (BS.sv H3.out).lt
      go_upto_region 10 with fail
      go_wp2_with fail
      go_region_law (first | (refine step_append_in1 (by rfl) _ _ (by rfl) base y n cy tn (by rfl) (OwnI.jo (BS.oi (BS.alloc H4.out _))) w4.heap.size _ (by rfl) (by simp [go_sem]; rfl) (by have := HN4.out; omega) (by have := (BS.vb H4.out); have := (BS.sv H4.out).lt; simp; omega) ?_; intro g cy' w6 hj6 hg6 ho6 hgl6; have hap := BS.turn (BS.alloc H4.out _) hg6 hj6 ho6; have z6 := hap.1.cell 6; have f6 := hap.1.frozen; have hl6 := hap.1.lt) | (refine step_belowS (by rfl) _ _ _ _ (by rfl) Bc 6 (by omega) (by omega) (by rfl) (by rfl) a len cap (BS.cu (BS.drew H3.out)) ?_; intro d4 w4 d40 d41 c4 o4; have H4 : Hid (BS w Bc a len cap base V w4 s xb 4 cl A C L y n cy tn) := BS.only (BS.drew H3.out) c4 o4; have z4 := (BS.sv H4.out).cell 6; have hl4 := (BS.sv H4.out).lt; have hn4 : ¬ V = w4.heap.size := Nat.ne_of_lt hl4))
      all_goals
        obtain ⟨tn', htn⟩ : ∃ t, (fun i => if i = n then IntKind.i64.wrap (d4 - 1) else tn i) = t := ⟨_, rfl⟩
        have H6 := hap.2
        rw [htn] at H6
        clear htn hj6 hap hg6 ho6 hgl6
        go_upto_region 13 with fail
        obtain ⟨W7, hW7⟩ : ∃ W, w6.setCell ⟨V, 6, none⟩ (.slice (some ⟨g, 0, none⟩) (n + 1) cy') = W := ⟨_, rfl⟩
        rw [hW7] at H6
        rw [hW7]
        have H7 : Hid (BS w Bc a len cap base V W7 s xb 4 cl A C L (some ⟨g, 0, none⟩) (n + 1) cy' tn') := H6
        clear z6 f6 hl6 H6 hW7 H4 H3 vc vf c4 o4 z4 hl4 hn4 hVl
        have hv := (BS.sv H7.out)
        have v0 := hv.cell 0
        have v1 := hv.cell 1
        have v2 := hv.cell 2
        have v3 := hv.cell 3
        have v4 := hv.cell 4
        have v5 := hv.cell 5
        have v6 := hv.cell 6
        have hz := (BS.z H7.out)
        have r0 := hz.cell 0
        have r1 := hz.cell 1
        have r2 := hz.cell 2
        have r3 := hz.cell 3
        have r4 := hz.cell 4
        have r5 := hz.cell 5
        have r6 := hz.cell 6
        have rf := hz.frozen
        clear hv hz
        go_wp2
        refine bodyPost_ret (ret_shn (B := w.heap.size) Try.results43 rfl rfl (BS.back H7.out).1) rfl ?_
        exact BS.bent H7.out (by omega) (by have := HCN.out; omega) (by have := HN4.out; omega) (by have := HNX.out; omega) HNOW.out
    · clear q0 q1
      go_wp2_with fail
      refine Calls.mono (pick_lit (fun v => -1 ≤ v ∧ v ≤ 4000000000001) Bc a len cap _ (BS.cu H3.out) _ _ 3 ?n1 ?n2 ?n3 ?q) ?_
      case n1 => rfl
      case n2 => omega
      case n3 => omega
      case q =>
        intro v hv
        simp only [List.mem_cons, List.not_mem_nil, or_false] at hv
        rcases hv with rfl | rfl | rfl
        all_goals exact ⟨_, rfl, by omega, by omega⟩
      rintro e w4 ⟨N, rfl, ⟨N0, N1⟩, c4, o4⟩
      have H4 : Hid (BS w Bc a len cap base V w4 s xb 4 cl A C L y n cy tn) := BS.only H3.out c4 o4
      obtain ⟨s', hs'⟩ : ∃ s' : Sh, (⟨s.rt, s.ov, N, s.qt, s.lim⟩ : Sh) = s' := ⟨_, rfl⟩
      have H5 : Hid (BS w Bc a len cap base V (w4.setCell ⟨V, 2, none⟩ (.int .i64 N)) s' xb 4 cl A C L y n cy tn) := BS.num H4.out s' 2 (.int .i64 N) (by rw [← hs']; rfl)
      have HNX' : Hid (-1 ≤ s'.nx ∧ s'.nx ≤ 4000000000001) := by show _ ∧ _; rw [← hs']; have := HNX.out; exact ⟨by show -1 ≤ N; omega, by show N ≤ _; omega⟩
      have vc := (BS.sv H4.out).cell 2
      have vf := (BS.sv H4.out).frozen
      clear c4 o4 hs'
      go_upto_region 13 with fail
      obtain ⟨W5, hW5⟩ : ∃ W, w4.setCell ⟨V, 2, none⟩ (.int .i64 N) = W := ⟨_, rfl⟩
      rw [hW5] at H5 ⊢
      clear hW5 vc vf H4 H3
      have hv := (BS.sv H5.out)
      have v0 := hv.cell 0
      have v1 := hv.cell 1
      have v2 := hv.cell 2
      have v3 := hv.cell 3
      have v4 := hv.cell 4
      have v5 := hv.cell 5
      have v6 := hv.cell 6
      have hz := (BS.z H5.out)
      have r0 := hz.cell 0
      have r1 := hz.cell 1
      have r2 := hz.cell 2
      have r3 := hz.cell 3
      have r4 := hz.cell 4
      have r5 := hz.cell 5
      have r6 := hz.cell 6
      have rf := hz.frozen
      clear hv hz
      go_wp2
      refine bodyPost_ret (ret_shn (B := w.heap.size) Try.results43 rfl rfl (BS.back H5.out).1) rfl ?_
      exact BS.bent H5.out (by omega) (by have := HCN.out; omega) (by have := HN4.out; omega) (HNX'.out) HNOW.out
    · clear q0 q1
      have vc := (BS.sv H3.out).cell 5
      have vf := (BS.sv H3.out).frozen
      have hVl := (BS.sv H3.out).lt
      obtain ⟨A', hA'⟩ : ∃ A' : Nat → Option Addr, (fun i => if i = 4 then none else A i) = A' := ⟨_, rfl⟩
      obtain ⟨C', hC'⟩ : ∃ C' : Nat → Nat, (fun i => if i = 4 then 0 else C i) = C' := ⟨_, rfl⟩
      obtain ⟨L', hL'⟩ : ∃ L' : Nat → Ln, (fun i => if i = 4 then emLn else L i) = L' := ⟨_, rfl⟩
      have hall : ∀ i, i < 4 → A' i = A i ∧ C' i = C i ∧ L' i = L i := fun i hi => ⟨by rw [← hA']; simp [Nat.ne_of_lt hi], by rw [← hC']; simp [Nat.ne_of_lt hi], by rw [← hL']; simp [Nat.ne_of_lt hi]⟩
      have eA : A' 4 = none := by rw [← hA']; rfl
      have eC : C' 4 = 0 := by rw [← hC']; rfl
      have eL : L' 4 = emLn := by rw [← hL']; rfl
      have HLP : Hid (LP base (w3.alloc (.cells (lnCells none 0 emLn) 53)) xb 4 cl A' C' L') := by
        have := (BS.oi (BS.alloc H3.out (.cells (lnCells none 0 emLn) 53))).lp
        unfold LP at this
        show LP _ _ _ _ _ _ _ _
        unfold LP
        rw [lnL_congr (A' := A') (C' := C') (L' := L') (fun i hi => ⟨(hall i hi).1.symm, (hall i hi).2.1.symm, (hall i hi).2.2.symm⟩)] at this
        exact this
      have HLA : Hid (LAt (w3.alloc (.cells (lnCells none 0 emLn) 53)) w3.heap.size 0 (A' 4) (C' 4) (L' 4)) := by rw [eA, eC, eL]; exact Sits.ln (Sits.new w3 (lnCells none 0 emLn) 53)
      have HALL : Hid (∀ i, i < 4 → A' i = A i ∧ C' i = C i ∧ L' i = L i) := hall
      have HEA : Hid (A' 4 = none) := eA
      have HEC : Hid (C' 4 = 0) := eC
      have HEL : Hid (L' 4 = emLn) := eL
      clear hA' hC' hL' hall eA eC eL
      go_upto_region 13 with (at_builtin; refine wpList_append_ln1 rfl _ _ rfl base xb 4 cl A' C' L' rfl HLP.out w3.heap.size rfl HLA.out (by omega) (by have := (BS.vb H3.out); simp; omega) ?_; intro g ca' w6 hl6 hg6 ho6 hgl6; have hap := BS.line (BS.alloc H3.out _) hg6 hl6 ho6 HALL.out HEA.out HEC.out (by rw [HEL.out]; rfl); have z6 := hap.1.cell 5; have f6 := hap.1.frozen; have hlz := hap.1.lt)
      have H6 := hap.2
      obtain ⟨W7, hW7⟩ : ∃ W, w6.setCell ⟨V, 5, none⟩ (.slice (some ⟨g, 0, none⟩) (4 + 1) ca') = W := ⟨_, rfl⟩
      rw [hW7] at H6
      (try rw [hW7])
      have H7 : Hid (BS w Bc a len cap base V W7 s (some ⟨g, 0, none⟩) (4 + 1) ca' A' C' L' y n cy tn) := H6
      have HCL : Hid (cntF L' (4 + 1) ≤ 1000) := by show _ ≤ _; rw [cnt_moreS (L := L) (fun i hi => by rw [(HALL.out i hi).2.2]) (by rw [HEL.out]; rfl)]; have := HCN.out; omega
      clear hap hl6 hg6 ho6 hgl6 z6 f6 hlz H6 hW7 H3 vc vf HLP HLA
      have hv := (BS.sv H7.out)
      have v0 := hv.cell 0
      have v1 := hv.cell 1
      have v2 := hv.cell 2
      have v3 := hv.cell 3
      have v4 := hv.cell 4
      have v5 := hv.cell 5
      have v6 := hv.cell 6
      have hz := (BS.z H7.out)
      have r0 := hz.cell 0
      have r1 := hz.cell 1
      have r2 := hz.cell 2
      have r3 := hz.cell 3
      have r4 := hz.cell 4
      have r5 := hz.cell 5
      have r6 := hz.cell 6
      have rf := hz.frozen
      clear hv hz
      go_wp2
      refine bodyPost_ret (ret_shn (B := w.heap.size) Try.results43 rfl rfl (BS.back H7.out).1) rfl ?_
      exact BS.bent H7.out (by omega) (HCL.out) (by have := HN4.out; omega) (by have := HNX.out; omega) HNOW.out

end Go.Proofs.Ytmjggolllijamaa

/-
  WHAT FnShapePushes, FnShapePops DRAW: what is known while it is drawn (DPS).
-/
namespace Go.Proofs.Ytmjggolllijamaa
open Go.RowKit
set_option linter.unusedVariables false

@[reducible] def SG (V : Nat) (s : Sh) (x : Option Addr) (N ca : Nat) (y : Option Addr) (n cy : Nat) (w' : World) : Prop :=
  w'.cell? ⟨V, 0, none⟩ = some (.int .i64 s.rt) ∧ w'.cell? ⟨V, 1, none⟩ = some (.int .i64 s.ov) ∧ w'.cell? ⟨V, 2, none⟩ = some (.int .i64 s.nx) ∧ w'.cell? ⟨V, 3, none⟩ = some (.int .i64 s.qt) ∧ w'.cell? ⟨V, 4, none⟩ = some (.int .i64 s.lim) ∧ w'.cell? ⟨V, 5, none⟩ = some (.slice x N ca) ∧ w'.cell? ⟨V, 6, none⟩ = some (.slice y n cy)
theorem sits_sg {w' : World} {V : Nat} {s : Sh} {x : Option Addr} {N ca : Nat} {y : Option Addr} {n cy : Nat} {t : TypeId} (h : Sits w' V (shCells s x N ca y n cy) t) : SG V s x N ca y n cy w' := ⟨h.cell 0, h.cell 1, h.cell 2, h.cell 3, h.cell 4, h.cell 5, h.cell 6⟩
theorem SG.keep {w w' : World} {V : Nat} {s : Sh} {x : Option Addr} {N ca : Nat} {y : Option Addr} {n cy : Nat} (h : SG V s x N ca y n cy w) (hk : w'.heap[V]? = w.heap[V]?) : SG V s x N ca y n cy w' := by
  have e : ∀ k, w'.cell? ⟨V, k, none⟩ = w.cell? ⟨V, k, none⟩ := fun k => World.cell?_of_block hk
  obtain ⟨h0, h1, h2, h3, h4, h5, h6⟩ := h
  exact ⟨(e _).trans h0, (e _).trans h1, (e _).trans h2, (e _).trans h3, (e _).trans h4, (e _).trans h5, (e _).trans h6⟩
/-- A Shape and a packet, handed back. -/
theorem ret_sp {fn : Func} {tmps : Array Value} {W : World} {i j B C : Nat} {s : Sh} {x : Option Addr} {N ca : Nat} {y : Option Addr} {n cy : Nat} {p : Pk} {t t' : TypeId} (hr : fn.results = #[.cell i 29, .cell j 31]) (hi : tmps[i]?.getD undef = .pointer (some ⟨B, 0, none⟩)) (hj : tmps[j]?.getD undef = .pointer (some ⟨C, 0, none⟩)) (hs : Sits W B (shCells s x N ca y n cy) t) (h2 : Sits W C (pkCells p) t') : (results fn tmps).run Try.prog W = .ok (.tuple #[shVal s x N ca y n cy, p.val]) W := by
  have c0 : W.cell? ⟨B, 0, none⟩ = some (.int .i64 s.rt) := hs.cell 0
  have c1 : W.cell? ⟨B, 1, none⟩ = some (.int .i64 s.ov) := hs.cell 1
  have c2 : W.cell? ⟨B, 2, none⟩ = some (.int .i64 s.nx) := hs.cell 2
  have c3 : W.cell? ⟨B, 3, none⟩ = some (.int .i64 s.qt) := hs.cell 3
  have c4 : W.cell? ⟨B, 4, none⟩ = some (.int .i64 s.lim) := hs.cell 4
  have c5 : W.cell? ⟨B, 5, none⟩ = some (.slice x N ca) := hs.cell 5
  have c6 : W.cell? ⟨B, 6, none⟩ = some (.slice y n cy) := hs.cell 6
  have e0 : W.cell? ⟨C, 0, none⟩ = some (.int .i64 p.id) := h2.cell 0
  have e1 : W.cell? ⟨C, 1, none⟩ = some (.int .i64 p.flow) := h2.cell 1
  have e2 : W.cell? ⟨C, 2, none⟩ = some (.int .i64 p.host) := h2.cell 2
  have e3 : W.cell? ⟨C, 3, none⟩ = some (.int .i64 p.size) := h2.cell 3
  have e4 : W.cell? ⟨C, 4, none⟩ = some (.int .i64 p.tm) := h2.cell 4
  have e5 : W.cell? ⟨C, 5, none⟩ = some (.int .i64 p.ecn) := h2.cell 5
  simp [results, hr, hi, hj, go_sem, c0, c1, c2, c3, c4, c5, c6, e0, e1, e2, e3, e4, e5, Pk.val, shVal]

/-- All that is known while the region runs: two boxes of answers at w's end, the cursor's box B above them, all lists from base on. -/
structure DPS (w : World) (B V : Nat) (a : Option Addr) (len cap : Nat) (s : Sh) (x : Option Addr) (N ca : Nat) (A : Nat → Option Addr) (C : Nat → Nat) (L : Nat → Ln) (y : Option Addr) (n cy : Nat) (tn : Nat → Int) (base : Nat) (W : World) : Prop where
  cur : Cur W B a len cap
  fo : Sits W V (shCells s x N ca y n cy) 29
  r1 : Sits W w.heap.size shZero 29
  r2 : Sits W (w.heap.size + 1) (pkCells pk0) 31
  oi : OwnI base W x N ca A C L y n cy tn
  bel : Below w.heap.size w W
variable {w : World} {B V : Nat} {a : Option Addr} {len cap : Nat} {s : Sh} {x : Option Addr} {N ca : Nat} {A : Nat → Option Addr} {C : Nat → Nat} {L : Nat → Ln} {y : Option Addr} {n cy : Nat} {tn : Nat → Int} {base : Nat} {W W' : World}
theorem DPS.below (h : DPS w B V a len cap s x N ca A C L y n cy tn base W) (hb : Below W.heap.size W W') : DPS w B V a len cap s x N ca A C L y n cy tn base W' :=
  ⟨cur_low h.cur hb h.cur.1, h.fo.below hb h.fo.lt, h.r1.below hb h.r1.lt, h.r2.below hb h.r2.lt, h.oi.below hb, h.bel.trans (hb.mono h.bel.size)⟩
theorem DPS.drew (h : DPS w B V a len cap s x N ca A C L y n cy tn base W) : DPS w B V a len cap s x N ca A C L y n cy tn base W.drew := h.below ((Below.refl _ _).drew)
theorem DPS.alloc (h : DPS w B V a len cap s x N ca A C L y n cy tn base W) (c : Array Value) (t : TypeId) : DPS w B V a len cap s x N ca A C L y n cy tn base (W.alloc (.cells c t)) := h.below ((Below.refl _ _).alloc (Nat.le_refl _) _)
theorem DPS.only (h : DPS w B V a len cap s x N ca A C L y n cy tn base W) (h1 : w.heap.size + 1 < B) (h2 : B < V) (h3 : B < base) (hc : Cur W' B a len cap) (ho : Only B W W') : DPS w B V a len cap s x N ca A C L y n cy tn base W' :=
  ⟨hc, h.fo.only ho (by omega), h.r1.only ho (by omega), h.r2.only ho (by omega), h.oi.keep fun j h4 h5 => ho.block j h5 (by omega), h.bel.trans (ho.below (by omega) h.bel.size)⟩
theorem sits_put7 {t : TypeId} {c : Array Value} (h : Sits W V c t) {P : Nat} (hne : V ≠ P) (s : Sh) (x : Option Addr) (N ca : Nat) (y : Option Addr) (n cy : Nat) : Sits (set7 W P s x N ca y n cy) V c t := (set7_keep hne _ _ _ _ _ _ _).trans h
theorem sits_put6' {t : TypeId} {c : Array Value} (h : Sits W V c t) {P : Nat} (hne : V ≠ P) (p : Pk) : Sits (set6 W P p) V c t := (set6_keep' hne p).trans h
theorem OwnI.put7 (h : OwnI base W x N ca A C L y n cy tn) {P : Nat} (hP : P < base) (s' : Sh) (x' : Option Addr) (N' ca' : Nat) (y' : Option Addr) (n' cy' : Nat) : OwnI base (set7 W P s' x' N' ca' y' n' cy') x N ca A C L y n cy tn :=
  ((((((h.far hP _ _).far hP _ _).far hP _ _).far hP _ _).far hP _ _).far hP _ _).far hP _ _
theorem OwnI.put6 (h : OwnI base W x N ca A C L y n cy tn) {P : Nat} (hP : P < base) (p : Pk) : OwnI base (set6 W P p) x N ca A C L y n cy tn :=
  (((((h.far hP _ _).far hP _ _).far hP _ _).far hP _ _).far hP _ _).far hP _ _
theorem bel_put7 {c : Nat} (h : Below c w W) {P : Nat} (hP : c ≤ P) (s' : Sh) (x' : Option Addr) (N' ca' : Nat) (y' : Option Addr) (n' cy' : Nat) : Below c w (set7 W P s' x' N' ca' y' n' cy') :=
  ((((((h.setCell hP _).setCell hP _).setCell hP _).setCell hP _).setCell hP _).setCell hP _).setCell hP _
theorem bel_put6 {c : Nat} (h : Below c w W) {P : Nat} (hP : c ≤ P) (p : Pk) : Below c w (set6 W P p) :=
  (((((h.setCell hP _).setCell hP _).setCell hP _).setCell hP _).setCell hP _).setCell hP _
/-- Both answers stored, one behind the other, in either order. -/
theorem DPS.out76 (h : DPS w B V a len cap s x N ca A C L y n cy tn base W) (hb : w.heap.size + 1 < base) (p : Pk) :
    Sits (set6 (set7 W w.heap.size s x N ca y n cy) (w.heap.size + 1) p) w.heap.size (shCells s x N ca y n cy) 29 ∧ Sits (set6 (set7 W w.heap.size s x N ca y n cy) (w.heap.size + 1) p) (w.heap.size + 1) (pkCells p) 31 ∧ OwnI base (set6 (set7 W w.heap.size s x N ca y n cy) (w.heap.size + 1) p) x N ca A C L y n cy tn ∧ Below w.heap.size w (set6 (set7 W w.heap.size s x N ca y n cy) (w.heap.size + 1) p) :=
  ⟨sits_put6' (sh_put7 h.r1 _ _ _ _ _ _ _) (by omega) p, pk_store (sits_put7 h.r2 (by omega) _ _ _ _ _ _ _), (h.oi.put7 (by omega) _ _ _ _ _ _ _).put6 hb p, bel_put6 (bel_put7 h.bel (Nat.le_refl _) _ _ _ _ _ _ _) (Nat.le_succ _) p⟩
theorem DPS.out67 (h : DPS w B V a len cap s x N ca A C L y n cy tn base W) (hb : w.heap.size + 1 < base) (p : Pk) :
    Sits (set7 (set6 W (w.heap.size + 1) p) w.heap.size s x N ca y n cy) w.heap.size (shCells s x N ca y n cy) 29 ∧ Sits (set7 (set6 W (w.heap.size + 1) p) w.heap.size s x N ca y n cy) (w.heap.size + 1) (pkCells p) 31 ∧ OwnI base (set7 (set6 W (w.heap.size + 1) p) w.heap.size s x N ca y n cy) x N ca A C L y n cy tn ∧ Below w.heap.size w (set7 (set6 W (w.heap.size + 1) p) w.heap.size s x N ca y n cy) :=
  ⟨sh_put7 (sits_put6' h.r1 (by omega) p) _ _ _ _ _ _ _, sits_put7 (pk_store h.r2) (by omega) _ _ _ _ _ _ _, (h.oi.put6 hb p).put7 (by omega) _ _ _ _ _ _ _, bel_put7 (bel_put6 h.bel (Nat.le_succ _) p) (Nat.le_refl _) _ _ _ _ _ _ _⟩

end Go.Proofs.Ytmjggolllijamaa

/-
  WHAT FnShapePushes DRAWS: DrawShapePush: a Shape and a packet.
-/
namespace Go.Proofs.Ytmjggolllijamaa
open Go.RowKit
set_option linter.unusedVariables false

set_option maxRecDepth 100000 in
set_option maxHeartbeats 40000000 in
theorem drawShapePush (a : Option Addr) (len cap : Nat) (w : World) (hl : len ≤ 9223372036854775807) (hcode : Code w w.heap.size a len) :
    Calls Try.prog 14 #[.slice a len cap] w fun e w' => ∃ (s : Sh) (x : Option Addr) (N ca : Nat) (A : Nat → Option Addr) (C : Nat → Nat) (L : Nat → Ln) (y : Option Addr) (n cy : Nat) (tn : Nat → Int) (p : Pk), e = .returned (.tuple #[shVal s x N ca y n cy, p.val]) ∧ OwnI w.heap.size w' x N ca A C L y n cy tn ∧ N ≤ 5 ∧ cntF L N ≤ 1000 ∧ n ≤ 5 ∧ (-1 ≤ s.nx ∧ s.nx ≤ 4000000000001) ∧ Below w.heap.size w w' := by
  obtain ⟨W, hW⟩ : ∃ x, (w.alloc (.cells shZero 29)).alloc (.cells (pkCells pk0) 31) = x := ⟨_, rfl⟩
  have hsz : W.heap.size = w.heap.size + 1 + 1 := by rw [← hW]; simp
  have y0 : Sits W w.heap.size shZero 29 := by rw [← hW]; exact (Sits.new _ _ _).alloc _
  have q0 : Sits W (w.heap.size + 1) (pkCells pk0) 31 := by rw [← hW]; exact Sits.new' (by simp)
  have b0 : Below w.heap.size w W := by rw [← hW]; exact ((Below.refl _ _).alloc (Nat.le_refl _) _).alloc (by simp) _
  have hcd : Code W W.heap.size a len := by
    rcases hcode with h | ⟨b, off, ha, hb, hk⟩
    · exact .inl h
    · refine .inr ⟨b, off, ha, by omega, fun k hk' => ?_⟩
      obtain ⟨v, v0, v1, hv⟩ := hk k hk'
      exact ⟨v, v0, v1, (b0.cell (p := ⟨b, off + k, none⟩) (by show b < _; omega)).trans hv⟩
  clear hcode
  go_enter Try.func14, Try.ntmps14
  go_wp2_with fail
  (try rw [hW])
  refine (new_any a len cap W hl hcd).mono ?_
  rintro e w1 ⟨rfl, c1, b1⟩
  obtain ⟨B, hB⟩ : ∃ B, W.heap.size = B := ⟨_, rfl⟩
  rw [hB] at c1 ⊢
  have y1 := y0.below b1 y0.lt
  have q1 := q0.below b1 q0.lt
  replace b1 := b0.trans (b1.mono b0.size)
  have lB : w.heap.size + 1 < B := by omega
  clear hcd hW b0 hB y0 q0 hsz
  have hB1 := c1.1
  have C1 : Hid (Cur w1 B a len cap) := c1
  have Y1 : Hid (Sits w1 w.heap.size shZero 29) := y1
  have Q1 : Hid (Sits w1 (w.heap.size + 1) (pkCells pk0) 31) := q1
  have B1 : Hid (Below w.heap.size w w1) := b1
  clear c1 y1 q1 b1
  go_wp2_with fail
  refine (l8bent_any B a len cap _ C1.out).mono ?_
  rintro e w2 ⟨s, x, N, ca, A, C, L, y, n, cy, tn, now, rfl, oi2, hN, hcn, hn, hnx, hnow, c2, o2⟩
  have hlB : B < w2.heap.size := c2.1
  go_upto_region 3 with fail
  obtain ⟨V, hV⟩ : ∃ V, w2.heap.size = V := ⟨_, rfl⟩
  obtain ⟨wv, hwv⟩ : ∃ x', w2.alloc (.cells (shCells s x N ca y n cy) 29) = x' := ⟨_, rfl⟩
  obtain ⟨base, hbase⟩ : ∃ L, w1.heap.size + 1 = L := ⟨_, rfl⟩
  have hVB : B < V := by rw [← hV]; exact hlB
  have hLB : B < base := by omega
  have HD : Hid (DPS w B V a len cap s x N ca A C L y n cy tn base wv) := by
    show DPS w B V a len cap s x N ca A C L y n cy tn base wv
    rw [← hwv]
    rw [hbase] at oi2
    exact ⟨c2.alloc _ _, Sits.new' hV, (Sits.only Y1.out o2 (by omega)).alloc _, (Sits.only Q1.out o2 (by omega)).alloc _, oi2.below ((Below.refl _ _).alloc (Nat.le_refl _) _), ((B1.out).trans (o2.below (by omega) (B1.out).size)).alloc (by have := (B1.out).size; have := o2.size; omega) _⟩
  have hlv : V < wv.heap.size := Sits.lt (HD.out).fo
  rw [hwv, hV]
  clear hwv hV c2 oi2 o2 hlB hB1 hbase C1 Y1 Q1 B1
  have HNX : Hid (-1 ≤ s.nx ∧ s.nx ≤ 4000000000001) := hnx
  have HNW : Hid (0 ≤ now ∧ now ≤ 198000000) := hnow
  clear hnx hnow
  have HK : Hid (∀ w' : World, w'.heap[V]? = wv.heap[V]? → SG V s x N ca y n cy w') := fun w' h => sits_sg (h.trans (HD.out).fo)
  have hVd : wv.drew.heap[V]? = wv.heap[V]? := rfl
  have hVa : ∀ o, (wv.alloc o).drew.heap[V]? = wv.heap[V]? := fun o => (((Below.refl wv.heap.size wv).alloc (Nat.le_refl _) o).drew).block V hlv
  go_region_held3 (fun w' => SG V s x N ca y n cy w') (first | (with_reducible exact HK.out _ hVd) | (with_reducible exact HK.out _ (hVa _)) | (with_reducible exact HK.out _ hV3) | (with_reducible exact HK.out _ hV5) | (with_reducible exact HK.out _ hV6) | (with_reducible exact HK.out _ hV7) | (with_reducible exact HK.out _ ((set6_keep' hCV ⟨i7, f7, h7, s7, t7, e7⟩).trans hV7)) | (with_reducible exact HK.out _ ((set7_keep hAV s x N ca y n cy).trans hV7)) | (with_reducible exact HK.out _ ((set6_keep' hCV ⟨i7, f7, h7, s7, t7, e7⟩).trans ((set7_keep hAV s x N ca y n cy).trans hV7))) | (with_reducible exact HK.out _ ((set7_keep hAV s x N ca y n cy).trans ((set6_keep' hCV ⟨i7, f7, h7, s7, t7, e7⟩).trans hV7))) | fail)
    (first | (go_at_call 45; refine Calls.mono (pick4q (fun v => 1 ≤ v ∧ v ≤ 99) B a len cap _ (DPS.cur (DPS.drew (DPS.alloc HD.out _ _))) _ _ 99 99 99 1 (Sits.drew (Sits.new' rfl)) (by omega) (by omega) (by omega) (by omega) (by omega)) ?_; rintro e w3 ⟨id, rfl, ⟨id0, id1⟩, c3, o3⟩; have H3 : Hid (DPS w B V a len cap s x N ca A C L y n cy tn base w3) := DPS.only (DPS.drew (DPS.alloc HD.out _ _)) lB hVB hLB c3 o3; have hV3 : w3.heap[V]? = wv.heap[V]? := (DPS.fo H3.out).trans ((DPS.fo HD.out).symm); clear c3 o3)
            | (go_at_call 46; refine (below_any B a len cap _ (DPS.cur H5.out) 2 (by omega) (by omega)).mono ?_; rintro e w6 ⟨d2, rfl, d20, d21, c6, o6⟩; have H6 : Hid (DPS w B V a len cap s x N ca A C L y n cy tn base w6) := DPS.only H5.out lB hVB hLB c6 o6; have hV6 : w6.heap[V]? = wv.heap[V]? := (DPS.fo H6.out).trans ((DPS.fo HD.out).symm); clear c6 o6)
            | (go_at_call 46; refine (below_any B a len cap _ (DPS.cur H3.out) 3 (by omega) (by omega)).mono ?_; rintro e w5 ⟨d1, rfl, d10, d11, c5, o5⟩; have H5 : Hid (DPS w B V a len cap s x N ca A C L y n cy tn base w5) := DPS.only H3.out lB hVB hLB c5 o5; have hV5 : w5.heap[V]? = wv.heap[V]? := (DPS.fo H5.out).trans ((DPS.fo HD.out).symm); clear c5 o5)
            | (go_at_call 44; refine (l3pkt_any B a len cap _ (DPS.cur H6.out) _ _).mono ?_; rintro e w7 ⟨⟨i7, f7, h7, s7, t7, e7⟩, rfl, hp7, c7, o7⟩; have H7 : Hid (DPS w B V a len cap s x N ca A C L y n cy tn base w7) := DPS.only H6.out lB hVB hLB c7 o7; have hV7 : w7.heap[V]? = wv.heap[V]? := (DPS.fo H7.out).trans ((DPS.fo HD.out).symm); have hAV : V ≠ w.heap.size := (by omega); have hCV : V ≠ w.heap.size + 1 := (by omega); have u0 := (DPS.r1 H7.out).cell 0; have u1 := (DPS.r1 H7.out).cell 1; have u2 := (DPS.r1 H7.out).cell 2; have u3 := (DPS.r1 H7.out).cell 3; have u4 := (DPS.r1 H7.out).cell 4; have u5 := (DPS.r1 H7.out).cell 5; have u6 := (DPS.r1 H7.out).cell 6; have v0 := (DPS.r2 H7.out).cell 0; have v1 := (DPS.r2 H7.out).cell 1; have v2 := (DPS.r2 H7.out).cell 2; have v3 := (DPS.r2 H7.out).cell 3; have v4 := (DPS.r2 H7.out).cell 4; have v5 := (DPS.r2 H7.out).cell 5; have fz := (DPS.r1 H7.out).frozen; have fy := (DPS.r2 H7.out).frozen; clear hp7 c7 o7))
  all_goals go_wp2
  all_goals
    first
    | exact bodyPost_ret (ret_sp (B := w.heap.size) (C := w.heap.size + 1) (p := ⟨i7, f7, h7, s7, t7, e7⟩) Try.results14 rfl rfl (DPS.out76 H7.out (by omega) ⟨i7, f7, h7, s7, t7, e7⟩).1 (DPS.out76 H7.out (by omega) ⟨i7, f7, h7, s7, t7, e7⟩).2.1) rfl ⟨s, x, N, ca, A, C, L, y, n, cy, tn, ⟨i7, f7, h7, s7, t7, e7⟩, rfl, OwnI.mono (DPS.out76 H7.out (by omega) ⟨i7, f7, h7, s7, t7, e7⟩).2.2.1 (by omega), hN, hcn, hn, HNX.out, (DPS.out76 H7.out (by omega) ⟨i7, f7, h7, s7, t7, e7⟩).2.2.2⟩
    | exact bodyPost_ret (ret_sp (B := w.heap.size) (C := w.heap.size + 1) (p := ⟨i7, f7, h7, s7, t7, e7⟩) Try.results14 rfl rfl (DPS.out67 H7.out (by omega) ⟨i7, f7, h7, s7, t7, e7⟩).1 (DPS.out67 H7.out (by omega) ⟨i7, f7, h7, s7, t7, e7⟩).2.1) rfl ⟨s, x, N, ca, A, C, L, y, n, cy, tn, ⟨i7, f7, h7, s7, t7, e7⟩, rfl, OwnI.mono (DPS.out67 H7.out (by omega) ⟨i7, f7, h7, s7, t7, e7⟩).2.2.1 (by omega), hN, hcn, hn, HNX.out, (DPS.out67 H7.out (by omega) ⟨i7, f7, h7, s7, t7, e7⟩).2.2.2⟩

end Go.Proofs.Ytmjggolllijamaa

/-
  WHAT FnShapePops DRAWS: DrawShapePop: a Shape and a moment.
-/
namespace Go.Proofs.Ytmjggolllijamaa
open Go.RowKit
set_option linter.unusedVariables false

theorem pick6s (Q : Int → Prop) (B : Nat) (a : Option Addr) (len cap : Nat) (w : World) (hc : Cur w B a len cap) (L : Nat) (t : TypeId) (x y z u v r : Int) (hs : Sits w L #[.int .i64 x, .int .i64 y, .int .i64 z, .int .i64 u, .int .i64 v, .int .i64 r] t) (hne : L ≠ B) (hx : Q x) (hy : Q y) (hz : Q z) (hu : Q u) (hv : Q v) (hr : Q r) :
    Calls Try.prog 45 #[.pointer (some ⟨B, 0, none⟩), .slice (some ⟨L, 0, none⟩) 6 6] w fun e w' => ∃ x : Int, e = .returned (.int .i64 x) ∧ Q x ∧ Cur w' B a len cap ∧ Only B w w' := by
  refine pick_sits Q B a len cap w hc L 6 _ t hs hne rfl (by omega) (by omega) ?_
  intro k hk
  simp only [List.mem_cons, List.not_mem_nil, or_false] at hk
  rcases hk with rfl | rfl | rfl | rfl | rfl | rfl
  · exact ⟨_, rfl, hx⟩
  · exact ⟨_, rfl, hy⟩
  · exact ⟨_, rfl, hz⟩
  · exact ⟨_, rfl, hu⟩
  · exact ⟨_, rfl, hv⟩
  · exact ⟨_, rfl, hr⟩
/-- The same with one box of an answer. -/
structure DPS1 (w : World) (B V : Nat) (a : Option Addr) (len cap : Nat) (s : Sh) (x : Option Addr) (N ca : Nat) (A : Nat → Option Addr) (C : Nat → Nat) (L : Nat → Ln) (y : Option Addr) (n cy : Nat) (tn : Nat → Int) (base : Nat) (W : World) : Prop where
  cur : Cur W B a len cap
  fo : Sits W V (shCells s x N ca y n cy) 29
  r1 : Sits W w.heap.size shZero 29
  oi : OwnI base W x N ca A C L y n cy tn
  bel : Below w.heap.size w W
theorem DPS1.below {w : World} {B V : Nat} {a : Option Addr} {len cap : Nat} {s : Sh} {x : Option Addr} {N ca : Nat} {A : Nat → Option Addr} {C : Nat → Nat} {L : Nat → Ln} {y : Option Addr} {n cy : Nat} {tn : Nat → Int} {base : Nat} {W W' : World} (h : DPS1 w B V a len cap s x N ca A C L y n cy tn base W) (hb : Below W.heap.size W W') : DPS1 w B V a len cap s x N ca A C L y n cy tn base W' :=
  ⟨cur_low h.cur hb h.cur.1, h.fo.below hb h.fo.lt, h.r1.below hb h.r1.lt, h.oi.below hb, h.bel.trans (hb.mono h.bel.size)⟩
theorem DPS1.drew {w : World} {B V : Nat} {a : Option Addr} {len cap : Nat} {s : Sh} {x : Option Addr} {N ca : Nat} {A : Nat → Option Addr} {C : Nat → Nat} {L : Nat → Ln} {y : Option Addr} {n cy : Nat} {tn : Nat → Int} {base : Nat} {W : World} (h : DPS1 w B V a len cap s x N ca A C L y n cy tn base W) : DPS1 w B V a len cap s x N ca A C L y n cy tn base W.drew := h.below ((Below.refl _ _).drew)
theorem DPS1.alloc {w : World} {B V : Nat} {a : Option Addr} {len cap : Nat} {s : Sh} {x : Option Addr} {N ca : Nat} {A : Nat → Option Addr} {C : Nat → Nat} {L : Nat → Ln} {y : Option Addr} {n cy : Nat} {tn : Nat → Int} {base : Nat} {W : World} (h : DPS1 w B V a len cap s x N ca A C L y n cy tn base W) (c : Array Value) (t : TypeId) : DPS1 w B V a len cap s x N ca A C L y n cy tn base (W.alloc (.cells c t)) := h.below ((Below.refl _ _).alloc (Nat.le_refl _) _)
theorem DPS1.only {w : World} {B V : Nat} {a : Option Addr} {len cap : Nat} {s : Sh} {x : Option Addr} {N ca : Nat} {A : Nat → Option Addr} {C : Nat → Nat} {L : Nat → Ln} {y : Option Addr} {n cy : Nat} {tn : Nat → Int} {base : Nat} {W W' : World} (h : DPS1 w B V a len cap s x N ca A C L y n cy tn base W) (h1 : w.heap.size < B) (h2 : B < V) (h3 : B < base) (hc : Cur W' B a len cap) (ho : Only B W W') : DPS1 w B V a len cap s x N ca A C L y n cy tn base W' :=
  ⟨hc, h.fo.only ho (by omega), h.r1.only ho (by omega), h.oi.keep fun j h4 h5 => ho.block j h5 (by omega), h.bel.trans (ho.below (by omega) h.bel.size)⟩
theorem DPS1.out7 {w : World} {B V : Nat} {a : Option Addr} {len cap : Nat} {s : Sh} {x : Option Addr} {N ca : Nat} {A : Nat → Option Addr} {C : Nat → Nat} {L : Nat → Ln} {y : Option Addr} {n cy : Nat} {tn : Nat → Int} {base : Nat} {W : World} (h : DPS1 w B V a len cap s x N ca A C L y n cy tn base W) (hb : w.heap.size < base) :
    Sits (set7 W w.heap.size s x N ca y n cy) w.heap.size (shCells s x N ca y n cy) 29 ∧ OwnI base (set7 W w.heap.size s x N ca y n cy) x N ca A C L y n cy tn ∧ Below w.heap.size w (set7 W w.heap.size s x N ca y n cy) :=
  ⟨sh_put7 h.r1 _ _ _ _ _ _ _, h.oi.put7 (by omega) _ _ _ _ _ _ _, bel_put7 h.bel (Nat.le_refl _) _ _ _ _ _ _ _⟩

set_option maxRecDepth 100000 in
set_option maxHeartbeats 40000000 in
theorem drawShapePop (a : Option Addr) (len cap : Nat) (w : World) (hl : len ≤ 9223372036854775807) (hcode : Code w w.heap.size a len) :
    Calls Try.prog 22 #[.slice a len cap] w fun e w' => ∃ (s : Sh) (x : Option Addr) (N ca : Nat) (A : Nat → Option Addr) (C : Nat → Nat) (L : Nat → Ln) (y : Option Addr) (n cy : Nat) (tn : Nat → Int) (z : Int), e = .returned (.tuple #[shVal s x N ca y n cy, .int .i64 z]) ∧ (-2 ≤ z ∧ z ≤ 4000000000002) ∧ OwnI w.heap.size w' x N ca A C L y n cy tn ∧ N ≤ 5 ∧ cntF L N ≤ 1000 ∧ n ≤ 5 ∧ (-1 ≤ s.nx ∧ s.nx ≤ 4000000000001) ∧ Below w.heap.size w w' := by
  obtain ⟨W, hW⟩ : ∃ x, w.alloc (.cells shZero 29) = x := ⟨_, rfl⟩
  have hsz : W.heap.size = w.heap.size + 1 := by rw [← hW]; simp
  have y0 : Sits W w.heap.size shZero 29 := by rw [← hW]; exact Sits.new _ _ _
  have b0 : Below w.heap.size w W := by rw [← hW]; exact (Below.refl _ _).alloc (Nat.le_refl _) _
  have hcd : Code W W.heap.size a len := by
    rcases hcode with h | ⟨b, off, ha, hb, hk⟩
    · exact .inl h
    · refine .inr ⟨b, off, ha, by omega, fun k hk' => ?_⟩
      obtain ⟨v, v0, v1, hv⟩ := hk k hk'
      exact ⟨v, v0, v1, (b0.cell (p := ⟨b, off + k, none⟩) (by show b < _; omega)).trans hv⟩
  clear hcode
  go_enter Try.func22, Try.ntmps22
  go_wp2_with fail
  (try rw [hW])
  refine (new_any a len cap W hl hcd).mono ?_
  rintro e w1 ⟨rfl, c1, b1⟩
  obtain ⟨B, hB⟩ : ∃ B, W.heap.size = B := ⟨_, rfl⟩
  rw [hB] at c1 ⊢
  have y1 := y0.below b1 y0.lt
  replace b1 := b0.trans (b1.mono b0.size)
  have lB : w.heap.size < B := by omega
  clear hcd hW b0 hB y0 hsz
  have hB1 := c1.1
  have C1 : Hid (Cur w1 B a len cap) := c1
  have Y1 : Hid (Sits w1 w.heap.size shZero 29) := y1
  have B1 : Hid (Below w.heap.size w w1) := b1
  clear c1 y1 b1
  go_wp2_with fail
  refine (l8bent_any B a len cap _ C1.out).mono ?_
  rintro e w2 ⟨s, x, N, ca, A, C, L, y, n, cy, tn, now, rfl, oi2, hN, hcn, hn, hnx, hnow, c2, o2⟩
  have hlB : B < w2.heap.size := c2.1
  go_upto_region 3 with fail
  obtain ⟨V, hV⟩ : ∃ V, w2.heap.size = V := ⟨_, rfl⟩
  obtain ⟨wv, hwv⟩ : ∃ x', w2.alloc (.cells (shCells s x N ca y n cy) 29) = x' := ⟨_, rfl⟩
  obtain ⟨base, hbase⟩ : ∃ L, w1.heap.size + 1 = L := ⟨_, rfl⟩
  have hVB : B < V := by rw [← hV]; exact hlB
  have hLB : B < base := by omega
  have HD : Hid (DPS1 w B V a len cap s x N ca A C L y n cy tn base wv) := by
    show DPS1 w B V a len cap s x N ca A C L y n cy tn base wv
    rw [← hwv]
    rw [hbase] at oi2
    exact ⟨c2.alloc _ _, Sits.new' hV, (Sits.only Y1.out o2 (by omega)).alloc _, oi2.below ((Below.refl _ _).alloc (Nat.le_refl _) _), ((B1.out).trans (o2.below (by omega) (B1.out).size)).alloc (by have := (B1.out).size; have := o2.size; omega) _⟩
  have hlv : V < wv.heap.size := Sits.lt (HD.out).fo
  rw [hwv, hV]
  clear hwv hV c2 oi2 o2 hlB hB1 hbase C1 Y1 B1
  have HNX : Hid (-1 ≤ s.nx ∧ s.nx ≤ 4000000000001) := hnx
  have HNW : Hid (0 ≤ now ∧ now ≤ 198000000) := hnow
  clear hnx hnow
  have HK : Hid (∀ w' : World, w'.heap[V]? = wv.heap[V]? → SG V s x N ca y n cy w') := fun w' h => sits_sg (h.trans (HD.out).fo)
  have hVd : wv.drew.heap[V]? = wv.heap[V]? := rfl
  have hVa : ∀ o, (wv.alloc o).drew.heap[V]? = wv.heap[V]? := fun o => (((Below.refl wv.heap.size wv).alloc (Nat.le_refl _) o).drew).block V hlv
  have hw1 : IntKind.i64.wrap (s.nx - 1) = s.nx - 1 := by have := HNX.out; exact wrap_in (by omega) (by omega)
  have hw2 : IntKind.i64.wrap (now + 5000000) = now + 5000000 := by have := HNW.out; exact wrap_in (by omega) (by omega)
  have hw3 : IntKind.i64.wrap (s.nx + 1) = s.nx + 1 := by have := HNX.out; exact wrap_in (by omega) (by omega)
  have HW1 : Hid (IntKind.i64.wrap (s.nx - 1) = s.nx - 1) := hw1
  have HW2 : Hid (IntKind.i64.wrap (now + 5000000) = now + 5000000) := hw2
  have HW3 : Hid (IntKind.i64.wrap (s.nx + 1) = s.nx + 1) := hw3
  clear hw1 hw2 hw3
  go_region_held3 (fun w' => SG V s x N ca y n cy w') (first | (with_reducible exact HK.out _ hVd) | (with_reducible exact HK.out _ (hVa _)) | (with_reducible exact HK.out _ hV3) | (with_reducible exact HK.out _ ((set7_keep hAV s x N ca y n cy).trans hV3)) | fail)
    (first | (go_at_call 45; refine Calls.mono (pick6s (fun v => -2 ≤ v ∧ v ≤ 4000000000002) B a len cap _ (DPS1.cur (DPS1.drew (DPS1.alloc HD.out _ _))) _ _ now s.nx (IntKind.i64.wrap (s.nx - 1)) (IntKind.i64.wrap (now + 5000000)) (IntKind.i64.wrap (s.nx + 1)) (-1) (Sits.drew (Sits.new' rfl)) (by omega) (by have := HNW.out; omega) (by have := HNX.out; omega) (by rw [HW1.out]; have := HNX.out; omega) (by rw [HW2.out]; have := HNW.out; omega) (by rw [HW3.out]; have := HNX.out; omega) (by omega)) ?_; rintro e w3 ⟨z, rfl, ⟨z0, z1⟩, c3, o3⟩; have H3 : Hid (DPS1 w B V a len cap s x N ca A C L y n cy tn base w3) := DPS1.only (DPS1.drew (DPS1.alloc HD.out _ _)) lB hVB hLB c3 o3; have hV3 : w3.heap[V]? = wv.heap[V]? := (DPS1.fo H3.out).trans ((DPS1.fo HD.out).symm); have hAV : V ≠ w.heap.size := (by omega); have u0 := (DPS1.r1 H3.out).cell 0; have u1 := (DPS1.r1 H3.out).cell 1; have u2 := (DPS1.r1 H3.out).cell 2; have u3 := (DPS1.r1 H3.out).cell 3; have u4 := (DPS1.r1 H3.out).cell 4; have u5 := (DPS1.r1 H3.out).cell 5; have u6 := (DPS1.r1 H3.out).cell 6; have fz := (DPS1.r1 H3.out).frozen; have HZ : Hid (-2 ≤ z ∧ z ≤ 4000000000002) := ⟨z0, z1⟩; clear c3 o3 z0 z1))
  all_goals go_wp2
  all_goals
    refine bodyPost_ret (ret_shn (B := w.heap.size) Try.results22 rfl rfl (DPS1.out7 H3.out (by omega)).1) rfl ?_
    exact ⟨s, x, N, ca, A, C, L, y, n, cy, tn, z, rfl, HZ.out, OwnI.mono (DPS1.out7 H3.out (by omega)).2.1 (by omega), hN, hcn, hn, HNX.out, (DPS1.out7 H3.out (by omega)).2.2⟩

end Go.Proofs.Ytmjggolllijamaa

/-
  WHAT THE LAW OF ShapePush WANTS: both sides in one form, whether the arguments are well or not; marks.
-/
namespace Go.Proofs.Ytmjggolllijamaa
open Go.RowKit
set_option linter.unusedVariables false

def spS (s : Sh) (N : Nat) (L : Nat → Ln) (ts : List Int) (p : Pk) : Sh := if mayB s N L ts p then s else ⟨0, 0, 0, 0, 0⟩
def spN (s : Sh) (N : Nat) (L : Nat → Ln) (ts : List Int) (p : Pk) : Nat := if mayB s N L ts p then 4 else 0
def spT (s : Sh) (N : Nat) (L : Nat → Ln) (ts : List Int) (p : Pk) : List Int := if mayB s N L ts p then outT s L ts p else []
def spB (s : Sh) (N : Nat) (L : Nat → Ln) (ts : List Int) (p : Pk) : Bool := mayB s N L ts p && shpB s L p
def seq (l : List Int) : Nat → Int := fun i => l.getD i 0
theorem seq_of {n : Nat} {f : Nat → Int} {l : List Int} (h : (List.range n).map f = l) : n = l.length ∧ ∀ i, i < n → f i = seq l i := by
  subst h
  refine ⟨by simp, fun i hi => ?_⟩
  simp [seq, List.getD, hi]
theorem Row.congr' {w : World} {a : Option Addr} {n : Nat} {f g : Nat → Int} (h : Row .i64 w a n f) (e : ∀ i, i < n → f i = g i) : Row .i64 w a n g := by
  rcases h with h | ⟨b, off, ha, hb, hc⟩
  · exact .inl h
  · exact .inr ⟨b, off, ha, hb, fun i hi => by rw [← e i hi]; exact hc i hi⟩
theorem MK.congr {base : Nat} {w : World} {B N : Nat} {A : Nat → Option Addr} {C : Nat → Nat} {L : Nat → Ln} {y : Option Addr} {n : Nat} {f g : Nat → Int} (h : MK base w B N A C L y n f) (e : ∀ i, i < n → f i = g i) : MK base w B N A C L y n g := by
  refine ⟨h.1, ?_⟩
  rcases h.2 with e0 | ⟨Y, ha, h1, h2, h3, ho⟩
  · exact .inl e0
  · exact .inr ⟨Y, ha, h1, h2, h3, ho.congr e⟩

/-- The lists of an answer, one's own and apart, or none. -/
def MK0 (base : Nat) (w : World) (x : Option Addr) (N : Nat) (L : Nat → Ln) (y : Option Addr) (n : Nat) (tn : Nat → Int) : Prop :=
  (N = 0 ∧ n = 0) ∨ ∃ (B : Nat) (A : Nat → Option Addr) (C : Nat → Nat), x = some ⟨B, 0, none⟩ ∧ MK base w B N A C L y n tn
theorem MK0.lr {base : Nat} {w : World} {x : Option Addr} {N : Nat} {L : Nat → Ln} {y : Option Addr} {n : Nat} {tn : Nat → Int} (h : MK0 base w x N L y n tn) : LR w.heap.size w x N L := by
  rcases h with ⟨h, _⟩ | ⟨B, A, C, rfl, h⟩
  · exact .inl h
  · exact h.1.lr
theorem MK0.row {base : Nat} {w : World} {x : Option Addr} {N : Nat} {L : Nat → Ln} {y : Option Addr} {n : Nat} {tn : Nat → Int} (h : MK0 base w x N L y n tn) : Row .i64 w y n tn := by
  rcases h with ⟨_, h⟩ | ⟨B, A, C, rfl, h⟩
  · exact .inl h
  · exact h.row
theorem MK0.below {base : Nat} {w w' : World} {x : Option Addr} {N : Nat} {L : Nat → Ln} {y : Option Addr} {n : Nat} {tn : Nat → Int} (h : MK0 base w x N L y n tn) (hb : Below w.heap.size w w') : MK0 base w' x N L y n tn := by
  rcases h with h | ⟨B, A, C, e, h⟩
  · exact .inl h
  · exact .inr ⟨B, A, C, e, h.below hb⟩

theorem MK0.keep {base : Nat} {w w' : World} {x : Option Addr} {N : Nat} {L : Nat → Ln} {y : Option Addr} {n : Nat} {tn : Nat → Int} (h : MK0 base w x N L y n tn) (hk : ∀ k, base ≤ k → k < w.heap.size → w'.heap[k]? = w.heap[k]?) (hs : w.heap.size ≤ w'.heap.size) : MK0 base w' x N L y n tn := by
  rcases h with h | ⟨B, A, C, e, h⟩
  · exact .inl h
  · refine .inr ⟨B, A, C, e, h.1.keep (hk B h.1.lo h.1.lt) (fun i hi hz g ha => hk g (h.1.lt2 hi hz ha).2 (h.1.lt2 hi hz ha).1) hs, ?_⟩
    rcases h.2 with e | ⟨Y, ha, h1, h2, h3, ho⟩
    · exact .inl e
    · exact .inr ⟨Y, ha, h1, h2, h3, own_same ho (hk Y h1 ho.1) hs⟩
theorem MK0.mono {base base' : Nat} {w : World} {x : Option Addr} {N : Nat} {L : Nat → Ln} {y : Option Addr} {n : Nat} {tn : Nat → Int} (h : MK0 base w x N L y n tn) (hb : base' ≤ base) : MK0 base' w x N L y n tn := by
  rcases h with h | ⟨B, A, C, e, h1, h2⟩
  · exact .inl h
  · refine .inr ⟨B, A, C, e, ⟨by have := h1.lo; omega, h1.sits, h1.cap, fun i hi => ?_, h1.apart⟩, ?_⟩
    · rcases h1.own i hi with e | ⟨g, ha, hg, hne, ho⟩
      · exact .inl e
      · exact .inr ⟨g, ha, by omega, hne, ho⟩
    · rcases h2 with e | ⟨Y, ha, hg, hx⟩
      · exact .inl e
      · exact .inr ⟨Y, ha, by omega, hx⟩
theorem MK0.far {base : Nat} {w : World} {x : Option Addr} {N : Nat} {L : Nat → Ln} {y : Option Addr} {n : Nat} {tn : Nat → Int} (h : MK0 base w x N L y n tn) {V : Nat} (hV : V < base) (o : Nat) (v : Value) : MK0 base (w.setCell ⟨V, o, none⟩ v) x N L y n tn :=
  h.keep (fun k hk _ => Below.heap_setCell w ⟨V, o, none⟩ v k (by show k ≠ V; omega)) (by simp)
theorem MK0.chg {base L0 U0 : Nat} {w w' : World} {x : Option Addr} {N : Nat} {L : Nat → Ln} {y : Option Addr} {n : Nat} {tn : Nat → Int} (h : MK0 base w x N L y n tn) (hc : Chg L0 U0 w w') (hU : U0 ≤ base) : MK0 base w' x N L y n tn :=
  h.keep (fun k hk h2 => hc.block k h2 (by omega)) hc.size
theorem MK0.of_so {base : Nat} {w : World} {B N : Nat} {A : Nat → Option Addr} {C : Nat → Nat} {L : Nat → Ln} {y : Option Addr} {n : Nat} {tn : Nat → Int} (h : SO base w B A C N L y n tn) : MK0 base w (some ⟨B, 0, none⟩) N L y n tn := .inr ⟨B, A, C, rfl, MK.of_so h⟩
theorem vz_sits {W0 W W' : World} {V : Nat} {vs : Array Value} {t : TypeId} (h : Sits W0 V vs t) (hb : Below W.heap.size W W') (e : W.heap = W0.heap) : Sits W' V vs t ∧ V < W.heap.size := by
  have h' : Sits W V vs t := by
    show W.heap[V]? = _
    rw [e]
    exact h
  exact ⟨h'.below hb h'.lt, h'.lt⟩

theorem ipush_law (s : Sh) (a : Option Addr) (N ca : Nat) (b : Option Addr) (n c : Nat) (L : Nat → Ln) (tn : Nat → Int) (p : Pk) (w : World)
    (hN : N ≤ 1048576) (hcn : cntF L N ≤ 1048576) (hnn : n ≤ 1048576) (hP : LR w.heap.size w a N L) (hb : Row .i64 w b n tn) :
    Calls Try.prog 15 #[shVal s a N ca b n c, p.val] w fun e w' => ∃ (x : Option Addr) (cl : Nat) (y : Option Addr) (cy : Nat), e = .returned (.tuple #[shVal (spS s N L ((List.range n).map tn) p) x (spN s N L ((List.range n).map tn) p) cl y (spT s N L ((List.range n).map tn) p).length cy, .bool (spB s N L ((List.range n).map tn) p)]) ∧ MK0 w.heap.size w' x (spN s N L ((List.range n).map tn) p) (outL s L p) y (spT s N L ((List.range n).map tn) p).length (seq (spT s N L ((List.range n).map tn) p)) ∧ Below w.heap.size w w' := by
  refine (ishapePush_any s a N ca b n c L tn p w hN hcn hnn hP hb).mono ?_
  rintro e w' (⟨h1, rfl, h3⟩ | ⟨h1, B, A, C, cl, y, n1, cy, tn1, rfl, h4, h5, h6, h7, h8⟩)
  · refine ⟨none, 0, none, 0, ?_, ?_, h3⟩
    · simp [spS, spN, spT, spB, h1]
    · left; simp [spN, spT, h1]
  · have hT : spT s N L ((List.range n).map tn) p = outT s L ((List.range n).map tn) p := by simp [spT, h1]
    obtain ⟨e1, e2⟩ := seq_of h6
    refine ⟨some ⟨B, 0, none⟩, cl, y, cy, ?_, ?_, h8⟩
    · rw [hT, ← e1]; simp [spS, spN, spB, h1]
    · have : spN s N L ((List.range n).map tn) p = 4 := by simp [spN, h1]
      rw [this, hT, ← e1]
      exact .inr ⟨B, A, C, rfl, (MK.of_lq h4 h5).congr e2⟩

set_option maxHeartbeats 1000000 in
theorem markShape_none (s : Sh) (a : Option Addr) (ca : Nat) (b : Option Addr) (cb : Nat) (k0 : Int) (w : World) (q0 : 0 ≤ k0) (q1 : k0 ≤ 1099511627776) :
    Calls Try.prog 12 #[shVal s a 0 ca b 0 cb, .int .i64 k0] w fun e w' => e = .returned (.int .i64 k0) ∧ Below w.heap.size w w' := by
  obtain ⟨W0, hW0⟩ : ∃ W, w.alloc (.cells (shCells s a 0 ca b 0 cb) 29) = W := ⟨_, rfl⟩
  have s0 : Sits W0 w.heap.size (shCells s a 0 ca b 0 cb) 29 := by rw [← hW0]; exact Sits.new _ _ _
  have b0 : Below w.heap.size w W0 := by rw [← hW0]; exact (Below.refl _ w).alloc (Nat.le_refl _) _
  have HW0 : Hid (w.alloc (.cells (shCells s a 0 ca b 0 cb) 29) = W0) := hW0
  have HB0 : Hid (Below w.heap.size w W0) := b0
  have HS0 : Hid (Sits W0 w.heap.size (shCells s a 0 ca b 0 cb) 29) := s0
  have x2 := s0.cell 5
  have x3 := s0.cell 6
  clear s0 b0 hW0
  go_enter Try.func12, Try.ntmps12
  go_upto_region 1 with fail
  rw [HW0.out]
  clear HW0
  go_upto_region 2 with (go_at_call 38; refine (markLineS_nil a ca k0 _).mono ?_; rintro e w1 ⟨rfl, hw1⟩; replace hw1 := hw1.symm; subst hw1)
  go_wp2_with (go_at_call 39; refine (markIntS_nil b cb k0 _ q0 q1).mono ?_; rintro e w2 ⟨rfl, c2⟩; have HB2 : Hid (Below w.heap.size w w2) := (HB0.out).trans (c2.none.mono (HB0.out).size); clear c2)
  go_ret
  exact ⟨rfl, HB2.out⟩
/-- markShape of an answer. -/
theorem markShape_mk0 (base : Nat) (s : Sh) (x : Option Addr) (N ca : Nat) (y : Option Addr) (n cy : Nat) (L : Nat → Ln) (tn : Nat → Int) (k0 : Int) (w : World) (hmk : MK0 base w x N L y n tn) (hN : N ≤ 1048576) (hcn : cntF L N ≤ 1048576) (hn : n ≤ 1048576) (h0 : 0 ≤ k0) (h1 : k0 ≤ 1000000000) :
    Calls Try.prog 12 #[shVal s x N ca y n cy, .int .i64 k0] w fun e w' => e = .returned (.int .i64 (upAt L k0 N + n)) ∧ MK0 base w' x N (upL L k0) y n (fun i => upAt L k0 N + i) ∧ Chg base w.heap.size w w' := by
  rcases hmk with ⟨rfl, rfl⟩ | ⟨B, A, C, rfl, hmk⟩
  · refine (markShape_none s x ca y cy k0 w h0 (by omega)).mono ?_
    rintro e w' ⟨rfl, hb⟩
    exact ⟨by simp [upAt, cntF], .inl ⟨rfl, rfl⟩, Chg.of_below hb⟩
  · refine (markShape_mk base s B N ca y n cy A C L tn k0 w hmk hN hcn hn h0 h1).mono ?_
    rintro e w' ⟨rfl, hm, hc⟩
    exact ⟨rfl, .inr ⟨B, A, C, rfl, hm⟩, hc⟩

end Go.Proofs.Ytmjggolllijamaa

/-
  THE LAWS' shapes, BY NUMBERS: a new one, two packets, the first of them out at once, the second not yet.
-/
namespace Go.Proofs.Ytmjggolllijamaa
open Go.RowKit
set_option linter.unusedVariables false

@[reducible] def sQ : Sh := ⟨1000, 0, 0, 1514, 5⟩
@[reducible] def pQ1 : Pk := ⟨1, 0, 0, 1000, 0, 0⟩
@[reducible] def pQ2 : Pk := ⟨2, 0, 0, 9, 0, 0⟩
def LQ1 : Nat → Ln := outL sQ emL pQ1
def TQ1 : List Int := outT sQ emL [] pQ1
def LQ2 : Nat → Ln := outL sQ LQ1 pQ2
def TQ2 : List Int := outT sQ LQ1 TQ1 pQ2
theorem q_new : newSB 1000 0 1514 5 = true := by decide +kernel
theorem q_may1 : mayB sQ 4 emL [] pQ1 = true := by decide +kernel
theorem q_in1 : shpB sQ emL pQ1 = true := by decide +kernel
theorem q_t1 : TQ1 = [0] := by decide +kernel
theorem q_may2 : mayB sQ 4 LQ1 TQ1 pQ2 = true := by decide +kernel
theorem q_in2 : shpB sQ LQ1 pQ2 = true := by decide +kernel
theorem q_t2 : TQ2 = [0] := by decide +kernel
theorem q_c1 : cntF LQ1 4 = 1 := by decide +kernel
theorem q_c2 : cntF LQ2 4 = 2 := by decide +kernel
theorem q_may3 : mayP sQ 4 LQ2 TQ2 0 = true := by decide +kernel
theorem q_none3 : noneB TQ2 0 0 = false := by decide +kernel
theorem q_pop {S : Sh} {N : Nat} {L : Nat → Ln} {T : List Int} {p : Pk} {ok : Bool} (h : PopIs sQ 4 LQ2 TQ2 0 S N L T p ok) : ok = true ∧ p.id = 1 ∧ S.nx = 1000000000 ∧ N = 4 ∧ cntF L N ≤ 2 ∧ T.length ≤ 4 := by
  have hd : PopIs sQ 4 LQ2 TQ2 0 _ _ _ _ _ true := .inr (.inr ⟨q_may3, q_none3, 0, ⟨by decide +kernel, Past.zero _ _ _⟩, rfl, rfl, rfl, rfl, rfl, rfl⟩)
  obtain ⟨rfl, rfl, rfl, rfl, rfl, rfl⟩ := hd.uniq h
  exact ⟨rfl, by decide +kernel, by decide +kernel, rfl, by decide +kernel, by decide +kernel⟩
theorem q_pop2 {s : Sh} {N : Nat} {L : Nat → Ln} {ts : List Int} {S1 : Sh} {N1 : Nat} {L1 : Nat → Ln} {T1 : List Int} {p : Pk} {ok : Bool} (hn : s.nx = 1000000000) (h : PopIs s N L ts 999999999 S1 N1 L1 T1 p ok) : ok = false := by
  rcases h with ⟨_, _, _, _, _, _, h⟩ | ⟨_, _, _, _, _, _, _, h⟩ | ⟨_, h, _⟩
  · exact h
  · exact h
  · have := (none_no h).2
    rw [hn] at this
    omega

end Go.Proofs.Ytmjggolllijamaa

/-
  WHO GOES OUT OF A SHAPER OF THE PROGRAM: sendFirst.
-/
namespace Go.Proofs.Ytmjggolllijamaa
open Go.RowKit
set_option linter.unusedVariables false
attribute [local go_sem ↓] slice_tail_in

/-- A Shape's own cells, its lines and its turns, these from anywhere in their block. -/
structure SX (base : Nat) (w : World) (V B cl : Nat) (s : Sh) (A : Nat → Option Addr) (C : Nat → Nat) (L : Nat → Ln) (y : Option Addr) (n cy : Nat) (tn : Nat → Int) : Prop where
  sv : Sits w V (shCells s (some ⟨B, 0, none⟩) 4 cl y n cy) 29
  bV : base ≤ V
  VB : V ≠ B
  VA : ∀ i, i < 4 → ∀ g, A i = some g → g.block ≠ V
  Vy : ∀ g, y = some g → g.block ≠ V
  mo : MO base w B 4 A C L y n tn
theorem SX.keep {base : Nat} {w w' : World} {V B cl : Nat} {s : Sh} {A : Nat → Option Addr} {C : Nat → Nat} {L : Nat → Ln} {y : Option Addr} {n cy : Nat} {tn : Nat → Int} (h : SX base w V B cl s A C L y n cy tn)
    (hV : w'.heap[V]? = w.heap[V]?) (hB : w'.heap[B]? = w.heap[B]?) (hA : ∀ i, i < 4 → ∀ g, A i = some g → w'.heap[g.block]? = w.heap[g.block]?) (hy : ∀ g, y = some g → w'.heap[g.block]? = w.heap[g.block]?) (hs : w.heap.size ≤ w'.heap.size) : SX base w' V B cl s A C L y n cy tn :=
  ⟨hV.trans h.sv, h.bV, h.VB, h.VA, h.Vy, h.mo.keep hB (fun i hi _ g ha => hA i hi _ ha) (fun Y o _ ha => hy _ ha) hs⟩
theorem SW.sx {base : Nat} {w : World} {V B cl : Nat} {s : Sh} {A : Nat → Option Addr} {C : Nat → Nat} {L : Nat → Ln} {y : Option Addr} {n cy : Nat} {tn : Nat → Int} (h : SW base w V B cl s A C L y n cy tn) : SX base w V B cl s A C L y n cy tn :=
  ⟨h.sv, h.bV, h.VB, h.VA, h.Vy, MO.of_mk (MK.of_lq h.lq h.tq)⟩
/-- The turns without their first. -/
theorem SW.cut {base : Nat} {w : World} {V B cl : Nat} {s : Sh} {A : Nat → Option Addr} {C : Nat → Nat} {L : Nat → Ln} {g m cy : Nat} {tn : Nat → Int} (h : SW base w V B cl s A C L (some ⟨g, 0, none⟩) (m + 1) cy tn) :
    SX base (w.setCell ⟨V, 6, none⟩ (.slice (tlA g cy 1) m (cy - 1))) V B cl s A C L (tlA g cy 1) m (cy - 1) (fun i => tn (i + 1)) := by
  have hgV : g ≠ V := h.Vy _ rfl
  have hgB : g ≠ B := h.tq.2.1 _ rfl
  have hVB := h.VB
  have hcap := h.tq.1.cap
  have tl : ∀ a, tlA g cy 1 = some a → a.block = g := fun a ha => by
    unfold tlA at ha
    split at ha <;> cases ha <;> rfl
  have k : ∀ b, b ≠ V → (w.setCell ⟨V, 6, none⟩ (.slice (tlA g cy 1) m (cy - 1))).heap[b]? = w.heap[b]? := fun b hb => Below.heap_setCell _ _ _ b hb
  refine ⟨h.sv.set 6 _, h.bV, h.VB, h.VA, fun a ha => by rw [tl a ha]; exact hgV, ?_, ?_⟩
  · exact (h.lq.lw).keep (k B (fun e => hVB e.symm)) (fun i hi _ b hb => k b (h.VA i hi _ hb)) (by simp)
  · by_cases hc : cy = 1
    · exact .inl (by omega)
    · right
      refine ⟨g, 1, by unfold tlA; rw [if_neg hc], ?_, hgB, fun i hi _ e => h.tq.2.2 i hi _ _ e rfl rfl, ?_⟩
      · exact h.tq.1.abov _ rfl
      · rcases h.tq.1.own with e | ⟨g', e, _, ho⟩
        · omega
        · cases e
          have ho' : OwnO w g 1 m (fun i => tn (i + 1)) := ⟨ho.1, fun i hi => by rw [Nat.add_comm 1 i]; exact ho.2 (i + 1) (by omega)⟩
          exact ho'.same (k g hgV) (by simp)

theorem ret_pk1 {fn : Func} {tmps : Array Value} {W : World} {i B : Nat} {p : Pk} {t : TypeId} (hr : fn.results = #[.cell i 31]) (hi : tmps[i]?.getD undef = .pointer (some ⟨B, 0, none⟩)) (hs : Sits W B (pkCells p) t) : (results fn tmps).run Try.prog W = .ok p.val W := by
  have c0 : W.cell? ⟨B, 0, none⟩ = some (.int .i64 p.id) := hs.cell 0
  have c1 : W.cell? ⟨B, 1, none⟩ = some (.int .i64 p.flow) := hs.cell 1
  have c2 : W.cell? ⟨B, 2, none⟩ = some (.int .i64 p.host) := hs.cell 2
  have c3 : W.cell? ⟨B, 3, none⟩ = some (.int .i64 p.size) := hs.cell 3
  have c4 : W.cell? ⟨B, 4, none⟩ = some (.int .i64 p.tm) := hs.cell 4
  have c5 : W.cell? ⟨B, 5, none⟩ = some (.int .i64 p.ecn) := hs.cell 5
  simp [results, hr, hi, go_sem, c0, c1, c2, c3, c4, c5]
theorem SX.set6 {base : Nat} {w : World} {V B cl : Nat} {s : Sh} {A : Nat → Option Addr} {C : Nat → Nat} {L : Nat → Ln} {y : Option Addr} {n cy : Nat} {tn : Nat → Int} (h : SX base w V B cl s A C L y n cy tn) {P : Nat} (hV : V ≠ P) (hB : B ≠ P) (hA : ∀ i, i < 4 → ∀ g, A i = some g → g.block ≠ P) (hy : ∀ g, y = some g → g.block ≠ P) (p : Pk) : SX base (Go.Proofs.Ytmjggolllijamaa.set6 w P p) V B cl s A C L y n cy tn :=
  h.keep (set6_keep' hV p) (set6_keep' hB p) (fun i hi g hg => set6_keep' (hA i hi g hg) p) (fun g hg => set6_keep' (hy g hg) p) (by simp [Go.Proofs.Ytmjggolllijamaa.set6])
theorem queue_ok {i : Int} {l : Ln} (h : hlnP i l) {r : Nat} (hr : l.n = r + 1) : popN l.f (r + 1) 40 = r ∧ popL l.f (r + 1) 40 = 40 ∧ popP l.f (r + 1) 40 = l.f 0 ∧ popB l.f (r + 1) 40 = true := by
  have hf := h.2.2.1
  rw [hr] at hf
  have hB : popB l.f (r + 1) 40 = true := by unfold popB; rw [hf]; simp
  refine ⟨by unfold popN; rw [hf]; rfl, by unfold popL; rw [hf]; rfl, by unfold popP; rw [hB]; rfl, hB⟩

theorem send_end {base V B cl : Nat} {s : Sh} {A : Nat → Option Addr} {C : Nat → Nat} {L : Nat → Ln} {ts : List Int} {w wc : World} {K h : Nat} {x : Option Addr} {cx : Nat} {y2 : Option Addr} {n2 cy2 : Nat} {tn2 : Nat → Int} {p : Pk}
    (hK : StopK ts s.qt (fun i => (L i).sh) K) (hph : popHost ts K = h) (hpp : (L h).f 0 = p) (sx : SX base wc V B cl s (fun i => if i = h then x else A i) (fun i => if i = h then cx else C i) (popLn L (shK ts s.qt (fun i => (L i).sh) K) h) y2 n2 cy2 tn2) (ht : (List.range n2).map tn2 = popTs L ts K)
    (hV : V < w.heap.size) (hB : B < w.heap.size) (hx : ∀ a, x = some a → a.block ≠ w.heap.size) (hA : ∀ i, i < 4 → ∀ g, A i = some g → g.block < w.heap.size) (hy : ∀ a, y2 = some a → a.block ≠ w.heap.size) (hk : Two2 V B w wc) (hbw : base ≤ w.heap.size) (hb : Below base w wc) :
    ∃ K, StopK ts s.qt (fun i => (L i).sh) K ∧ Ending.returned p.val = .returned ((L (popHost ts K)).f 0).val ∧
      ∃ (A' : Nat → Option Addr) (C' : Nat → Nat) (y' : Option Addr) (n' cy' : Nat) (tn' : Nat → Int), SX base (set6 wc w.heap.size p) V B cl s A' C' (popLn L (shK ts s.qt (fun i => (L i).sh) K) (popHost ts K)) y' n' cy' tn' ∧ (List.range n').map tn' = popTs L ts K ∧ Two2 V B w (set6 wc w.heap.size p) ∧ Below base w (set6 wc w.heap.size p) := by
  refine ⟨K, hK, by rw [hph, hpp], fun i => if i = h then x else A i, fun i => if i = h then cx else C i, y2, n2, cy2, tn2, ?_, ht, fun i hi e1 e2 => (set6_keep' (Nat.ne_of_lt hi) p).trans (hk i hi e1 e2), set6_below hb hbw (.int .i64 p.id) (.int .i64 p.flow) (.int .i64 p.host) (.int .i64 p.size) (.int .i64 p.tm) (.int .i64 p.ecn)⟩
  rw [hph]
  refine sx.set6 (by omega) (by omega) (fun i hi b hb => ?_) hy p
  by_cases e : i = h
  · rw [if_pos e] at hb; exact hx b hb
  · rw [if_neg e] at hb; have := hA i hi b hb; omega

set_option maxRecDepth 100000 in
set_option maxHeartbeats 8000000 in
theorem isendFirst_any (base V B cl m cy : Nat) (s : Sh) (y : Option Addr) (A : Nat → Option Addr) (C : Nat → Nat) (L : Nat → Ln) (tn : Nat → Int) (ts : List Int) (w : World)
    (hW : SW base w V B cl s A C L y (m + 1) cy tn) (hts : (List.range (m + 1)).map tn = ts) (hsp : shP s 4 L ts) :
    Calls Try.prog 35 #[.pointer (some ⟨V, 0, none⟩)] w fun e w' => ∃ K, StopK ts s.qt (fun i => (L i).sh) K ∧ e = .returned ((L (popHost ts K)).f 0).val ∧
      ∃ (A' : Nat → Option Addr) (C' : Nat → Nat) (y' : Option Addr) (n' cy' : Nat) (tn' : Nat → Int), SX base w' V B cl s A' C' (popLn L (shK ts s.qt (fun i => (L i).sh) K) (popHost ts K)) y' n' cy' tn' ∧ (List.range n').map tn' = popTs L ts K ∧ Two2 V B w w' ∧ Below base w w' := by
  have HSW : Hid (SW base w V B cl s A C L y (m + 1) cy tn) := hW
  have HSP : Hid (shP s 4 L ts) := hsp
  have HTS : Hid ((List.range (m + 1)).map tn = ts) := hts
  have HNE : Hid (ts ≠ []) := fun e => by have := congrArg List.length hts; rw [e] at this; simp at this
  have hlV := hW.sv.lt
  have hlB := hW.lq.lt
  have hbw := hW.bw
  obtain ⟨W0, hW0⟩ : ∃ W, w.alloc (.cells (pkCells pk0) 31) = W := ⟨_, rfl⟩
  have HW0 : Hid (w.alloc (.cells (pkCells pk0) 31) = W0) := hW0
  have b0 : Below w.heap.size w W0 := by rw [← hW0]; exact (Below.refl _ w).alloc (Nat.le_refl _) _
  have HB0 : Hid (Below w.heap.size w W0) := b0
  have HP0 : Hid (Sits W0 w.heap.size (pkCells pk0) 31) := by show Sits _ _ _ _; rw [← hW0]; exact Sits.new _ _ _
  have hz0 : W0.heap.size = w.heap.size + 1 := by rw [← hW0]; simp
  have HZ0 : Hid (W0.heap.size = w.heap.size + 1) := hz0
  have sw0 := hW.below b0
  have HSW0 : Hid (SW base W0 V B cl s A C L y (m + 1) cy tn) := sw0
  have x5 := sw0.sv.cell 5
  clear hW hts hsp hW0 b0 hz0 sw0
  go_enter Try.func35, Try.ntmps35
  go_upto_region 1 with fail
  rw [HW0.out]
  clear HW0
  go_cut [3] from 7 (fun s3 wx => ∃ (K h : Nat) (y' : Option Addr) (cy' : Nat) (tn' : Nat → Int), s3 = .pointer (some ⟨B, h * 9, none⟩) ∧ popHost ts K = h ∧ h < 4 ∧ (L h).n ≠ 0 ∧ StopK ts s.qt (fun i => (L i).sh) K ∧ SW base wx V B cl s A C (lnSh L (shK ts s.qt (fun i => (L i).sh) K)) y' (m + 1) cy' tn' ∧ (∀ i, i < m + 1 → tn' i = tAt ts (K + i)) ∧ Above W0.heap.size y' ∧ Two2 V B W0 wx ∧ Below base W0 wx)
  case first =>
    go_region_with (go_at_call 66; refine (ipassTurns_any base V B cl m cy s y A C L tn ts _ (SW.below HSW0.out (by go_grown)) HTS.out HSP.out).mono ?_; rintro e w2 ⟨K, hK, rfl, y', cy', tn', sw2, ht2, ha2, k2, b2⟩; obtain ⟨h, hh, h4, hnh⟩ := tAt_bd (HSP.out).2.2.2.1 HNE.out K; have hph : popHost ts K = h := (by unfold popHost; rw [hh]; simp); rw [hph]; have h4i : (h : Int) < 4 := (by omega); have z5 := sw2.sv.cell 5; have HSW2 : Hid (SW base w2 V B cl s A C (lnSh L (shK ts s.qt (fun i => (L i).sh) K)) y' (m + 1) cy' tn') := sw2; have HPH : Hid (popHost ts K = h) := hph; have HK2 : Hid (StopK ts s.qt (fun i => (L i).sh) K) := hK; have HT2 : Hid (∀ i, i < m + 1 → tn' i = tAt ts (K + i)) := ht2; have HA2 : Hid (Above W0.heap.size y') := ha2; have HKK : Hid (Two2 V B W0 w2) := k2; have HB2 : Hid (Below base W0 w2) := ((Below.refl base W0).drew).trans b2; clear hK hh sw2 ht2 ha2 k2 b2 hph)
    all_goals go_wp2_with fail
    all_goals go_meet
    all_goals exact ⟨K, h, y', cy', tn', rfl, HPH.out, h4, hnh, HK2.out, HSW2.out, HT2.out, HA2.out, HKK.out, HB2.out⟩
  case rest =>
    obtain ⟨K, h, y', cy', tn', rfl, hph, h4, hnh, hK, sw1, ht1, ha1, k1, b1⟩ := hcut
    have hP1 : Sits wc w.heap.size (pkCells pk0) 31 := (k1 w.heap.size (by have := HZ0.out; omega) (by omega) (by omega)).trans HP0.out
    have hln := (HSP.out).2.2.2.2 h h4
    obtain ⟨r, hr⟩ : ∃ r, (L h).n = r + 1 := ⟨(L h).n - 1, by omega⟩
    obtain ⟨p, hp⟩ : ∃ p, (L h).f 0 = p := ⟨_, rfl⟩
    obtain ⟨eN, eL, eP, eB⟩ := queue_ok hln hr
    rw [hp] at eP
    obtain ⟨hz0, hz1⟩ := size_good (show p.good = true by rw [← hp]; exact good_first hln (by omega))
    have at0 : wc.cell? ⟨B, h * 9, none⟩ = some (.slice (A h) (r + 1) (C h)) := by have := (sw1.at h4).1; rw [← hr]; exact this
    have HPR1 : Hid (PR wc.heap.size wc (A h) (r + 1) (L h).f) := by have := (sw1.lq.own h h4).pr; show PR _ _ _ _ _; rw [← hr]; exact this
    have hcap : r + 1 ≤ C h := by have := (sw1.lq.own h h4).cap; rw [← hr]; exact this
    have hnz : r + 1 ≤ 1048576 := by rw [← hr]; exact nl_le HSP.out h4
    have HEN : Hid (popN (L h).f (r + 1) 40 = r ∧ popL (L h).f (r + 1) 40 = 40 ∧ popP (L h).f (r + 1) 40 = p ∧ popB (L h).f (r + 1) 40 = true) := ⟨eN, eL, eP, eB⟩
    obtain ⟨sh, hsh⟩ : ∃ v, shK ts s.qt (fun i => (L i).sh) K h = v := ⟨_, rfl⟩
    have HSH : Hid (shK ts s.qt (fun i => (L i).sh) K h = sh) := hsh
    have sb := shK_bd (HSP.out).1.2.2.2.1.1 (HSP.out).1.2.2.2.1.2 (fun i hi => ((HSP.out).2.2.2.2 i hi).2.1) K hK.2 h h4
    rw [hsh] at sb
    obtain ⟨sb0, sb1⟩ := sb
    have HPH : Hid (popHost ts K = h) := hph
    have HKK : Hid (StopK ts s.qt (fun i => (L i).sh) K) := hK
    have HSW1 : Hid (SW base wc V B cl s A C (lnSh L (shK ts s.qt (fun i => (L i).sh) K)) y' (m + 1) cy' tn') := sw1
    have HT1 : Hid (∀ i, i < m + 1 → tn' i = tAt ts (K + i)) := ht1
    have HA1 : Hid (Above W0.heap.size y') := ha1
    have HK1 : Hid (Two2 V B W0 wc) := k1
    have HB1 : Hid (Below base W0 wc) := b1
    have HP1 : Hid (Sits wc w.heap.size (pkCells pk0) 31) := hP1
    have HLN : Hid ((L h).n = r + 1) := hr
    have HPP : Hid ((L h).f 0 = p) := hp
    have lBc := sw1.lq.lt
    have lVc := sw1.sv.lt
    clear hph hK sw1 ht1 ha1 k1 b1 hP1 hln hr hp eN eL eP eB hnh hsh
    go_upto_region 3 with (first
      | (go_at_call 49; refine (queueOf_any (A h) (r + 1) (C h) _).mono ?_; rintro e w2 ⟨rfl, b2⟩; have HB2 : Hid (Below wc.heap.size wc w2) := b2; clear b2)
      | (go_at_call 67; refine (ipop_any (A h) (r + 1) (C h) (L h).f 40 _ hnz hcap (PR.mono (PR.below HPR1.out HB2.out) (HB2.out).size)).mono ?_; rintro e w3 ⟨x, cx, rfl, po3, b3⟩; obtain ⟨eN, eL, eP, eB⟩ := HEN.out; rw [eN] at po3; rw [eN, eL, eP, eB]; have HPO3 : Hid (PO w2.heap.size w3 x r cx (popF (L h).f)) := po3; have HB3 : Hid (Below wc.heap.size wc w3) := (HB2.out).trans (b3.mono (HB2.out).size); clear po3 b3 eN eL eP eB))
    obtain ⟨v3, hv3⟩ : ∃ v, (w3.alloc (.cells #[.slice x r cx, .int .i64 40] 84)).alloc (.cells (pkCells p) 31) = v := ⟨_, rfl⟩
    obtain ⟨F, hF⟩ : ∃ F, w3.heap.size = F := ⟨_, rfl⟩
    have ba3 : Below w3.heap.size w3 v3 := by rw [← hv3]; exact ((Below.refl _ w3).alloc (Nat.le_refl _) _).alloc (by simp) _
    have sF3 : Sits v3 F #[.slice x r cx, .int .i64 40] 84 := by rw [← hv3]; exact (Sits.new' hF).alloc _
    have sG3 : Sits v3 (F + 1) (pkCells p) 31 := by rw [← hv3]; exact Sits.new' (by simp [hF])
    have b13 : Below wc.heap.size wc v3 := (HB3.out).trans (ba3.mono (HB3.out).size)
    have HPO4 : Hid (PO wc.heap.size v3 x r cx (popF (L h).f)) := ((HPO3.out).below ba3).mono (HB2.out).size
    have HB13 : Hid (Below wc.heap.size wc v3) := b13
    have HG3 : Hid (Sits v3 (F + 1) (pkCells p) 31) := sG3
    have hFz : wc.heap.size ≤ F := by rw [← hF]; exact (HB3.out).size
    have hXG : Hid (∀ a, x = some a → a.block ≠ w.heap.size) := fun a ha => by have := (HPO4.out).above a ha; have := (HB1.out).size; have := HZ0.out; omega
    have sw3 := (HSW1.out).below b13
    have d0 := (sw3.at h4).1
    rw [show (lnSh L (shK ts s.qt (fun i => (L i).sh) K) h).n = r + 1 from HLN.out] at d0
    have df := sw3.lq.frozen
    have f0 := sF3.cell 0
    have hzc : w.heap.size + 1 ≤ wc.heap.size := by have := (HB1.out).size; have := HZ0.out; omega
    rw [hv3]
    try rw [hF]
    clear hv3 hF ba3 sF3 sG3 b13 sw3 HPO3 HB2 HB3 at0 HPR1 HEN
    go_upto_region 4 with fail
    obtain ⟨v4, hv4⟩ : ∃ v, v3.setCell ⟨B, h * 9, none⟩ (.slice x r cx) = v := ⟨_, rfl⟩
    have sw4 := SW.put HSW1.out HB13.out h4 HPO4.out
    rw [hv4] at sw4 ⊢
    have G4 : Sits v4 (F + 1) (pkCells p) 31 := by rw [← hv4]; exact Sits.other HG3.out (by omega) _
    have P4 : Sits v4 w.heap.size (pkCells pk0) 31 := by rw [← hv4]; exact (Sits.below HP1.out HB13.out (Sits.lt HP1.out)).other (by omega) _
    have B4 : Below base w v4 := by rw [← hv4]; exact ((((HB0.out).mono hbw).trans HB1.out).trans ((HB13.out).mono (HSW1.out).bw)).setCell (HSW1.out).lq.lo _
    have K4 : Two2 V B w v4 := fun i hi e1 e2 => by
      rw [← hv4, Below.heap_setCell _ _ _ i e2]
      have hz := HZ0.out
      exact ((HB13.out).block i (by omega)).trans ((HK1.out i (by omega) e1 e2).trans ((HB0.out).block i hi))
    have e1 : v4.cell? ⟨B, h * 9 + 1, none⟩ = some (.int .i64 sh) := by have := (sw4.at h4).2; simpa [lnSh, HSH.out] using this
    have g3 := G4.cell 3
    have df := sw4.lq.frozen
    have HSW4 : Hid (SW base v4 V B cl s _ _ _ y' (m + 1) cy' tn') := sw4
    have HG4 : Hid (Sits v4 (F + 1) (pkCells p) 31) := G4
    have HP4 : Hid (Sits v4 w.heap.size (pkCells pk0) 31) := P4
    have HB4 : Hid (Below base w v4) := B4
    have HK4 : Hid (Two2 V B w v4) := K4
    clear hv4 sw4 G4 P4 B4 K4 d0 f0 HB13 HPO4 HG3
    go_region
    go_upto_region 5 with fail
    obtain ⟨v5, hv5⟩ : ∃ v, (v4.setCell ⟨B, h * 9 + 1, none⟩ (.int .i64 (sh - p.size))).drew = v := ⟨_, rfl⟩
    have sw5 : SW base v5 V B cl s (fun i => if i = h then x else A i) (fun i => if i = h then cx else C i) (popLn L (shK ts s.qt (fun i => (L i).sh) K) h) y' (m + 1) cy' tn' := by
      have h1 := ((HSW4.out).short h4 (sh - p.size)).drew
      rw [hv5] at h1
      refine h1.congr ?_
      have e1 := HLN.out
      have e2 := HPP.out
      have e3 := HSH.out
      funext i
      unfold popLn
      by_cases e : i = h
      · subst e
        rw [if_pos rfl, if_pos rfl, e1, e2, e3]
        simp [lnSh]
        rfl
      · simp only [if_neg e]; rfl
    have G5 : Sits v5 (F + 1) (pkCells p) 31 := by rw [← hv5]; exact Sits.drew' (Sits.other HG4.out (by omega) _)
    have P5 : Sits v5 w.heap.size (pkCells pk0) 31 := by rw [← hv5]; exact Sits.drew' (Sits.other HP4.out (by omega) _)
    have B5 : Below base w v5 := by rw [← hv5]; exact ((HB4.out).setCell (HSW4.out).lq.lo _).drew
    have K5 : Two2 V B w v5 := fun i hi e1 e2 => by
      rw [← hv5]; exact (Below.heap_setCell _ _ _ i e2).trans (HK4.out i hi e1 e2)
    rw [hv5]
    have b0 : v5.cell? ⟨B, h * 9, none⟩ = some (.slice x r cx) := by
      have := (sw5.at h4).1
      have e1 := HLN.out
      simpa [popLn, e1] using this
    have HSW5 : Hid (SW base v5 V B cl s (fun i => if i = h then x else A i) (fun i => if i = h then cx else C i) (popLn L (shK ts s.qt (fun i => (L i).sh) K) h) y' (m + 1) cy' tn') := sw5
    have HG5 : Hid (Sits v5 (F + 1) (pkCells p) 31) := G5
    have HP5 : Hid (Sits v5 w.heap.size (pkCells pk0) 31) := P5
    have HB5 : Hid (Below base w v5) := B5
    have HK5 : Hid (Two2 V B w v5) := K5
    have hrot : (List.range (m + 1)).map tn' = rotT ts K := by
      unfold rotT
      have hl : ts.length = m + 1 := by rw [← HTS.out]; simp
      rw [hl]
      exact List.map_congr_left fun i hi => HT1.out i (by simpa using hi)
    have HY1 : Hid (∀ a, y' = some a → a.block ≠ w.heap.size) := fun a ha => by have := HA1.out a ha; have := HZ0.out; omega
    clear hv5 sw5 G5 P5 B5 K5 HSW4 HG4 HP4 HB4 HK4 e1 g3 df
    go_upto_if 43 with fail
    go_cut [5] from 7 (fun s5 wx => s5 = .pointer (some ⟨F + 1, 0, none⟩) ∧ ∃ (y2 : Option Addr) (n2 cy2 : Nat) (tn2 : Nat → Int), SX base wx V B cl s (fun i => if i = h then x else A i) (fun i => if i = h then cx else C i) (popLn L (shK ts s.qt (fun i => (L i).sh) K) h) y2 n2 cy2 tn2 ∧ (List.range n2).map tn2 = popTs L ts K ∧ (∀ a, y2 = some a → a.block ≠ w.heap.size) ∧ Sits wx (F + 1) (pkCells p) 31 ∧ Sits wx w.heap.size (pkCells pk0) 31 ∧ Two2 V B w wx ∧ Below base w wx)
    case first =>
      by_cases hr0 : r = 0
      case neg =>
        have hr0' : ((r : Int) == 0) = false := by simpa using hr0
        have HT : Hid ((List.range (m + 1)).map tn' = popTs L ts K) := by
          show _ = _
          unfold popTs
          rw [HPH.out, HLN.out, if_neg (by omega)]; exact hrot
        clear hrot
        go_wp2_with fail
        go_meet
        case rel => exact ⟨rfl, y', m + 1, cy', tn', (HSW5.out).sx, HT.out, HY1.out, HG5.out, HP5.out, HK5.out, HB5.out⟩
      case pos =>
        have hr0' : ((r : Int) == 0) = true := by simpa using hr0
        have HT : Hid ((List.range m).map (fun i => tn' (i + 1)) = popTs L ts K) := by
          show _ = _
          unfold popTs
          rw [HPH.out, HLN.out, if_pos (by omega), ← hrot]
          rw [List.range_succ_eq_map, List.map_cons, List.drop_succ_cons, List.drop_zero, List.map_map]; rfl
        obtain ⟨g, rfl, hg, hcy, hcs⟩ := (HSW5.out).slc (Nat.succ_pos m)
        have z6 := (HSW5.out).sv.cell 6
        have zf := (HSW5.out).sv.frozen
        clear hrot hcs
        go_wp2_with fail
        go_meet
        case rel =>
          have hG1 : F + 1 ≠ V := by omega
          have hP2 : w.heap.size ≠ V := by omega
          exact ⟨rfl, tlA g cy' 1, m, cy' - 1, fun i => tn' (i + 1), (HSW5.out).cut, HT.out, fun a ha => by
            have : a.block = g := by unfold tlA at ha; split at ha <;> cases ha <;> rfl
            rw [this]; exact HY1.out _ rfl, Sits.other HG5.out hG1 _, Sits.other HP5.out hP2 _, fun i hi e1 e2 => (Below.heap_setCell _ _ _ i e1).trans (HK5.out i hi e1 e2), (HB5.out).setCell (HSW5.out).bV _⟩
    case rest =>
      obtain ⟨rfl, y2, n2, cy2, tn2, sx, ht2, hy2, G6, P6, K6, B6⟩ := hcut
      have HSX : Hid (SX base wc V B cl s (fun i => if i = h then x else A i) (fun i => if i = h then cx else C i) (popLn L (shK ts s.qt (fun i => (L i).sh) K) h) y2 n2 cy2 tn2) := sx
      have HT2 : Hid ((List.range n2).map tn2 = popTs L ts K) := ht2
      have HY2 : Hid (∀ a, y2 = some a → a.block ≠ w.heap.size) := hy2
      have HK6 : Hid (Two2 V B w wc) := K6
      have HB6 : Hid (Below base w wc) := B6
      have HP6 : Hid (Sits wc w.heap.size (pkCells pk0) 31) := P6
      have f0 := G6.cell 0
      have f1 := G6.cell 1
      have f2 := G6.cell 2
      have f3 := G6.cell 3
      have f4 := G6.cell 4
      have f5 := G6.cell 5
      have r0 := P6.cell 0
      have r1 := P6.cell 1
      have r2 := P6.cell 2
      have r3 := P6.cell 3
      have r4 := P6.cell 4
      have r5 := P6.cell 5
      have rf := P6.frozen
      clear sx ht2 hy2 K6 B6 G6 P6 b0 HSW5 HG5 HP5 HB5 HK5
      go_wp2
      refine bodyPost_ret (ret_pk1 (p := p) Try.results35 rfl (pk_put HP6.out p)) rfl ?_
      exact send_end HKK.out HPH.out HPP.out HSX.out HT2.out hlV hlB hXG.out (fun i hi => ((HSW.out).lq.own i hi).under) HY2.out HK6.out hbw HB6.out

end Go.Proofs.Ytmjggolllijamaa

/-
  THE SIZES OF THOSE WHO GO OUT NEXT: firstSizes.
-/
namespace Go.Proofs.Ytmjggolllijamaa
open Go.RowKit
set_option linter.unusedVariables false

theorem jo_next {base : Nat} {w : World} {x : Option Addr} {k cap : Nat} {F : Nat → Int} {v : Int} (h : JO base w x (k + 1) cap (fun i => if i = k then v else F i)) (e : F k = v) : JO base w x (k + 1) cap F :=
  h.congr fun i hi => by
    by_cases e2 : i = k
    · rw [if_pos e2, e2, e]
    · rw [if_neg e2]

set_option maxRecDepth 100000 in
set_option maxHeartbeats 4000000 in
theorem ifirstSizes_any (s : Sh) (a : Option Addr) (ca : Nat) (b : Option Addr) (n c : Nat) (L : Nat → Ln) (tn : Nat → Int) (w : World)
    (hn : n ≤ 4) (hP : LR w.heap.size w a 4 L) (hb : Row .i64 w b n tn) (ht : ∀ i, i < n → ∃ h : Nat, tn i = (h : Int) ∧ h < 4 ∧ (L h).n ≠ 0) (hz : ∀ h, h < 4 → (L h).n ≤ 1048576) :
    Calls Try.prog 34 #[shVal s a 4 ca b n c] w fun e w' => ∃ (z : Option Addr) (cz : Nat), e = .returned (.slice z n cz) ∧ JO w.heap.size w' z n cz (fun i => ((L (tn i).toNat).f 0).size) ∧ Below w.heap.size w w' := by
  have HP : Hid (LR w.heap.size w a 4 L) := hP
  have HR : Hid (Row .i64 w b n tn) := hb
  have HT : Hid (∀ i, i < n → ∃ h : Nat, tn i = (h : Int) ∧ h < 4 ∧ (L h).n ≠ 0) := ht
  have HZ : Hid (∀ h, h < 4 → (L h).n ≤ 1048576) := hz
  have hni : (n : Int) ≤ 4 := by omega
  clear hP hb ht hz
  obtain ⟨W0, hW0⟩ : ∃ W, w.alloc (.cells (shCells s a 4 ca b n c) 29) = W := ⟨_, rfl⟩
  have s0 : Sits W0 w.heap.size (shCells s a 4 ca b n c) 29 := by rw [← hW0]; exact Sits.new _ _ _
  have b0 : Below w.heap.size w W0 := by rw [← hW0]; exact (Below.refl _ w).alloc (Nat.le_refl _) _
  have hz0 : W0.heap.size = w.heap.size + 1 := by rw [← hW0]; simp
  have HW0 : Hid (w.alloc (.cells (shCells s a 4 ca b n c) 29) = W0) := hW0
  have HS0 : Hid (Sits W0 w.heap.size (shCells s a 4 ca b n c) 29) := s0
  have HB0 : Hid (Below w.heap.size w W0) := b0
  have HZ0 : Hid (W0.heap.size = w.heap.size + 1) := hz0
  have x6 := s0.cell 6
  clear s0 b0 hz0 hW0
  go_enter Try.func34, Try.ntmps34
  go_upto_region 2 with fail
  rw [HW0.out]
  clear HW0
  go_wp2
  clear x6
  go_loopw [3, 9] (fun v i wr => ∃ (k : Nat) (z : Option Addr) (cz : Nat), k ≤ n ∧ i = .int .i64 (k : Int) ∧ v = .slice z k cz ∧ JO (w.heap.size + 1) wr z k cz (fun i => ((L (tn i).toNat).f 0).size) ∧ Below W0.heap.size W0 wr) (fun _ i _ => n - (intOf i).toNat)
  case atStart => exact ⟨0, none, 0, Nat.zero_le _, rfl, rfl, JO.nil _ _ _, Below.refl _ _⟩
  case round =>
    obtain ⟨k, z, cz, hk, rfl, rfl, hj, hB⟩ := hrel
    have HJ : Hid (JO (w.heap.size + 1) wr z k cz (fun i => ((L (tn i).toNat).f 0).size)) := hj
    have HB : Hid (Below W0.heap.size W0 wr) := hB
    have bw : Below w.heap.size w wr := (HB0.out).trans (hB.mono (HB0.out).size)
    have s1 := Sits.below HS0.out hB (Sits.lt HS0.out)
    have x5 := s1.cell 5
    by_cases hlt : k < n
    · obtain ⟨bb, off, rfl, hbl, hcs⟩ := Row.at HR.out hlt
      have c1 := (bw.cell (p := ⟨bb, off + k, none⟩) hbl).trans (hcs k hlt)
      obtain ⟨h, hh, h4, hnh⟩ := HT.out k hlt
      rw [hh] at c1
      obtain ⟨b1, o1, rfl, hb1, hls⟩ := LR.at HP.out h4
      obtain ⟨x, cp, hat, hnc, hpr⟩ := hls h h4
      have d0 := (hat.below bw hb1).1
      obtain ⟨b2, o2, rfl, hb2, hps⟩ := PR.at hpr (show 0 < (L h).n by omega)
      have hp0 := (hps 0 (by omega)).below bw hb2
      rw [Nat.zero_mul, Nat.add_zero] at hp0
      have e3 := hp0.2.2.2.1
      obtain ⟨sz, hsz⟩ : ∃ z, ((L h).f 0).size = z := ⟨_, rfl⟩
      rw [hsz] at e3
      have HSZ : Hid (((L (tn k).toNat).f 0).size = sz) := by show _ = _; rw [hh, Int.toNat_natCast, hsz]
      obtain ⟨ln, hln⟩ : ∃ n, (L h).n = n := ⟨_, rfl⟩
      rw [hln] at d0 hnc hnh
      have hlz : ln ≤ 1048576 := by rw [← hln]; exact HZ.out h h4
      have hl0 : (0 : Int) < (ln : Int) := by omega
      have h4i : (h : Int) < 4 := by omega
      have hzs : w.heap.size + 1 ≤ wr.heap.size := by have := hB.size; have := HZ0.out; omega
      have HRW : Hid ((wr.alloc (.cells #[.int .i64 sz] 3)).cell? ⟨wr.heap.size, 0, none⟩ = some (.int .i64 sz)) := (Sits.new wr #[.int .i64 sz] 3).cell 0
      clear hcs hls hat hpr hps hp0 hsz hln hh hj hB s1
      go_wp2_with (at_builtin; refine wpList_append_in1 rfl _ _ rfl (w.heap.size + 1) z k cz (fun i => ((L (tn i).toNat).f 0).size) rfl (JO.alloc HJ.out _) wr.heap.size sz rfl HRW.out (by omega) (by simp; omega) ?_; intro g2 cz2 w7 hj2 hgr2 hat2 hlt2; have HJ2 : Hid (JO (w.heap.size + 1) w7 (some ⟨g2, 0, none⟩) (k + 1) cz2 (fun i => ((L (tn i).toNat).f 0).size)) := jo_next hj2 HSZ.out; have HB7 : Hid (Below W0.heap.size W0 w7) := Below.grown (B := W0.heap.size) (a := W0) ((HB.out).alloc (HB.out).size _) hgr2 (by have := (HB.out).size; simp; omega) (fun j e => by have := (JO.own_lt HJ.out j e).1; have := HZ0.out; omega); clear hj2 hgr2 hat2 hlt2)
      go_roundw
      case rel => exact ⟨k + 1, some ⟨g2, 0, none⟩, cz2, by omega, by go_num, rfl, HJ2.out, HB7.out⟩
      case measure => simp [intOf]; omega
    · obtain rfl : k = n := by omega
      clear x5
      go_wp2
      go_ret
      exact ⟨z, cz, rfl, (HJ.out).mono (Nat.le_succ _), (HB0.out).trans ((HB.out).mono (HB0.out).size)⟩

end Go.Proofs.Ytmjggolllijamaa

/-
  WHAT PACKETS COST: costsOf, Cost OF BOTH SIDES.
-/
namespace Go.Proofs.Ytmjggolllijamaa
open Go.RowKit Go.Maps
set_option linter.unusedVariables false

theorem lawInt : Keyed Try.prog 3 := int_keyed Try.underlying3
theorem zeroInt (w : World) : (zeroValue 3).run Try.prog w = .ok (.int .i64 0) w := by kernel_rfl
theorem ownsMap_below {H : Type} {P : Program} {k : TypeId} {R : Value → Option (DataW H × List MemPlace)} {w w' : World} {b n : Nat} {D : DataW H} (h : w.ownsMap P k R b n D) (hb : Below w.heap.size w w') : w'.ownsMap P k R b n D := by
  have hlt := h.lt
  obtain ⟨es, clock, h1, F, hs, hD⟩ := h
  exact ⟨es, clock, (hb.block b hlt).trans h1, F, hs, hD⟩
theorem keyLit (x : Int) : WideAt.IsKeyLit (.int .i64 x) := trivial
theorem has_next {D : DataW Unit} {f : Nat → Int} {k : Nat} (h : ∀ i, i < k → Maps.has D (.int .i64 (f i)) = true) (h2 : Maps.has D (.int .i64 (f k)) = true) : ∀ i, i < k + 1 → Maps.has D (.int .i64 (f i)) = true := fun i hi => by
  by_cases e : i = k
  · rw [e]; exact h2
  · exact h i (by omega)
/-- Each size that is there has its cost. -/
def Priced (s : Sh) (D : DataW Unit) : Prop := ∀ x : Int, Maps.has D (.int .i64 x) = true → D.atKey (.int .i64 x) (.lit (.int .i64 0)) = .lit (.int .i64 (costF s x))
theorem Priced.put {s : Sh} {D : DataW Unit} (h : Priced s D) (hm : IsMap D) (x : Int) : Priced s (D.put (.int .i64 x) (.lit (.int .i64 (costF s x)))) := by
  intro y hy
  by_cases e : y = x
  · subst e
    exact atKey_put_same hm (keyLit _) _ _
  · have hne : (Lit.int .i64 y) ≠ (Lit.int .i64 x) := by simpa using e
    rw [has_put_other hne] at hy
    rw [atKey_put_other hne]
    exact h y hy
theorem has_put_keep {D : DataW Unit} (hm : IsMap D) (x y : Int) (d : DataW Unit) (h : Maps.has D (.int .i64 y) = true) : Maps.has (D.put (.int .i64 x) d) (.int .i64 y) = true := by
  by_cases e : y = x
  · subst e; exact has_put_same hm (keyLit _) _
  · rw [has_put_other (by simpa using e)]; exact h

set_option maxRecDepth 100000 in
set_option maxHeartbeats 2000000 in
theorem icostsOf_any (s : Sh) (a : Option Addr) (N ca : Nat) (b : Option Addr) (n c : Nat) (z : Option Addr) (m cz : Nat) (f : Nat → Int) (w : World) (hs : numP s) (hm : m ≤ 1048576) (hr : Row .i64 w z m f) (hf : ∀ i, i < m → 1 ≤ f i ∧ f i ≤ 2000) :
    Calls Try.prog 33 #[shVal s a N ca b n c, .slice z m cz] w fun e w' => ∃ (B : Nat) (D : DataW Unit), e = .returned (.map (some B)) ∧ w'.ownsMap Try.prog 3 (plainElem Try.prog 3) B m D ∧ Priced s D ∧ (∀ i, i < m → Maps.has D (.int .i64 (f i)) = true) ∧ Below w.heap.size w w' := by
  obtain ⟨⟨r0, r1⟩, ⟨o0, o1⟩, _⟩ := hs
  have HR : Hid (Row .i64 w z m f) := hr
  have HF : Hid (∀ i, i < m → 1 ≤ f i ∧ f i ≤ 2000) := hf
  have hmi : (m : Int) ≤ 1048576 := by omega
  clear hr hf
  obtain ⟨W0, hW0⟩ : ∃ W, w.alloc (.cells (shCells s a N ca b n c) 29) = W := ⟨_, rfl⟩
  have s0 : Sits W0 w.heap.size (shCells s a N ca b n c) 29 := by rw [← hW0]; exact Sits.new _ _ _
  have b0 : Below w.heap.size w W0 := by rw [← hW0]; exact (Below.refl _ w).alloc (Nat.le_refl _) _
  have HW0 : Hid (w.alloc (.cells (shCells s a N ca b n c) 29) = W0) := hW0
  have HS0 : Hid (Sits _ _ _ _) := s0
  have HB0 : Hid (Below w.heap.size w W0) := b0
  clear s0 b0 hW0
  have HBB : Hid (∀ w', Below W0.heap.size W0 w' → Below w.heap.size w w') := fun w' hw' => (HB0.out).trans (hw'.mono (HB0.out).size)
  have hmm := @run_makeMap Try.prog
  go_enter Try.func33, Try.ntmps33
  go_upto_region 1 with fail
  rw [HW0.out]
  clear HW0
  go_wp2
  go_loopw [13] (fun i wr => ∃ (k : Nat) (D : DataW Unit), k ≤ m ∧ i = .int .i64 (k : Int) ∧ wr.ownsMap Try.prog 3 (plainElem Try.prog 3) W0.heap.size k D ∧ Priced s D ∧ (∀ i, i < k → Maps.has D (.int .i64 (f i)) = true) ∧ Below W0.heap.size W0 wr) (fun i _ => m - (intOf i).toNat)
  case atStart => exact ⟨0, .map [], Nat.zero_le _, rfl, World.ownsMap_made _ _ _ _, (fun x hx => by cases hx), (fun i hi => absurd hi (Nat.not_lt_zero _)), (Below.refl _ _).alloc (Nat.le_refl _) _⟩
  case round =>
    obtain ⟨k, D, hk, rfl, hown, hpr, hhas, hB⟩ := hrel
    have HPR : Hid (Priced s D) := hpr
    have HHAS : Hid (∀ i, i < k → Maps.has D (.int .i64 (f i)) = true) := hhas
    have HB : Hid (Below W0.heap.size W0 wr) := hB
    have HOWN : Hid (wr.ownsMap Try.prog 3 (plainElem Try.prog 3) W0.heap.size k D) := hown
    have HIM : Hid (IsMap D) := hown.isMap
    clear hpr hhas hown
    by_cases hlt : k < m
    · obtain ⟨b1, off, rfl, hbl, hcs⟩ := Row.at HR.out hlt
      have c1 := ((HBB.out _ hB).cell (p := ⟨b1, off + k, none⟩) hbl).trans (hcs k hlt)
      obtain ⟨f0, f1⟩ := HF.out k hlt
      obtain ⟨v, hv⟩ : ∃ v, f k = v := ⟨_, rfl⟩
      rw [hv] at c1 f0 f1
      have HV : Hid (f k = v) := hv
      have hlti : (k : Int) < m := by omega
      have hkey : keyOf Try.prog 3 (.int .i64 v) = some (.int .i64 v) := keyOf_int_mk Try.underlying3 (WalkArith.wf_i64 (by omega))
      have HKEY : Hid (keyOf Try.prog 3 (.int .i64 v) = some (.int .i64 v)) := hkey
      clear hcs hv hkey hB
      cases hh : Maps.has D (.int .i64 v)
      case true =>
        go_wp2_with (at_lookup; refine wpList_lookup_own_ok_int _ rfl _ _ 69 rfl 3 3 .i64 lawInt Try.underlying69 Try.underlying3 (zeroInt _) W0.heap.size k D rfl HOWN.out _ _ rfl HKEY.out ?_; intro c0 hat hwc; rw [hh]; clear hat hwc)
        go_roundw
        case rel => exact ⟨k + 1, D, by omega, by go_num, (HOWN.out).mono (Nat.le_succ _), HPR.out, has_next HHAS.out (by rw [HV.out]; exact hh), HB.out⟩
        case measure => simp [intOf]; omega
      case false =>
        have s1 := Sits.below HS0.out HB.out (Sits.lt HS0.out)
        have x0 := s1.cell 0
        have x1 := s1.cell 1
        clear s1
        obtain ⟨q0, q1⟩ := cost_small r0 r1 o0 o1 f0 f1
        have HC : Hid ((v + s.ov) * 1000000000 / s.rt < 9223372036854775807) := by show _ < _; omega
        have HWF : Hid ((Lit.int .i64 (upF ((v + s.ov) * 1000000000) s.rt)).wf = true) := by have := up_small q0 q1; exact WalkArith.wf_i64 (by omega)
        clear q0 q1
        go_wp2_with (first
          | (at_lookup; refine wpList_lookup_own_ok_int _ rfl _ _ 69 rfl 3 3 .i64 lawInt Try.underlying69 Try.underlying3 (zeroInt _) W0.heap.size k D rfl HOWN.out _ _ rfl HKEY.out ?_; intro c0 hat hwc; rw [hh]; clear hat hwc)
          | (go_at_call 65; refine (timeOf_impl_ok (v + s.ov) s.rt (by omega) (by omega) (by omega) (by omega) HC.out _).mono ?_; rintro e w1 ⟨rfl, hk1⟩; have HB1 : Hid (Below wr.heap.size wr w1) := hk1.1; clear hk1)
          | (at_mapUpdate; refine wpList_mapUpdate_own _ rfl _ _ _ 69 rfl 3 3 lawInt Try.underlying69 (plainElem (H := Unit) Try.prog 3) W0.heap.size k D rfl (ownsMap_below HOWN.out HB1.out) (by unfold maxLen; omega) _ _ _ rfl rfl HKEY.out _ [] (plainElem_int Try.underlying3 HWF.out) ?_; intro w2 hown2 hgrow2))
        have hb1 : Below W0.heap.size W0 w1 := (HB.out).trans ((HB1.out).mono (HB.out).size)
        have hb2 : Below W0.heap.size W0 w2 := hb1.grown hgrow2 hb1.size (fun j hj => by cases hj; exact Nat.le_refl _)
        go_roundw
        case rel => exact ⟨k + 1, D.put (.int .i64 v) (.lit (.int .i64 (costF s v))), by omega, by go_num, hown2, (HPR.out).put HIM.out v, has_next (fun i hi => has_put_keep HIM.out _ _ _ (HHAS.out i hi)) (by rw [HV.out]; exact has_put_same HIM.out (keyLit _) _), hb2⟩
        case measure => simp [intOf]; omega
    · obtain rfl : k = m := by omega
      go_wp2
      go_ret
      exact ⟨_, D, rfl, HOWN.out, HPR.out, HHAS.out, HBB.out _ hB⟩

/-- Does a packet of v bytes cost anything, and how much? -/
def cstB (s : Sh) (N : Nat) (L : Nat → Ln) (ts : List Int) (v : Int) : Bool := shB s N L ts && decide (1 ≤ v ∧ v ≤ 2000)
def cstV (s : Sh) (N : Nat) (L : Nat → Ln) (ts : List Int) (v : Int) : Int := if cstB s N L ts v then costF s v else 0
theorem cst_no {s : Sh} {N : Nat} {L : Nat → Ln} {ts : List Int} {v : Int} (h : cstB s N L ts v = false) : Value.tuple #[.int .i64 0, .bool false] = .tuple #[.int .i64 (cstV s N L ts v), .bool (cstB s N L ts v)] := by unfold cstV; rw [h]; rfl
theorem cst_yes {s : Sh} {N : Nat} {L : Nat → Ln} {ts : List Int} {v : Int} (h : cstB s N L ts v = true) : Value.tuple #[.int .i64 (costF s v), .bool true] = .tuple #[.int .i64 (cstV s N L ts v), .bool (cstB s N L ts v)] := by unfold cstV; rw [h]; rfl

set_option maxRecDepth 100000 in
set_option maxHeartbeats 1000000 in
theorem icost_any (s : Sh) (a : Option Addr) (N ca : Nat) (b : Option Addr) (n c : Nat) (L : Nat → Ln) (tn : Nat → Int) (v : Int) (w : World)
    (hN : N ≤ 1048576) (hcn : cntF L N ≤ 1048576) (hnn : n ≤ 1048576) (hP : LR w.heap.size w a N L) (hb : Row .i64 w b n tn) :
    Calls Try.prog 24 #[shVal s a N ca b n c, .int .i64 v] w fun e w' => e = .returned (.tuple #[.int .i64 (cstV s N L ((List.range n).map tn) v), .bool (cstB s N L ((List.range n).map tn) v)]) ∧ Below w.heap.size w w' := by
  have HP : Hid (LR w.heap.size w a N L) := hP
  have HRB : Hid (Row .i64 w b n tn) := hb
  have HN : Hid (N ≤ 1048576) := hN
  have HCN : Hid (cntF L N ≤ 1048576) := hcn
  have HNN : Hid (n ≤ 1048576) := hnn
  clear hP hb hN hcn hnn
  obtain ⟨ts, hts⟩ : ∃ l, (List.range n).map tn = l := ⟨_, rfl⟩
  have HTS : Hid ((List.range n).map tn = ts) := hts
  rw [hts]
  clear hts
  obtain ⟨W0, hW0⟩ : ∃ W, w.alloc (.cells (shCells s a N ca b n c) 29) = W := ⟨_, rfl⟩
  have s0 : Sits W0 w.heap.size (shCells s a N ca b n c) 29 := by rw [← hW0]; exact Sits.new _ _ _
  have b0 : Below w.heap.size w W0 := by rw [← hW0]; exact (Below.refl _ w).alloc (Nat.le_refl _) _
  have HW0 : Hid (w.alloc (.cells (shCells s a N ca b n c) 29) = W0) := hW0
  have HS0 : Hid (Sits _ _ _ _) := s0
  have HB0 : Hid (Below w.heap.size w W0) := b0
  have x0 := s0.cell 0
  have x1 := s0.cell 1
  have x2 := s0.cell 2
  have x3 := s0.cell 3
  have x4 := s0.cell 4
  have x5 := s0.cell 5
  have x6 := s0.cell 6
  clear s0 b0 hW0
  cases t0 : shB s N L ts
  case false =>
    have HE : Hid (cstB s N L ts v = false) := by show _ = _; unfold cstB; rw [t0]; rfl
    go_enter Try.func24, Try.ntmps24
    go_upto_region 1 with fail
    rw [HW0.out]
    go_wp2_with (go_at_call 21; refine (ishapeOk_any s a N ca b n c L tn _ HN.out HCN.out HNN.out (LR.go HP.out HB0.out (HB0.out).size) (Row.below HRB.out HB0.out)).mono ?_; rintro e w1 ⟨rfl, b1⟩; rw [HTS.out, t0]; have HB1 : Hid (Below w.heap.size w w1) := (HB0.out).trans (b1.mono (HB0.out).size); have HS1 : Hid (Sits w1 w.heap.size (shCells s a N ca b n c) 29) := Sits.below HS0.out b1 (Sits.lt HS0.out); clear b1)
    exact bodyPost_ret (v := .tuple #[.int .i64 0, .bool false]) (by simp [results, Try.results24, go_sem]) rfl ⟨rets (cst_no HE.out), HB1.out⟩
  case true =>
  cases t1 : inB v 1 2000
  case false =>
    have HE : Hid (cstB s N L ts v = false) := by show _ = _; unfold cstB; rw [t0]; unfold inB at t1; simp at t1 ⊢; omega
    go_enter Try.func24, Try.ntmps24
    go_upto_region 1 with fail
    rw [HW0.out]
    go_wp2_with (first | (go_at_call 21; refine (ishapeOk_any s a N ca b n c L tn _ HN.out HCN.out HNN.out (LR.go HP.out HB0.out (HB0.out).size) (Row.below HRB.out HB0.out)).mono ?_; rintro e w1 ⟨rfl, b1⟩; rw [HTS.out, t0]; have HB1 : Hid (Below w.heap.size w w1) := (HB0.out).trans (b1.mono (HB0.out).size); have HS1 : Hid (Sits w1 w.heap.size (shCells s a N ca b n c) 29) := Sits.below HS0.out b1 (Sits.lt HS0.out); clear b1) | (go_at_call 31; refine (within_any _ _ _ _).mono ?_; rintro e w9 ⟨rfl, hw9⟩; replace hw9 := hw9.symm; subst hw9; rw [t1]))
    exact bodyPost_ret (v := .tuple #[.int .i64 0, .bool false]) (by simp [results, Try.results24, go_sem]) rfl ⟨rets (cst_no HE.out), HB1.out⟩
  case true =>
  have t1' : 1 ≤ v ∧ v ≤ 2000 := by unfold inB at t1; simpa using t1
  have HE : Hid (cstB s N L ts v = true) := by show _ = _; unfold cstB; rw [t0]; simp; omega
  have HNUM : Hid (numP s) := (show numP s by have h1 := t0; unfold shB at h1; exact (of_decide_eq_true h1).1)
  go_enter Try.func24, Try.ntmps24
  go_upto_region 1 with fail
  rw [HW0.out]
  go_upto_region 3 with (first | (go_at_call 21; refine (ishapeOk_any s a N ca b n c L tn _ HN.out HCN.out HNN.out (LR.go HP.out HB0.out (HB0.out).size) (Row.below HRB.out HB0.out)).mono ?_; rintro e w1 ⟨rfl, b1⟩; rw [HTS.out, t0]; have HB1 : Hid (Below w.heap.size w w1) := (HB0.out).trans (b1.mono (HB0.out).size); have HS1 : Hid (Sits w1 w.heap.size (shCells s a N ca b n c) 29) := Sits.below HS0.out b1 (Sits.lt HS0.out); clear b1) | (go_at_call 31; refine (within_any _ _ _ _).mono ?_; rintro e w9 ⟨rfl, hw9⟩; replace hw9 := hw9.symm; subst hw9; rw [t1]))
  have y0 := Sits.cell HS1.out 0
  have y1 := Sits.cell HS1.out 1
  have y2 := Sits.cell HS1.out 2
  have y3 := Sits.cell HS1.out 3
  have y4 := Sits.cell HS1.out 4
  have y5 := Sits.cell HS1.out 5
  have y6 := Sits.cell HS1.out 6
  have HR1 : Hid (Row .i64 (w1.alloc (.cells #[.int .i64 v] 3)) (some ⟨w1.heap.size, 0, none⟩) 1 (fun _ => v)) := .inr ⟨w1.heap.size, 0, rfl, by simp, fun i hi => by have e : i = 0 := (by omega); subst e; exact (Sits.new w1 #[.int .i64 v] 3).cell 0⟩
  have HV1 : Hid (∀ i, i < 1 → 1 ≤ (fun _ => v : Nat → Int) i ∧ (fun _ => v : Nat → Int) i ≤ 2000) := fun i hi => t1'
  have HKEY : Hid (keyOf Try.prog 3 (.int .i64 v) = some (.int .i64 v)) := keyOf_int_mk Try.underlying3 (WalkArith.wf_i64 (by omega))
  go_wp2_with (first
    | (go_at_call 33; refine (icostsOf_any s a N ca b n c (some ⟨w1.heap.size, 0, none⟩) 1 1 (fun _ => v) _ HNUM.out (by omega) HR1.out HV1.out).mono ?_; rintro e w2 ⟨B, D, rfl, hown, hpr, hhas, b2⟩; have HOWN : Hid (w2.ownsMap Try.prog 3 (plainElem Try.prog 3) B 1 D) := hown; have HPR : Hid (D.atKey (.int .i64 v) (.lit (.int .i64 0)) = .lit (.int .i64 (costF s v))) := hpr v (hhas 0 (by omega)); have HB2 : Hid (Below w.heap.size w w2) := ((HB1.out).alloc (HB1.out).size _).trans (b2.mono (by simp; have := (HB1.out).size; omega)); clear hown hpr hhas b2)
    | (at_lookup; refine wpList_lookup_own_int _ rfl _ _ 69 rfl 3 3 .i64 lawInt Try.underlying69 Try.underlying3 (zeroInt _) B 1 D rfl HOWN.out _ _ rfl HKEY.out ?_; intro c0 hat hwc; obtain rfl : c0 = costF s v := by have := hat.symm.trans HPR.out; simpa using this))
  exact bodyPost_ret (v := .tuple #[.int .i64 (costF s v), .bool true]) (by simp [results, Try.results24, go_sem]) rfl ⟨rets (cst_yes HE.out), HB2.out⟩

end Go.Proofs.Ytmjggolllijamaa

/-
  WHO GOES OUT OF A SHAPER OF THE PROGRAM: ShapePop.
-/
namespace Go.Proofs.Ytmjggolllijamaa
open Go.RowKit Go.Maps
set_option linter.unusedVariables false

theorem sits_drew {w : World} {B : Nat} {vs : Array Value} {t : TypeId} (h : Sits w B vs t) : Sits w.drew B vs t := h
theorem drew_keep {w w' : World} {k : Nat} (h : w.heap[k]? = w'.heap[k]?) : w.drew.heap[k]? = w'.heap[k]? := h
theorem SX.next {base : Nat} {w : World} {V B cl : Nat} {s : Sh} {A : Nat → Option Addr} {C : Nat → Nat} {L : Nat → Ln} {y : Option Addr} {n cy : Nat} {tn : Nat → Int} (h : SX base w V B cl s A C L y n cy tn) (v : Int) : SX base (w.setCell ⟨V, 2, none⟩ (.int .i64 v)) V B cl ⟨s.rt, s.ov, v, s.qt, s.lim⟩ A C L y n cy tn := by
  have hVB := h.VB
  refine ⟨h.sv.set 2 _, h.bV, h.VB, h.VA, h.Vy, h.mo.keep (Below.heap_setCell _ _ _ B (fun e => hVB e.symm)) (fun i hi _ g ha => Below.heap_setCell _ _ _ g (h.VA i hi _ ha)) (fun Y o _ ha => Below.heap_setCell _ _ _ Y (h.Vy _ ha)) (by simp)⟩
theorem SX.below {base : Nat} {w w' : World} {V B cl : Nat} {s : Sh} {A : Nat → Option Addr} {C : Nat → Nat} {L : Nat → Ln} {y : Option Addr} {n cy : Nat} {tn : Nat → Int} (h : SX base w V B cl s A C L y n cy tn) (hb : Below w.heap.size w w') : SX base w' V B cl s A C L y n cy tn :=
  ⟨h.sv.below hb h.sv.lt, h.bV, h.VB, h.VA, h.Vy, h.mo.keep (hb.block B h.mo.1.lt) (fun i hi hz g ha => hb.block g (h.mo.1.lt2 hi hz ha).1) (fun Y o hn ha => by
    rcases h.mo.2 with e | ⟨Y', o', ha', _, _, _, ho⟩
    · exact absurd e hn
    · rw [ha] at ha'; cases ha'; exact hb.block Y ho.1) hb.size⟩
theorem MO0.of_sx {base : Nat} {w : World} {V B cl : Nat} {s : Sh} {A : Nat → Option Addr} {C : Nat → Nat} {L : Nat → Ln} {y : Option Addr} {n cy : Nat} {tn : Nat → Int} {ts : List Int} (h : SX base w V B cl s A C L y n cy tn) (e : (List.range n).map tn = ts) : MO0 base w (some ⟨B, 0, none⟩) 4 L y ts.length (seqT ts) := by
  obtain ⟨e1, e2⟩ := seqT_of e
  rw [← e1]
  exact .inr ⟨B, A, C, rfl, h.mo.congr e2⟩
theorem MO0.chg {base L0 U0 : Nat} {w w' : World} {x : Option Addr} {N : Nat} {L : Nat → Ln} {y : Option Addr} {n : Nat} {tn : Nat → Int} (h : MO0 base w x N L y n tn) (hc : Chg L0 U0 w w') (hU : U0 ≤ base) : MO0 base w' x N L y n tn :=
  h.keep (fun k hk h2 => hc.block k h2 (by omega)) hc.size
theorem ownsMap_keep {H : Type} {P : Program} {k : TypeId} {R : Value → Option (DataW H × List MemPlace)} {w w' : World} {b n : Nat} {D : DataW H} (h : w.ownsMap P k R b n D) (hb : w'.heap[b]? = w.heap[b]?) : w'.ownsMap P k R b n D := by
  obtain ⟨es, clock, h1, F, hs, hD⟩ := h
  exact ⟨es, clock, hb.trans h1, F, hs, hD⟩
theorem ownsMap_ne {H : Type} {P : Program} {k : TypeId} {R : Value → Option (DataW H × List MemPlace)} {w : World} {b n B : Nat} {D : DataW H} {vs : Array Value} {t : TypeId} (h : w.ownsMap P k R b n D) (hs : Sits w B vs t) : b ≠ B := fun e => by
  obtain ⟨es, clock, h1, F, hs', hD⟩ := h
  subst e
  have h2 : w.heap[b]? = some (.cells vs t) := hs
  rw [h1] at h2
  cases h2

set_option maxRecDepth 100000 in
set_option maxHeartbeats 8000000 in
theorem ishapePop_any (s : Sh) (a : Option Addr) (N ca : Nat) (b : Option Addr) (n c : Nat) (L : Nat → Ln) (tn : Nat → Int) (now : Int) (w : World)
    (hN : N ≤ 1048576) (hcn : cntF L N ≤ 1048576) (hnn : n ≤ 1048576) (hP : LR w.heap.size w a N L) (hb : Row .i64 w b n tn) :
    Calls Try.prog 9 #[shVal s a N ca b n c, .int .i64 now] w fun e w' => PopAt s N L ((List.range n).map tn) now w e w' := by
  have HP : Hid (LR w.heap.size w a N L) := hP
  have HRB : Hid (Row .i64 w b n tn) := hb
  have HN : Hid (N ≤ 1048576) := hN
  have HCN : Hid (cntF L N ≤ 1048576) := hcn
  have HNN : Hid (n ≤ 1048576) := hnn
  clear hP hb hN hcn hnn
  obtain ⟨ts, hts⟩ : ∃ l, (List.range n).map tn = l := ⟨_, rfl⟩
  have HTS : Hid ((List.range n).map tn = ts) := hts
  rw [hts]
  clear hts
  obtain ⟨W0, hW0⟩ : ∃ W, ((w.alloc (.cells (shCells s a N ca b n c) 29)).alloc (.cells shZero 29)).alloc (.cells (pkCells pk0) 31) = W := ⟨_, rfl⟩
  have s0 : Sits W0 w.heap.size (shCells s a N ca b n c) 29 := by rw [← hW0]; exact ((Sits.new _ _ _).alloc _).alloc _
  have s1 : Sits W0 (w.heap.size + 1) shZero 29 := by rw [← hW0]; exact (Sits.new' (by simp)).alloc _
  have s2 : Sits W0 (w.heap.size + 1 + 1) (pkCells pk0) 31 := by rw [← hW0]; exact Sits.new' (by simp)
  have b0 : Below w.heap.size w W0 := by rw [← hW0]; exact (((Below.refl _ w).alloc (Nat.le_refl _) _).alloc (by simp) _).alloc (by simp; omega) _
  have z0 : W0.heap.size = w.heap.size + 1 + 1 + 1 := by rw [← hW0]; simp
  have HW0 : Hid (((w.alloc (.cells (shCells s a N ca b n c) 29)).alloc (.cells shZero 29)).alloc (.cells (pkCells pk0) 31) = W0) := hW0
  have HB0 : Hid (Below w.heap.size w W0) := b0
  have HZ0 : Hid (W0.heap.size = w.heap.size + 1 + 1 + 1) := z0
  have x0 := s0.cell 0
  have x1 := s0.cell 1
  have x2 := s0.cell 2
  have x3 := s0.cell 3
  have x4 := s0.cell 4
  have x5 := s0.cell 5
  have x6 := s0.cell 6
  have HA : Hid (∀ W, Below W0.heap.size W0 W → (Sits W w.heap.size (shCells s a N ca b n c) 29 ∧ Sits W (w.heap.size + 1) shZero 29 ∧ Sits W (w.heap.size + 1 + 1) (pkCells pk0) 31) ∧ Below w.heap.size w W) := fun W hW => ⟨⟨s0.below hW s0.lt, s1.below hW s1.lt, s2.below hW s2.lt⟩, b0.trans (hW.mono b0.size)⟩
  clear s0 s1 s2 b0 z0 hW0
  have hVP : w.heap.size + 1 ≠ w.heap.size + 1 + 1 := by omega
  have HOUT : Hid (∀ W, Below W0.heap.size W0 W → Below w.heap.size w (set6 (set7 W (w.heap.size + 1) ⟨0, 0, 0, 0, 0⟩ none 0 0 none 0 0) (w.heap.size + 1 + 1) pk0) ∧ Sits (set6 (set7 W (w.heap.size + 1) ⟨0, 0, 0, 0, 0⟩ none 0 0 none 0 0) (w.heap.size + 1 + 1) pk0) (w.heap.size + 1) (shCells ⟨0, 0, 0, 0, 0⟩ none 0 0 none 0 0) 29 ∧ Sits (set6 (set7 W (w.heap.size + 1) ⟨0, 0, 0, 0, 0⟩ none 0 0 none 0 0) (w.heap.size + 1 + 1) pk0) (w.heap.size + 1 + 1) (pkCells pk0) 31) := fun W hW => by
    obtain ⟨⟨_, t1, t2⟩, bw⟩ := HA.out W hW
    refine ⟨(set76_chg W (w.heap.size + 1) (w.heap.size + 1 + 1) w.heap.size (w.heap.size + 3) (by omega) (by omega) (by omega) (by omega) _ _ _ _ _ _ _ _).bel bw (Nat.le_refl _), ?_, ?_⟩
    · exact (set6_keep' hVP _).trans (sh_put7 t1 _ _ _ _ _ _ _)
    · exact pk_put ((set7_keep (fun e => hVP e.symm) _ _ _ _ _ _ _).trans t2) pk0
  have TAIL : Hid (∀ W, Below W0.heap.size W0 W → True) := fun _ _ => trivial
  clear TAIL
  cases t0 : shB s N L ts
  case false =>
    have HE : Hid (mayP s N L ts now = false) := by show _ = _; unfold mayP; rw [t0]; rfl
    go_enter Try.func9, Try.ntmps9
    go_upto_region 1 with fail
    rw [HW0.out]
    go_wp2_with (go_at_call 21; refine (ishapeOk_any s a N ca b n c L tn _ HN.out HCN.out HNN.out (LR.go HP.out HB0.out (HB0.out).size) (Row.below HRB.out HB0.out)).mono ?_; rintro e w1 ⟨rfl, b1⟩; rw [HTS.out, t0]; obtain ⟨⟨_, r1, r2⟩, _⟩ := HA.out _ b1; have r1_0 := r1.cell 0; have r1_1 := r1.cell 1; have r1_2 := r1.cell 2; have r1_3 := r1.cell 3; have r1_4 := r1.cell 4; have r1_5 := r1.cell 5; have r1_6 := r1.cell 6; have r1f := r1.frozen; have r2_0 := r2.cell 0; have r2_1 := r2.cell 1; have r2_2 := r2.cell 2; have r2_3 := r2.cell 3; have r2_4 := r2.cell 4; have r2_5 := r2.cell 5; have r2f := r2.frozen; have HB1 : Hid (Below W0.heap.size W0 w1) := b1; clear r1 r2 b1)
    obtain ⟨bo, so, po⟩ := HOUT.out _ HB1.out
    exact bodyPost_ret (ret_shpb Try.results9 rfl rfl rfl so po) rfl (pop_no HE.out bo)
  case true =>
  cases c0 : inB now 0 1000000000000
  case false =>
    have HE : Hid (mayP s N L ts now = false) := by show _ = _; unfold mayP; unfold inB at c0; rw [c0]; exact Bool.and_false _
    go_enter Try.func9, Try.ntmps9
    go_upto_region 1 with fail
    rw [HW0.out]
    go_wp2_with (first
      | (go_at_call 21; refine (ishapeOk_any s a N ca b n c L tn _ HN.out HCN.out HNN.out (LR.go HP.out HB0.out (HB0.out).size) (Row.below HRB.out HB0.out)).mono ?_; rintro e w1 ⟨rfl, b1⟩; rw [HTS.out, t0]; obtain ⟨⟨_, r1, r2⟩, _⟩ := HA.out _ b1; have r1_0 := r1.cell 0; have r1_1 := r1.cell 1; have r1_2 := r1.cell 2; have r1_3 := r1.cell 3; have r1_4 := r1.cell 4; have r1_5 := r1.cell 5; have r1_6 := r1.cell 6; have r1f := r1.frozen; have r2_0 := r2.cell 0; have r2_1 := r2.cell 1; have r2_2 := r2.cell 2; have r2_3 := r2.cell 3; have r2_4 := r2.cell 4; have r2_5 := r2.cell 5; have r2f := r2.frozen; have HB1 : Hid (Below W0.heap.size W0 w1) := b1; clear r1 r2 b1)
      | (go_at_call 31; refine (within_any _ _ _ _).mono ?_; rintro e w2 ⟨rfl, hw2⟩; replace hw2 := hw2.symm; subst hw2; rw [c0]))
    obtain ⟨bo, so, po⟩ := HOUT.out _ HB1.out
    exact bodyPost_ret (ret_shpb Try.results9 rfl rfl rfl so po) rfl (pop_no HE.out bo)
  case true =>
  have hE : mayP s N L ts now = true := by unfold mayP; unfold inB at c0; rw [t0, c0]; rfl
  have HE : Hid (mayP s N L ts now = true) := hE
  obtain ⟨hsp, n0, n1⟩ := mayP_parts hE
  obtain rfl : N = 4 := hsp.2.1
  have HSP : Hid (shP s 4 L ts) := hsp
  clear hE hsp
  go_enter Try.func9, Try.ntmps9
  go_upto_region 1 with fail
  rw [HW0.out]
  clear HW0
  go_upto_region 3 with (first
    | (go_at_call 21; refine (ishapeOk_any s a 4 ca b n c L tn _ HN.out HCN.out HNN.out (LR.go HP.out HB0.out (HB0.out).size) (Row.below HRB.out HB0.out)).mono ?_; rintro e w1 ⟨rfl, b1⟩; rw [HTS.out, t0]; obtain ⟨⟨r0, _, _⟩, bw1⟩ := HA.out _ b1; have HB1 : Hid (Below W0.heap.size W0 w1) := b1; have HBW1 : Hid (Below w.heap.size w w1) := bw1; have r0_0 := r0.cell 0; have r0_1 := r0.cell 1; have r0_2 := r0.cell 2; have r0_3 := r0.cell 3; have r0_4 := r0.cell 4; have r0_5 := r0.cell 5; have r0_6 := r0.cell 6; clear r0 bw1 b1 x0 x1 x2 x3 x4 x5 x6)
    | (go_at_call 31; refine (within_any _ _ _ _).mono ?_; rintro e w2 ⟨rfl, hw2⟩; replace hw2 := hw2.symm; subst hw2; rw [c0]))
  go_upto_region 4 with (go_at_call 32; refine (iownShape_any s a ca b n c L tn _ HCN.out HNN.out (LR.go HP.out HBW1.out (HBW1.out).size) (Row.below HRB.out HBW1.out)).mono ?_; rintro e w3 ⟨B, A, C, cl, y, cy, rfl, lq, tq, b3⟩; have HLQ : Hid (LQ w1.heap.size w3 B 4 A C L) := lq; have HTQ : Hid (TQ w1.heap.size w3 y n cy tn B 4 A) := tq; have HB3 : Hid (Below w1.heap.size w1 w3) := b3; clear lq tq b3)
  obtain ⟨v3, hv3⟩ : ∃ v, w3.alloc (.cells (shCells s (some ⟨B, 0, none⟩) 4 cl y n cy) 29) = v := ⟨_, rfl⟩
  obtain ⟨V, hV⟩ : ∃ V, w3.heap.size = V := ⟨_, rfl⟩
  have sV : Sits v3 V (shCells s (some ⟨B, 0, none⟩) 4 cl y n cy) 29 := by rw [← hv3]; exact Sits.new' hV
  have ba : Below w3.heap.size w3 v3 := by rw [← hv3]; exact (Below.refl _ _).alloc (Nat.le_refl _) _
  have sw3 : SW w1.heap.size v3 V B cl s A C L y n cy tn := ⟨sV, by rw [← hV]; exact (HB3.out).size, by have := (HLQ.out).lt; omega, fun i hi g hg => by have := ((HLQ.out).own i hi).under g hg; omega, fun g hg => by have := (HTQ.out).1.undr g hg; omega, (HLQ.out).below ba, (HTQ.out).below ba⟩
  have b13 : Below w1.heap.size w1 v3 := (HB3.out).trans (ba.mono (HB3.out).size)
  have HSW3 : Hid (SW w1.heap.size v3 V B cl s A C L y n cy tn) := sw3
  have HB13 : Hid (Below w1.heap.size w1 v3) := b13
  have H03 : Hid (Below W0.heap.size W0 v3) := (HB1.out).trans (b13.mono (HB1.out).size)
  have hz1 : w.heap.size + 3 ≤ w1.heap.size := by have := (HB1.out).size; have := HZ0.out; omega
  rw [hv3, hV]
  clear hv3 hV sV ba sw3 b13 HLQ HTQ HB3 r0_0 r0_1 r0_2 r0_3 r0_4 r0_5 r0_6
  obtain ⟨⟨q0, q1, q2⟩, bq⟩ := HA.out _ H03.out
  have y2 := q0.cell 2
  have y6 := q0.cell 6
  have HQ1 : Hid (Sits v3 (w.heap.size + 1) shZero 29) := q1
  have HQ2 : Hid (Sits v3 (w.heap.size + 1 + 1) (pkCells pk0) 31) := q2
  have HBQ : Hid (Below w.heap.size w v3) := bq
  have nx0 := (HSP.out).1.2.2.1.1
  have nx1 := (HSP.out).1.2.2.1.2
  clear q0 q1 q2 bq
  cases hnb : noneB ts s.nx now
  case true =>
    have hlen : ts.length = n := by rw [← HTS.out]; simp
    have HCL : Hid (∀ e, e = Ending.returned (.tuple #[shVal s (some ⟨B, 0, none⟩) 4 cl y n cy, pk0.val, .bool false]) → PopAt s 4 L ts now w e (set6 (set7 v3 (w.heap.size + 1) s (some ⟨B, 0, none⟩) 4 cl y n cy) (w.heap.size + 1 + 1) pk0)) := fun e he => by
      subst he
      have c9 := set76_chg v3 (w.heap.size + 1) (w.heap.size + 1 + 1) (w.heap.size + 1) (w.heap.size + 3) (by omega) (by omega) (by omega) (by omega) s (some ⟨B, 0, none⟩) 4 cl y n cy pk0
      exact pop_none HE.out hnb rfl rfl (MO0.mono (MO0.of_lq (LQ.chg (HSW3.out).lq c9 hz1) (TQ.chg (HSW3.out).tq c9 hz1) HTS.out) (by omega)) hlen.symm (c9.bel HBQ.out (by omega))
    have so : Sits (set6 (set7 v3 (w.heap.size + 1) s (some ⟨B, 0, none⟩) 4 cl y n cy) (w.heap.size + 1 + 1) pk0) (w.heap.size + 1) (shCells s (some ⟨B, 0, none⟩) 4 cl y n cy) 29 := (set6_keep' hVP _).trans (sh_put7 HQ1.out _ _ _ _ _ _ _)
    have po : Sits (set6 (set7 v3 (w.heap.size + 1) s (some ⟨B, 0, none⟩) 4 cl y n cy) (w.heap.size + 1 + 1) pk0) (w.heap.size + 1 + 1) (pkCells pk0) 31 := pk_put (W := set7 v3 (w.heap.size + 1) s (some ⟨B, 0, none⟩) 4 cl y n cy) (p := pk0) ((set7_keep (fun e => hVP e.symm) _ _ _ _ _ _ _).trans HQ2.out) pk0
    have HSO : Hid (Sits _ _ _ _) := so
    have HPO : Hid (Sits _ _ _ _) := po
    have v0 := (HSW3.out).sv.cell 0
    have v1 := (HSW3.out).sv.cell 1
    have v2 := (HSW3.out).sv.cell 2
    have v3' := (HSW3.out).sv.cell 3
    have v4 := (HSW3.out).sv.cell 4
    have v5 := (HSW3.out).sv.cell 5
    have v6 := (HSW3.out).sv.cell 6
    have r1_0 := Sits.cell HQ1.out 0
    have r1_1 := Sits.cell HQ1.out 1
    have r1_2 := Sits.cell HQ1.out 2
    have r1_3 := Sits.cell HQ1.out 3
    have r1_4 := Sits.cell HQ1.out 4
    have r1_5 := Sits.cell HQ1.out 5
    have r1_6 := Sits.cell HQ1.out 6
    have r1f := Sits.frozen HQ1.out
    have r2_0 := Sits.cell HQ2.out 0
    have r2_1 := Sits.cell HQ2.out 1
    have r2_2 := Sits.cell HQ2.out 2
    have r2_3 := Sits.cell HQ2.out 3
    have r2_4 := Sits.cell HQ2.out 4
    have r2_5 := Sits.cell HQ2.out 5
    have r2f := Sits.frozen HQ2.out
    clear so po
    by_cases hn0 : n = 0
    · have hz' : ((n : Int) == 0) = true := by simpa using hn0
      have HN0 : Hid (n = 0) := hn0
      clear hn0 hlen
      go_wp2
      exact bodyPost_ret (ret_shpb (p := pk0) Try.results9 rfl rfl rfl HSO.out HPO.out) rfl (HCL.out _ rfl)
    · have hz' : ((n : Int) == 0) = false := by simpa using hn0
      have hlt : now < s.nx := by
        have := of_decide_eq_true (show decide (ts = [] ∨ now < s.nx) = true from hnb)
        rcases this with e | e
        · rw [e] at hlen; simp at hlen; omega
        · exact e
      clear hlen
      go_wp2
      exact bodyPost_ret (ret_shpb (p := pk0) Try.results9 rfl rfl rfl HSO.out HPO.out) rfl (HCL.out _ rfl)
  case false =>
    obtain ⟨hne, hlt⟩ := none_no hnb
    have hlen : ts.length = n := by rw [← HTS.out]; simp
    have hn4 : n ≤ 4 := by
      have h1 := (show List.Perm _ _ from (HSP.out).2.2.2.1).length_eq
      have h2 := wl_len L 4
      omega
    have hn0 : n ≠ 0 := fun e => hne (List.eq_nil_of_length_eq_zero (by rw [hlen, e]))
    obtain ⟨m, rfl⟩ : ∃ m, n = m + 1 := ⟨n - 1, by omega⟩
    have htb : ∀ i, i < m + 1 → ∃ h : Nat, tn i = (h : Int) ∧ h < 4 ∧ (L h).n ≠ 0 := fun i hi => by
      obtain ⟨h, hh, h4, hnh⟩ := tAt_bd (HSP.out).2.2.2.1 hne i
      refine ⟨h, ?_, h4, hnh⟩
      rw [tAt_lt (by omega), ← HTS.out] at hh
      simpa [List.getD, hi] using hh
    have HTB : Hid (∀ i, i < m + 1 → ∃ h : Nat, tn i = (h : Int) ∧ h < 4 ∧ (L h).n ≠ 0) := htb
    have HZZ : Hid (∀ h, h < 4 → (L h).n ≤ 1048576) := fun h hh => nl_le HSP.out hh
    have HSZ : Hid (∀ i, i < m + 1 → 1 ≤ (fun i => ((L (tn i).toNat).f 0).size) i ∧ (fun i => ((L (tn i).toNat).f 0).size) i ≤ 2000) := fun i hi => by
      obtain ⟨h, hh, h4, hnh⟩ := htb i hi
      dsimp only
      rw [hh, Int.toNat_natCast]
      exact size_good (good_first ((HSP.out).2.2.2.2 h h4) (by omega))
    have HNUM : Hid (numP s) := (HSP.out).1
    have HNE : Hid (ts ≠ []) := hne
    have hz' : (((m + 1 : Nat) : Int) == 0) = false := by simp; omega
    clear hlen hn0 htb
    go_upto_region 6 with fail
    clear y2 y6
    have HBOX : Hid (∀ w' : World, Below v3.heap.size v3 w' → (w'.cell? ⟨w.heap.size, 0, none⟩ = some (.int .i64 s.rt) ∧ w'.cell? ⟨w.heap.size, 1, none⟩ = some (.int .i64 s.ov) ∧ w'.cell? ⟨w.heap.size, 2, none⟩ = some (.int .i64 s.nx) ∧ w'.cell? ⟨w.heap.size, 3, none⟩ = some (.int .i64 s.qt) ∧ w'.cell? ⟨w.heap.size, 4, none⟩ = some (.int .i64 s.lim) ∧ w'.cell? ⟨w.heap.size, 5, none⟩ = some (.slice a 4 ca) ∧ w'.cell? ⟨w.heap.size, 6, none⟩ = some (.slice b (m + 1) c))) := fun w' hb => by
      obtain ⟨⟨q0, _, _⟩, _⟩ := HA.out _ ((H03.out).trans (hb.mono (H03.out).size))
      exact ⟨q0.cell 0, q0.cell 1, q0.cell 2, q0.cell 3, q0.cell 4, q0.cell 5, q0.cell 6⟩
    have hd : Below v3.heap.size v3 v3.drew := (Below.refl _ _).drew
    set_option maxRecDepth 100000 in go_region_held3 (fun w' => (w'.cell? ⟨w.heap.size, 0, none⟩ = some (.int .i64 s.rt) ∧ w'.cell? ⟨w.heap.size, 1, none⟩ = some (.int .i64 s.ov) ∧ w'.cell? ⟨w.heap.size, 2, none⟩ = some (.int .i64 s.nx) ∧ w'.cell? ⟨w.heap.size, 3, none⟩ = some (.int .i64 s.qt) ∧ w'.cell? ⟨w.heap.size, 4, none⟩ = some (.int .i64 s.lim) ∧ w'.cell? ⟨w.heap.size, 5, none⟩ = some (.slice a 4 ca) ∧ w'.cell? ⟨w.heap.size, 6, none⟩ = some (.slice b (m + 1) c))) (first | (with_reducible exact HBOX.out _ hd) | (with_reducible exact HBOX.out _ b5) | (with_reducible exact HBOX.out _ b6) | fail) (first
      | (go_at_call 34; refine (ifirstSizes_any s a ca b (m + 1) c L tn _ hn4 (LR.go HP.out ((HBQ.out).drew) (HBQ.out).size) (Row.below HRB.out ((HBQ.out).drew)) HTB.out HZZ.out).mono ?_; rintro e w5 ⟨z, cz, rfl, hj5, b5'⟩; have b5 : Below v3.heap.size v3 w5 := hd.trans b5'; have HJ5 : Hid (JO v3.heap.size w5 z (m + 1) cz (fun i => ((L (tn i).toNat).f 0).size)) := hj5; clear hj5 b5')
      | (go_at_call 33; refine (icostsOf_any s a 4 ca b (m + 1) c z (m + 1) cz (fun i => ((L (tn i).toNat).f 0).size) _ HNUM.out (by omega) (JO.row HJ5.out) HSZ.out).mono ?_; rintro e w6 ⟨M, D, rfl, hown, hpr, hhas, b6'⟩; have b6 : Below v3.heap.size v3 w6 := b5.trans (b6'.mono b5.size); have HOWN : Hid (w6.ownsMap Try.prog 3 (plainElem Try.prog 3) M (m + 1) D) := hown; have HPR : Hid (Priced s D) := hpr; have HHAS : Hid (∀ i, i < m + 1 → Maps.has D (.int .i64 ((fun i => ((L (tn i).toNat).f 0).size) i)) = true) := hhas; have HB6 : Hid (Below v3.heap.size v3 w6) := b6; clear hown hpr hhas b6'))
    have HSW6 : Hid (SW w1.heap.size w6 V B cl s A C L y (m + 1) cy tn) := (HSW3.out).below b6
    have HMV : Hid (M ≠ V) := ownsMap_ne HOWN.out (HSW6.out).sv
    have HMB : Hid (M ≠ B) := by
      obtain ⟨vs, t, hs, _⟩ := (HSW6.out).lq.sits
      exact ownsMap_ne HOWN.out hs
    have H06 : Hid (Below W0.heap.size W0 w6) := (H03.out).trans (b6.mono (H03.out).size)
    clear b5 hd HBOX HJ5
    go_upto_region 8 with (go_at_call 35; refine (isendFirst_any w1.heap.size V B cl m cy s y A C L tn ts _ HSW6.out HTS.out HSP.out).mono ?_; rintro e w7 ⟨K, hK, rfl, A', C', y', n', cy', tn', sx7, ht7, k7, b7⟩; obtain ⟨p1, hp1⟩ : ∃ p, (L (popHost ts K)).f 0 = p := ⟨_, rfl⟩; rw [hp1]; have HK7 : Hid (StopK ts s.qt (fun i => (L i).sh) K) := hK; have HP1 : Hid (p1 = (L (popHost ts K)).f 0) := hp1.symm; have HSX7 : Hid (SX w1.heap.size w7 V B cl s A' C' (popLn L (shK ts s.qt (fun i => (L i).sh) K) (popHost ts K)) y' n' cy' tn') := sx7; have HT7 : Hid ((List.range n').map tn' = popTs L ts K) := ht7; have HKP7 : Hid (Two2 V B w6 w7) := k7; have HB7 : Hid (Below w1.heap.size w6 w7) := b7; clear hK hp1 sx7 ht7 k7 b7)
    obtain ⟨u7, hu7⟩ : ∃ v, w7.alloc (.cells (pkCells p1) 31) = v := ⟨_, rfl⟩
    obtain ⟨G, hG⟩ : ∃ G, w7.heap.size = G := ⟨_, rfl⟩
    have ba7 : Below w7.heap.size w7 u7 := by rw [← hu7]; exact (Below.refl _ _).alloc (Nat.le_refl _) _
    have sG : Sits u7 G (pkCells p1) 31 := by rw [← hu7]; exact Sits.new' hG
    have HG7 : Hid (Sits u7 G (pkCells p1) 31) := sG
    have HGO : Hid (w.heap.size + 3 ≤ G) := by show _ ≤ _; rw [← hG]; have := (HB7.out).size; have := (HSW6.out).bw; omega
    have HSX8 : Hid (SX w1.heap.size u7 V B cl s A' C' (popLn L (shK ts s.qt (fun i => (L i).sh) K) (popHost ts K)) y' n' cy' tn') := (HSX7.out).below ba7
    have HOWN7 : Hid (u7.ownsMap Try.prog 3 (plainElem Try.prog 3) M (m + 1) D) := ownsMap_keep HOWN.out ((ba7.block M (Nat.lt_of_lt_of_le (HOWN.out).lt (HB7.out).size)).trans ((HKP7.out) M (HOWN.out).lt HMV.out HMB.out))
    obtain ⟨hh, hhh, h4, hnh⟩ := tAt_bd (HSP.out).2.2.2.1 HNE.out K
    have hph : popHost ts K = hh := by unfold popHost; rw [hhh]; exact Int.toNat_natCast hh
    have hlen : ts.length = m + 1 := by rw [← HTS.out]; simp
    have hKm : K % (m + 1) < m + 1 := Nat.mod_lt _ (Nat.succ_pos m)
    have htK : tn (K % (m + 1)) = (hh : Int) := by
      rw [← hhh, ← tAt_mod ts K, hlen, tAt_lt (by rw [hlen]; exact hKm), ← HTS.out]
      simp [List.getD, hKm]
    have hszK : ((L (tn (K % (m + 1))).toNat).f 0).size = p1.size := by rw [htK, Int.toNat_natCast, HP1.out, hph]
    have hgd := size_good (good_first ((HSP.out).2.2.2.2 hh h4) (by omega))
    rw [← hph, ← HP1.out] at hgd
    obtain ⟨hz0, hz1'⟩ := hgd
    have HKEY : Hid (keyOf Try.prog 3 (.int .i64 p1.size) = some (.int .i64 p1.size)) := keyOf_int_mk Try.underlying3 (WalkArith.wf_i64 (by omega))
    obtain ⟨q, hq⟩ : ∃ q, costF s p1.size = q := ⟨_, rfl⟩
    have HATK : Hid (D.atKey (.int .i64 p1.size) (.lit (.int .i64 0)) = .lit (.int .i64 q)) := by
      show _ = _
      have hk := HHAS.out (K % (m + 1)) hKm
      try dsimp only at hk
      rw [hszK] at hk
      rw [← hq]
      exact HPR.out _ hk
    have hqb : 0 ≤ q ∧ q ≤ 2200000001 := by
      obtain ⟨⟨r0, r1⟩, ⟨o0, o1⟩, _⟩ := HNUM.out
      obtain ⟨e0, e1⟩ := cost_small r0 r1 o0 o1 hz0 hz1'
      rw [← hq]; exact up_small e0 e1
    obtain ⟨qb0, qb1⟩ := hqb
    have HQ : Hid (costF s p1.size = q) := hq
    have n1' : 0 ≤ now ∧ now ≤ 1000000000000 := ⟨n0, n1⟩
    have g3 := sG.cell 3
    have x2' := (HSX8.out).sv.cell 2
    have xf := (HSX8.out).sv.frozen
    have H07 : Hid (Below W0.heap.size W0 u7) := (H06.out).trans (((HB7.out).trans (ba7.mono (Nat.le_trans (HSW6.out).bw (HB7.out).size))).mono (HB1.out).size)
    rw [hu7]
    try rw [hG]
    clear hu7 hG ba7 sG hph hhh hlen hKm htK hszK hq
    go_upto_region 9 with (at_lookup; refine wpList_lookup_own_int _ rfl _ _ 69 rfl 3 3 .i64 lawInt Try.underlying69 Try.underlying3 (zeroInt _) M (m + 1) D rfl HOWN7.out _ _ rfl HKEY.out ?_; intro c9 hat hwc; obtain rfl : c9 = q := (by have := hat.symm.trans HATK.out; simpa using this); clear hat hwc)
    obtain ⟨u8, hu8⟩ : ∃ v, u7.setCell ⟨V, 2, none⟩ (.int .i64 (now + c9)) = v := ⟨_, rfl⟩
    have sx9 := (HSX8.out).next (now + c9)
    rw [hu8] at sx9 ⊢
    obtain ⟨S1, hS1⟩ : ∃ S, (⟨s.rt, s.ov, now + c9, s.qt, s.lim⟩ : Sh) = S := ⟨_, rfl⟩
    obtain ⟨LL, hLL⟩ : ∃ l, popLn L (shK ts s.qt (fun i => (L i).sh) K) (popHost ts K) = l := ⟨_, rfl⟩
    obtain ⟨TT, hTT⟩ : ∃ l, popTs L ts K = l := ⟨_, rfl⟩
    rw [hS1, hLL] at sx9
    have HS1 : Hid (S1 = ⟨s.rt, s.ov, now + costF s ((L (popHost ts K)).f 0).size, s.qt, s.lim⟩) := by show _ = _; rw [← hS1, ← HP1.out, HQ.out]
    have HL1 : Hid (LL = popLn L (shK ts s.qt (fun i => (L i).sh) K) (popHost ts K)) := hLL.symm
    have HTT : Hid (TT = popTs L ts K) := hTT.symm
    have HTE : Hid ((List.range n').map tn' = TT) := by show _ = _; rw [← hTT]; exact HT7.out
    have HNL : Hid (n' = TT.length) := by show _ = _; have := congrArg List.length HTE.out; simpa using this
    have HSX9 : Hid (SX w1.heap.size u8 V B cl S1 A' C' LL y' n' cy' tn') := sx9
    have lV9 := (HSX8.out).sv.lt
    have lG9 := Sits.lt HG7.out
    have hVw := (HSX8.out).bV
    have hGV : G ≠ V := by have := (HB7.out).size; have := (HSW6.out).sv.lt; have := Sits.lt HG7.out; intro e; subst e; have h1 := HG7.out; have h2 := (HSX8.out).sv; have h3 : (Obj.cells (pkCells p1) 31) = .cells _ 29 := Option.some.inj ((show u7.heap[G]? = some _ from h1).symm.trans h2); simp at h3
    have hGo : w.heap.size + 3 ≤ G := HGO.out
    have sG9 : Sits u8 G (pkCells p1) 31 := by rw [← hu8]; exact Sits.other HG7.out hGV _
    have HK : Hid (∀ w' : World, w'.heap[V]? = u8.heap[V]? → w'.heap[G]? = u8.heap[G]? → (w'.cell? ⟨V, 0, none⟩ = some (.int .i64 S1.rt) ∧ w'.cell? ⟨V, 1, none⟩ = some (.int .i64 S1.ov) ∧ w'.cell? ⟨V, 2, none⟩ = some (.int .i64 S1.nx) ∧ w'.cell? ⟨V, 3, none⟩ = some (.int .i64 S1.qt) ∧ w'.cell? ⟨V, 4, none⟩ = some (.int .i64 S1.lim) ∧ w'.cell? ⟨V, 5, none⟩ = some (.slice (some ⟨B, 0, none⟩) 4 cl) ∧ w'.cell? ⟨V, 6, none⟩ = some (.slice y' n' cy')) ∧ (w'.cell? ⟨G, 0, none⟩ = some (.int .i64 p1.id) ∧ w'.cell? ⟨G, 1, none⟩ = some (.int .i64 p1.flow) ∧ w'.cell? ⟨G, 2, none⟩ = some (.int .i64 p1.host) ∧ w'.cell? ⟨G, 3, none⟩ = some (.int .i64 p1.size) ∧ w'.cell? ⟨G, 4, none⟩ = some (.int .i64 p1.tm) ∧ w'.cell? ⟨G, 5, none⟩ = some (.int .i64 p1.ecn))) := fun w' e1 e2 => by
      have t1 : Sits w' V (shCells S1 (some ⟨B, 0, none⟩) 4 cl y' n' cy') 29 := e1.trans sx9.sv
      have t2 : Sits w' G (pkCells p1) 31 := e2.trans sG9
      exact ⟨⟨t1.cell 0, t1.cell 1, t1.cell 2, t1.cell 3, t1.cell 4, t1.cell 5, t1.cell 6⟩, ⟨t2.cell 0, t2.cell 1, t2.cell 2, t2.cell 3, t2.cell 4, t2.cell 5⟩⟩
    obtain ⟨⟨_, r1, r2⟩, bw7⟩ := HA.out _ H07.out
    have R1 : Sits u8 (w.heap.size + 1) shZero 29 := by rw [← hu8]; exact r1.other (by omega) _
    have R2 : Sits u8 (w.heap.size + 1 + 1) (pkCells pk0) 31 := by rw [← hu8]; exact r2.other (by omega) _
    have HR1 : Hid (Sits u8 (w.heap.size + 1) shZero 29) := R1
    have HR2 : Hid (Sits u8 (w.heap.size + 1 + 1) (pkCells pk0) 31) := R2
    have HBW8 : Hid (Below w.heap.size w u8) := by show Below _ _ _; rw [← hu8]; exact bw7.setCell (show w.heap.size ≤ V by omega) _
    have r1_0 := R1.cell 0
    have r1_1 := R1.cell 1
    have r1_2 := R1.cell 2
    have r1_3 := R1.cell 3
    have r1_4 := R1.cell 4
    have r1_5 := R1.cell 5
    have r1_6 := R1.cell 6
    have r1f := R1.frozen
    have r2_0 := R2.cell 0
    have r2_1 := R2.cell 1
    have r2_2 := R2.cell 2
    have r2_3 := R2.cell 3
    have r2_4 := R2.cell 4
    have r2_5 := R2.cell 5
    have r2f := R2.frozen
    have hV1 : V ≠ w.heap.size + 1 := by omega
    have hV2 : V ≠ w.heap.size + 1 + 1 := by omega
    have hG1 : G ≠ w.heap.size + 1 := by omega
    have hG2 : G ≠ w.heap.size + 1 + 1 := by omega
    have hd1 : u8.drew.heap[V]? = u8.heap[V]? := rfl
    have hd2 : u8.drew.heap[G]? = u8.heap[G]? := rfl
    have hd3 : (set7 u8 (w.heap.size + 1) S1 (some ⟨B, 0, none⟩) 4 cl y' n' cy').drew.heap[V]? = u8.heap[V]? := drew_keep (set7_keep hV1 S1 (some ⟨B, 0, none⟩) 4 cl y' n' cy')
    have hd4 : (set7 u8 (w.heap.size + 1) S1 (some ⟨B, 0, none⟩) 4 cl y' n' cy').drew.heap[G]? = u8.heap[G]? := drew_keep (set7_keep hG1 S1 (some ⟨B, 0, none⟩) 4 cl y' n' cy')
    have hd5 : (set6 (set7 u8 (w.heap.size + 1) S1 (some ⟨B, 0, none⟩) 4 cl y' n' cy') (w.heap.size + 1 + 1) p1).drew.heap[V]? = u8.heap[V]? := drew_keep ((set6_keep' hV2 p1).trans (set7_keep hV1 S1 (some ⟨B, 0, none⟩) 4 cl y' n' cy'))
    have hd6 : (set6 (set7 u8 (w.heap.size + 1) S1 (some ⟨B, 0, none⟩) 4 cl y' n' cy') (w.heap.size + 1 + 1) p1).drew.heap[G]? = u8.heap[G]? := drew_keep ((set6_keep' hG2 p1).trans (set7_keep hG1 S1 (some ⟨B, 0, none⟩) 4 cl y' n' cy'))
    clear hS1 hLL hTT hu8 sx9 sG9 r1 r2 R1 R2 bw7 g3 x2' xf hGV
    set_option maxRecDepth 100000 in go_region_held3 (fun w' => (w'.cell? ⟨V, 0, none⟩ = some (.int .i64 S1.rt) ∧ w'.cell? ⟨V, 1, none⟩ = some (.int .i64 S1.ov) ∧ w'.cell? ⟨V, 2, none⟩ = some (.int .i64 S1.nx) ∧ w'.cell? ⟨V, 3, none⟩ = some (.int .i64 S1.qt) ∧ w'.cell? ⟨V, 4, none⟩ = some (.int .i64 S1.lim) ∧ w'.cell? ⟨V, 5, none⟩ = some (.slice (some ⟨B, 0, none⟩) 4 cl) ∧ w'.cell? ⟨V, 6, none⟩ = some (.slice y' n' cy')) ∧ (w'.cell? ⟨G, 0, none⟩ = some (.int .i64 p1.id) ∧ w'.cell? ⟨G, 1, none⟩ = some (.int .i64 p1.flow) ∧ w'.cell? ⟨G, 2, none⟩ = some (.int .i64 p1.host) ∧ w'.cell? ⟨G, 3, none⟩ = some (.int .i64 p1.size) ∧ w'.cell? ⟨G, 4, none⟩ = some (.int .i64 p1.tm) ∧ w'.cell? ⟨G, 5, none⟩ = some (.int .i64 p1.ecn))) (first | (with_reducible exact HK.out _ hd1 hd2) | (with_reducible exact HK.out _ hd3 hd4) | (with_reducible exact HK.out _ hd5 hd6) | fail) (fail)
    all_goals go_wp2
    all_goals
      have so : Sits (set6 (set7 u8 (w.heap.size + 1) S1 (some ⟨B, 0, none⟩) 4 cl y' n' cy') (w.heap.size + 1 + 1) p1) (w.heap.size + 1) (shCells S1 (some ⟨B, 0, none⟩) 4 cl y' n' cy') 29 := (set6_keep' hVP _).trans (sh_put7 HR1.out _ _ _ _ _ _ _)
      have po : Sits (set6 (set7 u8 (w.heap.size + 1) S1 (some ⟨B, 0, none⟩) 4 cl y' n' cy') (w.heap.size + 1 + 1) p1) (w.heap.size + 1 + 1) (pkCells p1) 31 := pk_put (W := set7 u8 (w.heap.size + 1) S1 (some ⟨B, 0, none⟩) 4 cl y' n' cy') (p := pk0) ((set7_keep (fun e => hVP e.symm) _ _ _ _ _ _ _).trans HR2.out) p1
      have k9 := chg_drew (set76_chg u8 (w.heap.size + 1) (w.heap.size + 1 + 1) (w.heap.size + 1) (w.heap.size + 3) (by omega) (by omega) (by omega) (by omega) S1 (some ⟨B, 0, none⟩) 4 cl y' n' cy' p1)
      have hm := MO0.mono (MO0.chg (MO0.of_sx HSX9.out HTE.out) k9 hz1) (show w.heap.size ≤ w1.heap.size by omega)
      refine bodyPost_ret (ret_shpb (p := p1) Try.results9 rfl rfl rfl (sits_drew so) (sits_drew po)) rfl ?_
      exact pop_some HE.out hnb HK7.out HS1.out HL1.out HTT.out HP1.out hm HNL.out (k9.bel HBW8.out (Nat.le_succ _))

end Go.Proofs.Ytmjggolllijamaa

/-
  THE LAWS' shapes: it answers true.
-/
namespace Go.Proofs.Ytmjggolllijamaa
open Go.RowKit
set_option linter.unusedVariables false

theorem below_set7 {C : Nat} {w W : World} (hb : Below C w W) {V : Nat} (hV : C ≤ V) (s : Sh) (a : Option Addr) (N ca : Nat) (b : Option Addr) (n cb : Nat) : Below C w (set7 W V s a N ca b n cb) :=
  ((((((hb.setCell hV _).setCell hV _).setCell hV _).setCell hV _).setCell hV _).setCell hV _).setCell hV _
theorem MK0.set7 {base : Nat} {w : World} {x : Option Addr} {N : Nat} {L : Nat → Ln} {y : Option Addr} {n : Nat} {tn : Nat → Int} (h : MK0 base w x N L y n tn) {V : Nat} (hV : V < base) (s : Sh) (a : Option Addr) (N' ca : Nat) (b : Option Addr) (n' cb : Nat) : MK0 base (set7 w V s a N' ca b n' cb) x N L y n tn :=
  h.keep (fun k hk _ => set7_keep (by omega) _ _ _ _ _ _ _) (by simp)

theorem MO0.set7 {base : Nat} {w : World} {x : Option Addr} {N : Nat} {L : Nat → Ln} {y : Option Addr} {n : Nat} {tn : Nat → Int} (h : MO0 base w x N L y n tn) {V : Nat} (hV : V < base) (s : Sh) (a : Option Addr) (N' ca : Nat) (b : Option Addr) (n' cb : Nat) : MO0 base (set7 w V s a N' ca b n' cb) x N L y n tn :=
  h.keep (fun k hk _ => set7_keep (by omega) _ _ _ _ _ _ _) (by simp)

set_option maxRecDepth 100000 in
set_option maxHeartbeats 4000000 in
theorem shapes_any (w : World) : Calls Try.prog 18 #[] w fun e w' => e = .returned (.bool true) ∧ Below w.heap.size w w' := by
  obtain ⟨s, hs⟩ : ∃ s : Sh, s = sQ := ⟨_, rfl⟩
  obtain ⟨L1, hL1⟩ : ∃ l, l = LQ1 := ⟨_, rfl⟩
  obtain ⟨L2, hL2⟩ : ∃ l, l = LQ2 := ⟨_, rfl⟩
  have HNEW : Hid (Calls Try.prog 56 #[.int .i64 1000, .int .i64 0, .int .i64 1514, .int .i64 5] w fun e w' => ∃ B : Nat, e = .returned (.tuple #[shVal s (some ⟨B, 0, none⟩) 4 4 none 0 0, .bool true]) ∧ LR w'.heap.size w' (some ⟨B, 0, none⟩) 4 emL ∧ Below w.heap.size w w') := by
    refine (ishapeNew_any 1000 0 1514 5 w).mono ?_
    rintro e w' (⟨_, B, rfl, lo, hb⟩ | ⟨h, _⟩)
    · exact ⟨B, by rw [hs], lo.lr, hb⟩
    · rw [q_new] at h; cases h
  have HPU1 : Hid (∀ (W : World) (a : Option Addr), LR W.heap.size W a 4 emL → Calls Try.prog 15 #[shVal s a 4 4 none 0 0, pQ1.val] W fun e w' => ∃ (x : Option Addr) (cl : Nat) (y : Option Addr) (cy : Nat), e = .returned (.tuple #[shVal s x 4 cl y 1 cy, .bool true]) ∧ MK0 W.heap.size w' x 4 L1 y 1 (seq TQ1) ∧ Below W.heap.size W w') := fun W a hlr => by
    rw [hs, hL1]
    refine (ipush_law sQ a 4 4 none 0 0 emL (fun _ => 0) pQ1 W (by omega) (by rw [cnt_em]; omega) (by omega) hlr (.inl rfl)).mono ?_
    rintro e w' ⟨x, cl, y, cy, rfl, mk, hb⟩
    have e1 : spS sQ 4 emL ((List.range 0).map fun _ => (0 : Int)) pQ1 = sQ := if_pos q_may1
    have e2 : spN sQ 4 emL ((List.range 0).map fun _ => (0 : Int)) pQ1 = 4 := if_pos q_may1
    have e3 : spT sQ 4 emL ((List.range 0).map fun _ => (0 : Int)) pQ1 = TQ1 := if_pos q_may1
    have e4 : spB sQ 4 emL ((List.range 0).map fun _ => (0 : Int)) pQ1 = true := by show (mayB sQ 4 emL [] pQ1 && shpB sQ emL pQ1) = true; rw [q_may1, q_in1]; rfl
    have e5 : TQ1.length = 1 := by rw [q_t1]; rfl
    rw [e2, e3, e5] at mk
    exact ⟨x, cl, y, cy, by rw [e1, e2, e3, e4, e5], mk, hb⟩
  have HPU2 : Hid (∀ (W : World) (a : Option Addr) (ca : Nat) (b : Option Addr) (cb : Nat), LR W.heap.size W a 4 L1 → Row .i64 W b 1 (seq TQ1) → Calls Try.prog 15 #[shVal s a 4 ca b 1 cb, pQ2.val] W fun e w' => ∃ (x : Option Addr) (cl : Nat) (y : Option Addr) (cy : Nat), e = .returned (.tuple #[shVal s x 4 cl y 1 cy, .bool true]) ∧ MK0 W.heap.size w' x 4 L2 y 1 (seq TQ2) ∧ Below W.heap.size W w') := fun W a ca b cb hlr hrow => by
    rw [hs, hL2]
    rw [hL1] at hlr
    have e0 : (List.range 1).map (seq TQ1) = TQ1 := by rw [q_t1]; rfl
    refine (ipush_law sQ a 4 ca b 1 cb LQ1 (seq TQ1) pQ2 W (by omega) (by rw [q_c1]; omega) (by omega) hlr hrow).mono ?_
    rw [e0]
    rintro e w' ⟨x, cl, y, cy, rfl, mk, hb⟩
    have e1 : spS sQ 4 LQ1 TQ1 pQ2 = sQ := if_pos q_may2
    have e2 : spN sQ 4 LQ1 TQ1 pQ2 = 4 := if_pos q_may2
    have e3 : spT sQ 4 LQ1 TQ1 pQ2 = TQ2 := if_pos q_may2
    have e4 : spB sQ 4 LQ1 TQ1 pQ2 = true := by show (mayB sQ 4 LQ1 TQ1 pQ2 && shpB sQ LQ1 pQ2) = true; rw [q_may2, q_in2]; rfl
    have e5 : TQ2.length = 1 := by rw [q_t2]; rfl
    rw [e2, e3, e5] at mk
    exact ⟨x, cl, y, cy, by rw [e1, e2, e3, e4, e5], mk, hb⟩
  have HPO1 : Hid (∀ (W : World) (a : Option Addr) (ca : Nat) (b : Option Addr) (cb : Nat), LR W.heap.size W a 4 L2 → Row .i64 W b 1 (seq TQ2) → Calls Try.prog 9 #[shVal s a 4 ca b 1 cb, .int .i64 0] W fun e w' => ∃ (S : Sh) (L : Nat → Ln) (T : List Int) (p : Pk) (x : Option Addr) (cl : Nat) (y : Option Addr) (n cy : Nat), S.nx = 1000000000 ∧ p.id = 1 ∧ n = T.length ∧ n ≤ 4 ∧ cntF L 4 ≤ 2 ∧ e = .returned (.tuple #[shVal S x 4 cl y n cy, p.val, .bool true]) ∧ MO0 W.heap.size w' x 4 L y n (seqT T) ∧ Below W.heap.size W w') := fun W a ca b cb hlr hrow => by
    rw [hs]
    rw [hL2] at hlr
    have e0 : (List.range 1).map (seq TQ2) = TQ2 := by rw [q_t2]; rfl
    refine (ishapePop_any sQ a 4 ca b 1 cb LQ2 (seq TQ2) 0 W (by omega) (by rw [q_c2]; omega) (by omega) hlr hrow).mono ?_
    rw [e0]
    rintro e w' ⟨S, N, L, T, p, ok, x, cl, y, cy, hp, rfl, mo, hb⟩
    obtain ⟨rfl, h1, h2, rfl, h3, h4⟩ := q_pop hp
    exact ⟨S, L, T, p, x, cl, y, _, cy, h2, h1, rfl, h4, h3, rfl, mo, hb⟩
  have HPO2 : Hid (∀ (W : World) (S : Sh) (L : Nat → Ln) (T : List Int) (a : Option Addr) (ca : Nat) (b : Option Addr) (n cb : Nat), S.nx = 1000000000 → n = T.length → n ≤ 4 → cntF L 4 ≤ 2 → LR W.heap.size W a 4 L → Row .i64 W b n (seqT T) → Calls Try.prog 9 #[shVal S a 4 ca b n cb, .int .i64 999999999] W fun e w' => ∃ (S' : Sh) (N : Nat) (n' : Nat) (p : Pk) (x : Option Addr) (cl : Nat) (y : Option Addr) (cy : Nat), e = .returned (.tuple #[shVal S' x N cl y n' cy, p.val, .bool false]) ∧ Below W.heap.size W w') := fun W S L T a ca b n cb hnx hn hn4 hc hlr hrow => by
    refine (ishapePop_any S a 4 ca b n cb L (seqT T) 999999999 W (by omega) (by omega) (by omega) hlr hrow).mono ?_
    rintro e w' ⟨S1, N, L', T', p, ok, x, cl, y, cy, hp, rfl, mo, hb⟩
    obtain rfl := q_pop2 hnx hp
    exact ⟨S1, N, _, p, x, cl, y, cy, rfl, hb⟩
  clear hs hL1 hL2
  go_enter Try.func18, Try.ntmps18
  go_upto_region 2 with (go_at_call 56; refine (HNEW.out).mono ?_; rintro e w1 ⟨B, rfl, lr1, b1⟩; have HLR1 : Hid (LR w1.heap.size w1 (some ⟨B, 0, none⟩) 4 emL) := lr1; have HB1 : Hid (Below w.heap.size w w1) := b1; clear lr1 b1)
  obtain ⟨V, hV⟩ : ∃ V, w1.heap.size = V := ⟨_, rfl⟩
  obtain ⟨W1, hW1⟩ : ∃ W, w1.alloc (.cells (shCells s (some ⟨B, 0, none⟩) 4 4 none 0 0) 29) = W := ⟨_, rfl⟩
  have hVw : w.heap.size ≤ V := by rw [← hV]; exact (HB1.out).size
  have SV : Hid (Sits W1 V (shCells s (some ⟨B, 0, none⟩) 4 4 none 0 0) 29) := by show Sits _ _ _ _; rw [← hW1]; exact Sits.new' hV
  have HB2 : Hid (Below w.heap.size w W1) := by show Below _ _ _; rw [← hW1]; exact (HB1.out).alloc (HB1.out).size _
  have HLR2 : Hid (LR W1.heap.size W1 (some ⟨B, 0, none⟩) 4 emL) := by show LR _ _ _ _ _; rw [← hW1]; exact (HLR1.out).go ((Below.refl _ _).alloc (Nat.le_refl _) _) (by simp)
  rw [hW1, hV]
  clear hW1 hV HB1 HLR1 HNEW
  have v0 := Sits.cell SV.out 0
  have v1 := Sits.cell SV.out 1
  have v2 := Sits.cell SV.out 2
  have v3 := Sits.cell SV.out 3
  have v4 := Sits.cell SV.out 4
  have v5 := Sits.cell SV.out 5
  have v6 := Sits.cell SV.out 6
  have vf := Sits.frozen SV.out
  go_upto_region 3 with (go_at_call 15; refine (HPU1.out _ _ HLR2.out).mono ?_; rintro e w2 ⟨x, cl, y, cy, rfl, mk, b2⟩; have HMK2 : Hid (MK0 W1.heap.size w2 x 4 L1 y 1 (seq TQ1)) := mk; have HB3 : Hid (Below w.heap.size w w2) := (HB2.out).trans (b2.mono (HB2.out).size); have sv2 := Sits.below SV.out b2 (Sits.lt SV.out); have SV2 : Hid (Sits w2 V (shCells s (some ⟨B, 0, none⟩) 4 4 none 0 0) 29) := sv2; have u0 := sv2.cell 0; have u1 := sv2.cell 1; have u2 := sv2.cell 2; have u3 := sv2.cell 3; have u4 := sv2.cell 4; have u5 := sv2.cell 5; have u6 := sv2.cell 6; have uf := sv2.frozen; clear mk b2 sv2)
  obtain ⟨W2, hW2⟩ : ∃ W, set7 w2 V s x 4 cl y 1 cy = W := ⟨_, rfl⟩
  have hVl := Sits.lt SV.out
  have SV3 : Hid (Sits W2 V (shCells s x 4 cl y 1 cy) 29) := by show Sits _ _ _ _; rw [← hW2]; exact sh_put7 SV2.out _ _ _ _ _ _ _
  have HMK3 : Hid (MK0 W1.heap.size W2 x 4 L1 y 1 (seq TQ1)) := by show MK0 _ _ _ _ _ _ _ _; rw [← hW2]; exact MK0.set7 HMK2.out hVl _ _ _ _ _ _ _
  have HB4 : Hid (Below w.heap.size w W2) := by show Below _ _ _; rw [← hW2]; exact below_set7 HB3.out hVw _ _ _ _ _ _ _
  unfold set7 at hW2
  rw [hW2]
  clear hW2 HMK2 SV2 HB3 u0 u1 u2 u3 u4 u5 u6 uf v0 v1 v2 v3 v4 v5 v6 vf SV HB2 HLR2 HPU1 hVl
  have v0 := Sits.cell SV3.out 0
  have v1 := Sits.cell SV3.out 1
  have v2 := Sits.cell SV3.out 2
  have v3 := Sits.cell SV3.out 3
  have v4 := Sits.cell SV3.out 4
  have v5 := Sits.cell SV3.out 5
  have v6 := Sits.cell SV3.out 6
  have vf := Sits.frozen SV3.out
  go_upto_region 4 with (go_at_call 15; refine (HPU2.out _ _ _ _ _ (MK0.lr HMK3.out) (MK0.row HMK3.out)).mono ?_; rintro e w3 ⟨x', cl', y', cy', rfl, mk, b2⟩; have HMK4 : Hid (MK0 W2.heap.size w3 x' 4 L2 y' 1 (seq TQ2)) := mk; have HB5 : Hid (Below w.heap.size w w3) := (HB4.out).trans (b2.mono (HB4.out).size); have sv2 := Sits.below SV3.out b2 (Sits.lt SV3.out); have SV4 : Hid (Sits w3 V (shCells s x 4 cl y 1 cy) 29) := sv2; have u0 := sv2.cell 0; have u1 := sv2.cell 1; have u2 := sv2.cell 2; have u3 := sv2.cell 3; have u4 := sv2.cell 4; have u5 := sv2.cell 5; have u6 := sv2.cell 6; have uf := sv2.frozen; clear mk b2 sv2)
  obtain ⟨W3, hW3⟩ : ∃ W, set7 w3 V s x' 4 cl' y' 1 cy' = W := ⟨_, rfl⟩
  have hVl := Sits.lt SV3.out
  have SV5 : Hid (Sits W3 V (shCells s x' 4 cl' y' 1 cy') 29) := by show Sits _ _ _ _; rw [← hW3]; exact sh_put7 SV4.out _ _ _ _ _ _ _
  have HMK5 : Hid (MK0 W2.heap.size W3 x' 4 L2 y' 1 (seq TQ2)) := by show MK0 _ _ _ _ _ _ _ _; rw [← hW3]; exact MK0.set7 HMK4.out hVl _ _ _ _ _ _ _
  have HB6 : Hid (Below w.heap.size w W3) := by show Below _ _ _; rw [← hW3]; exact below_set7 HB5.out hVw _ _ _ _ _ _ _
  unfold set7 at hW3
  rw [hW3]
  clear hW3 HMK4 SV4 HB5 u0 u1 u2 u3 u4 u5 u6 uf v0 v1 v2 v3 v4 v5 v6 vf SV3 HB4 HMK3 HPU2 hVl
  have v0 := Sits.cell SV5.out 0
  have v1 := Sits.cell SV5.out 1
  have v2 := Sits.cell SV5.out 2
  have v3 := Sits.cell SV5.out 3
  have v4 := Sits.cell SV5.out 4
  have v5 := Sits.cell SV5.out 5
  have v6 := Sits.cell SV5.out 6
  have vf := Sits.frozen SV5.out
  go_upto_region 5 with (go_at_call 9; refine (HPO1.out _ _ _ _ _ (MK0.lr HMK5.out) (MK0.row HMK5.out)).mono ?_; rintro e w4 ⟨S, LL, T, p, X, CL, Y, n, CY, hnx, hid, hn, hn4, hcl, rfl, mo, b2⟩; have HNX : Hid (S.nx = 1000000000) := hnx; have HID : Hid (p.id = 1) := hid; have HN : Hid (n = T.length) := hn; have HN4 : Hid (n ≤ 4) := hn4; have HCL : Hid (cntF LL 4 ≤ 2) := hcl; have HMO4 : Hid (MO0 W3.heap.size w4 X 4 LL Y n (seqT T)) := mo; have HB7 : Hid (Below w.heap.size w w4) := (HB6.out).trans (b2.mono (HB6.out).size); have sv2 := Sits.below SV5.out b2 (Sits.lt SV5.out); have SV6 : Hid (Sits w4 V (shCells s x' 4 cl' y' 1 cy') 29) := sv2; have u0 := sv2.cell 0; have u1 := sv2.cell 1; have u2 := sv2.cell 2; have u3 := sv2.cell 3; have u4 := sv2.cell 4; have u5 := sv2.cell 5; have u6 := sv2.cell 6; have uf := sv2.frozen; have hnV : ¬ V = w4.heap.size := Nat.ne_of_lt sv2.lt; have hlV : V < w4.heap.size := sv2.lt; clear mo b2 sv2 hnx hid hn hn4 hcl)
  obtain ⟨P, hP⟩ : ∃ P, w4.heap.size = P := ⟨_, rfl⟩
  obtain ⟨W4, hW4⟩ : ∃ W, (set7 w4 V S X 4 CL Y n CY).alloc (.cells (pkCells p) 31) = W := ⟨_, rfl⟩
  have hVl := Sits.lt SV5.out
  have SV7 : Hid (Sits W4 V (shCells S X 4 CL Y n CY) 29) := by show Sits _ _ _ _; rw [← hW4]; exact (sh_put7 SV6.out _ _ _ _ _ _ _).alloc _
  have PP7 : Hid (Sits W4 P (pkCells p) 31) := by show Sits _ _ _ _; rw [← hW4]; exact Sits.new' (by rw [← hP]; simp)
  have HMO7 : Hid (MO0 W3.heap.size W4 X 4 LL Y n (seqT T)) := by show MO0 _ _ _ _ _ _ _ _; rw [← hW4]; exact (MO0.set7 HMO4.out hVl _ _ _ _ _ _ _).below ((Below.refl _ _).alloc (Nat.le_refl _) _)
  have HB8 : Hid (Below w.heap.size w W4) := by show Below _ _ _; rw [← hW4]; exact (below_set7 HB7.out hVw _ _ _ _ _ _ _).alloc (by have := (HB7.out).size; simp; omega) _
  unfold set7 at hW4
  rw [hW4]
  (try rw [hP])
  clear hW4 hP HMO4 SV6 HB7 u0 u1 u2 u3 u4 u5 u6 uf v0 v1 v2 v3 v4 v5 v6 vf SV5 HB6 HMK5 HPO1 hVl hnV hlV
  have v0 := Sits.cell SV7.out 0
  have v1 := Sits.cell SV7.out 1
  have v2 := Sits.cell SV7.out 2
  have v3 := Sits.cell SV7.out 3
  have v4 := Sits.cell SV7.out 4
  have v5 := Sits.cell SV7.out 5
  have v6 := Sits.cell SV7.out 6
  go_upto_region 6 with (go_at_call 9; refine (HPO2.out _ _ _ _ _ _ _ _ _ HNX.out HN.out HN4.out HCL.out (MO0.lr HMO7.out) (MO0.row HMO7.out)).mono ?_; rintro e w5 ⟨S', N', n', p', X', CL', Y', CY', rfl, b2⟩; have HB9 : Hid (Below w.heap.size w w5) := (HB8.out).trans (b2.mono (HB8.out).size); have PP8 : Hid (Sits w5 P (pkCells p) 31) := Sits.below PP7.out b2 (Sits.lt PP7.out); clear b2)
  clear v0 v1 v2 v3 v4 v5 v6 SV7 HMO7 HB8 PP7 HPO2
  obtain ⟨W5, hW5⟩ : ∃ W, (w5.alloc (.cells (shCells S' X' N' CL' Y' n' CY') 29)).alloc (.cells (pkCells p') 31) = W := ⟨_, rfl⟩
  have hb : Below w5.heap.size w5 W5 := by rw [← hW5]; exact ((Below.refl _ _).alloc (Nat.le_refl _) _).alloc (by simp) _
  have HB10 : Hid (Below w.heap.size w W5) := (HB9.out).trans (hb.mono (HB9.out).size)
  have p0 := (Sits.below PP8.out hb (Sits.lt PP8.out)).cell 0
  rw [hW5]
  clear hW5 hb HB9 PP8
  have hid := HID.out
  go_wp2
  go_ret
  exact ⟨rfl, HB10.out⟩

end Go.Proofs.Ytmjggolllijamaa

/-
  THE LAWS' all: the packets of lines, line by line.
-/
namespace Go.Proofs.Ytmjggolllijamaa
open Go.RowKit
set_option linter.unusedVariables false

/-- f, and g behind it. -/
def joinP (f : Nat → Pk) (m : Nat) (g : Nat → Pk) (i : Nat) : Pk := if i < m then f i else g (i - m)
theorem cellsL_join (f : Nat → Pk) (m : Nat) (g : Nat → Pk) (k : Nat) : cellsL f m ++ cellsL g k = cellsL (joinP f m g) (m + k) := by
  apply List.ext_getElem?
  intro j
  by_cases h1 : j < m * 6
  · rw [List.getElem?_append_left (by rw [cellsL_len]; exact h1), cellsL_get _ _ _ h1, cellsL_get _ _ _ (by omega)]
    unfold flat joinP
    rw [if_pos (by omega)]
  · rw [List.getElem?_append_right (by rw [cellsL_len]; omega), cellsL_len]
    by_cases h2 : j < (m + k) * 6
    · rw [cellsL_get _ _ _ (by omega), cellsL_get _ _ _ h2]
      unfold flat joinP
      rw [if_neg (by omega), show (j - m * 6) / 6 = j / 6 - m by omega, show (j - m * 6) % 6 = j % 6 by omega]
    · rw [List.getElem?_eq_none (by rw [cellsL_len]; omega), List.getElem?_eq_none (by rw [cellsL_len]; omega)]
theorem wp_append_pkN {w : World} {o : Oper} {a : Act} {K : Act → World → Prop} {Q : Exit → Act → World → Prop} (s x : Operand)
    (ho : o.op = .call { callee := .builtin .append, args := #[s, x], argTypes := #[48, 48] })
    (base : Nat) (y : Option Addr) (m cap : Nat) (f : Nat → Pk) (hs : a.eval s = .slice y m cap) (hown : PO base w y m cap f)
    (ad : Option Addr) (k c : Nat) (g : Nat → Pk) (hx : a.eval x = .slice ad k c) (hr : PR w.heap.size w ad k g) (hm : m + k ≤ 1048576) (hbase : base ≤ w.heap.size)
    (h : ∀ a' cap' w', PO base w' a' (m + k) cap' (joinP f m g) → w.grownBy w' (Value.slice y m cap).ownBlock → K (a.put o.dst (.slice a' (m + k) cap')) w') : o.wp Try.prog a w K Q := by
  obtain ⟨i0, hi0, hz0, hz1, hz2⟩ := infoPkt_parts
  by_cases h0 : k = 0
  · subst h0
    unfold Oper.wp execOp
    simp only [ho, resolve, invoke, builtin, Sem.run_bind, Sem.run_pure, Result.andThen_ok, List.map_toArray, List.map_cons, List.map_nil, hs, hx, append_none Try.prog w 48 o.type 31 i0 Try.underlying48 hi0 y m cap hown.cap ad c]
    exact h y cap w (hown.congr fun i hi => by unfold joinP; rw [if_pos hi]) (World.grownBy.refl _ _)
  · obtain ⟨b, off, rfl, hb, hc⟩ := PR.at hr (j := 0) (by omega)
    refine wp_append_lies w s x 48 ho base 31 i0 _ 6 48 Try.underlying48 hi0 hz0 hz1 hz2 rfl (by omega) _ m (cellsL f m) hs hown ⟨b, off, none⟩ k c (cellsL g k) hx (cellsL_len g k) ?_ (cellsL_one g k) (by omega) (by unfold maxLen; omega) (by omega) hbase _ rfl ?_
    · intro j u hu
      have hj : j < k * 6 := by
        have := (List.getElem?_eq_some_iff.1 hu).1
        rw [cellsL_len] at this
        exact this
      rw [cellsL_get g k j hj] at hu
      cases hu
      rw [WideShapes.add_plain]
      have hp := hc (j / 6) (by omega)
      unfold flat
      have hm : j % 6 < 6 := Nat.mod_lt _ (by omega)
      have hj' : off + j = off + j / 6 * 6 + j % 6 := by omega
      rw [hj']
      generalize j % 6 = t at hm
      have hc : t = 0 ∨ t = 1 ∨ t = 2 ∨ t = 3 ∨ t = 4 ∨ t = 5 := by omega
      rcases hc with rfl | rfl | rfl | rfl | rfl | rfl
      · exact hp.1
      · exact hp.2.1
      · exact hp.2.2.1
      · exact hp.2.2.2.1
      · exact hp.2.2.2.2.1
      · exact hp.2.2.2.2.2
    · intro g' cp w' h1 h2 h3 h4
      rw [cellsL_join] at h1
      exact h _ cp w' h1 h2

theorem wpList_append_pkN {w : World} {ops : Array Oper} {rest : List Oper} {o : Oper} {a : Act} {Q : Exit → Act → World → Prop} (hgd : o.guard = none) (s x : Operand)
    (ho : o.op = .call { callee := .builtin .append, args := #[s, x], argTypes := #[48, 48] })
    (base : Nat) (y : Option Addr) (m cap : Nat) (f : Nat → Pk) (hs : a.eval s = .slice y m cap) (hown : PO base w y m cap f)
    (ad : Option Addr) (k c : Nat) (g : Nat → Pk) (hx : a.eval x = .slice ad k c) (hr : PR w.heap.size w ad k g) (hm : m + k ≤ 1048576) (hbase : base ≤ w.heap.size)
    (h : ∀ a' cap' w', PO base w' a' (m + k) cap' (joinP f m g) → w.grownBy w' (Value.slice y m cap).ownBlock → wpList Try.prog ops Q rest (a.put o.dst (.slice a' (m + k) cap')) w') : wpList Try.prog ops Q (o :: rest) a w :=
  wpList_plain hgd fun _ hK => wp_append_pkN s x ho base y m cap f hs hown ad k c g hx hr hm hbase fun a' cap w' h2 h3 => hK _ _ (h a' cap w' h2 h3)

/-- The packets of N lines, line by line. -/
def allF (L : Nat → Ln) : Nat → Nat → Pk
  | 0 => fun _ => default
  | N + 1 => joinP (allF L N) (cntF L N) (L N).f

set_option maxRecDepth 100000 in
set_option maxHeartbeats 4000000 in
theorem all_any (a : Option Addr) (N ca : Nat) (L : Nat → Ln) (w : World) (hN : N ≤ 1048576) (hcn : cntF L N ≤ 1048576) (hP : LR w.heap.size w a N L) :
    Calls Try.prog 20 #[.slice a N ca] w fun e w' => ∃ (x : Option Addr) (c : Nat), e = .returned (.slice x (cntF L N) c) ∧ PO w.heap.size w' x (cntF L N) c (allF L N) ∧ Below w.heap.size w w' := by
  have HP : Hid (LR w.heap.size w a N L) := hP
  have HCN : Hid (cntF L N ≤ 1048576) := hcn
  clear hP hcn
  go_enter Try.func20, Try.ntmps20
  go_wp2
  go_loopw [3, 4] (fun out i W => ∃ (k : Nat) (x : Option Addr) (c : Nat), k ≤ N ∧ out = .slice x (cntF L k) c ∧ i = .int .i64 k ∧ PO w.heap.size W x (cntF L k) c (allF L k) ∧ Below w.heap.size w W) (fun _ i _ => N - (intOf i).toNat)
  case atStart => exact ⟨0, none, 0, Nat.zero_le _, rfl, rfl, PO.nil _ _ _, Below.refl _ _⟩
  case round =>
    obtain ⟨k, x, c, hk, rfl, rfl, hpo, hb⟩ := hrel
    obtain ⟨M, hM⟩ : ∃ M, cntF L k = M := ⟨_, rfl⟩
    have HM : Hid (cntF L k = M) := hM
    rw [hM] at hpo ⊢
    clear hM
    have HPO : Hid (PO w.heap.size wr x M c (allF L k)) := hpo
    have HB : Hid (Below w.heap.size w wr) := hb
    clear hpo hb
    by_cases hlt : k < N
    · have hlti : (k : Int) < (N : Int) := by omega
      obtain ⟨b, off, rfl, hbl, hl⟩ := LR.at HP.out hlt
      obtain ⟨xa, xc, hla, hle, hpr⟩ := hl k hlt
      have c0 := (hla.below HB.out hbl).1
      have HPR : Hid (PR w.heap.size w xa (L k).n (L k).f) := hpr
      have hle2 : (L k).n ≤ xc := hle
      have HSUM : Hid (M + (L k).n ≤ 1048576) := by
        have h1 := cntF_mono L (m := k + 1) (N := N) hlt
        have h2 := cntF_succ L k
        have h3 := HM.out
        have h4 := HCN.out
        show _ ≤ _
        omega
      clear hl hla hle hpr
      go_wp2_with (at_builtin; refine wpList_append_pkN rfl _ _ rfl w.heap.size x M c (allF L k) rfl HPO.out xa (L k).n xc (L k).f rfl ((PR.below HPR.out HB.out).mono (HB.out).size) HSUM.out (HB.out).size ?_; intro y cy w1 hpo1 hgr; have hb1 : Below w.heap.size w w1 := Below.grown HB.out hgr (HB.out).size (fun q e => (World.ownsRow.lt HPO.out q e).1))
      go_roundw
      case rel => exact ⟨k + 1, y, cy, by omega, by rw [cntF_succ, HM.out], by go_num, by rw [cntF_succ, HM.out]; unfold allF; rw [HM.out]; exact hpo1, hb1⟩
      case measure => simp [intOf]; omega
    · obtain rfl : k = N := by omega
      go_wp2
      go_ret
      exact ⟨x, c, by rw [HM.out]; rfl, by rw [HM.out]; exact HPO.out, HB.out⟩

end Go.Proofs.Ytmjggolllijamaa

/-
  THE LAWS' samePkts: two lists of the same packets are the same.
-/
namespace Go.Proofs.Ytmjggolllijamaa
open Go.RowKit
set_option linter.unusedVariables false

set_option maxHeartbeats 1000000 in
theorem samePkts_yes (a b : Option Addr) (n ca cb : Nat) (f g : Nat → Pk) (w : World) (hn : n ≤ 1048576) (ha : PR w.heap.size w a n f) (hb : PR w.heap.size w b n g) (hfg : ∀ i, i < n → f i = g i) :
    Calls Try.prog 19 #[.slice a n ca, .slice b n cb] w fun e w' => e = .returned (.bool true) ∧ Kept w w' ∧ w'.heap = w.heap := by
  have HA : Hid (PR w.heap.size w a n f) := ha
  have HB : Hid (PR w.heap.size w b n g) := hb
  have HF : Hid (∀ i, i < n → f i = g i) := hfg
  clear ha hb hfg
  go_enter Try.func19, Try.ntmps19
  go_wp2
  go_loopw [5] (fun i wr => ∃ k : Nat, k ≤ n ∧ i = .int .i64 k ∧ Kept w wr ∧ wr.heap = w.heap) (fun i _ => n - (intOf i).toNat)
  case atStart => exact ⟨0, Nat.zero_le _, rfl, Kept.refl _, rfl⟩
  case round =>
    obtain ⟨k, hk, rfl, hkept, hhp⟩ := hrel
    by_cases hlt : k < n
    · obtain ⟨b1, o1, rfl, l1, h1⟩ := PR.at HA.out hlt
      obtain ⟨b2, o2, rfl, l2, h2⟩ := PR.at HB.out hlt
      obtain ⟨c0, c1, c2, c3, c4, c5⟩ := (h1 k hlt).below hkept.1 l1
      obtain ⟨d0, d1, d2, d3, d4, d5⟩ := (h2 k hlt).below hkept.1 l2
      rw [← HF.out k hlt] at d0 d1 d2 d3 d4 d5
      clear h1 h2
      go_wp2
      go_region
      go_wp2
      go_roundw
      case rel => exact ⟨k + 1, by omega, by go_num, hkept.drew', hhp⟩
      case measure => simp [intOf]; omega
    · obtain rfl : k = n := by omega
      go_wp2
      go_ret
      exact ⟨rfl, hkept, hhp⟩

end Go.Proofs.Ytmjggolllijamaa
