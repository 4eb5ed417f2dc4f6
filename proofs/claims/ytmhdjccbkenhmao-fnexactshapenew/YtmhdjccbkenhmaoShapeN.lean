/-
  A NEW SHAPER: ShapeNew OF BOTH SIDES; marks on one whose Turn is empty.
-/
import Derived.Test.YtmhdjccbkenhmaoReady
import Derived.Test.YtmhdjccbkenhmaoLnHeld
namespace Go.Proofs.Ytmhdjccbkenhmao
open Go.RowKit
set_option linter.unusedVariables false

def emLn : Ln := ⟨0, fun _ => default, 0, ⟨0, 0, 0, 0, 0, 0, false⟩⟩
def emL : Nat → Ln := fun _ => emLn
theorem cnt_em : ∀ N, cntF emL N = 0
  | 0 => rfl
  | N + 1 => by rw [cntF_succ, cnt_em N]; rfl
/-- Is a new one well? -/
def newSB (r o q l : Int) : Bool := shB ⟨r, o, 0, q, l⟩ 4 emL []
theorem em_at (N k t : Nat) (hk : k < N) (ht : t < 9) : (madeCells lnZero (N * 9))[k * 9 + t]? = some (lnZero.getD t undef) := by
  have hi : k * 9 + t < N * 9 := by omega
  simp only [madeCells, Array.getElem?_map, Array.getElem?_range, hi, if_true, Option.map_some]
  have hm : (k * 9 + t) % 9 = t := by omega
  have hc : t = 0 ∨ t = 1 ∨ t = 2 ∨ t = 3 ∨ t = 4 ∨ t = 5 ∨ t = 6 ∨ t = 7 ∨ t = 8 := by omega
  rcases hc with rfl | rfl | rfl | rfl | rfl | rfl | rfl | rfl | rfl <;> simp [hm]
theorem em_lv (N k : Nat) (hk : k < N) : LV (madeCells lnZero (N * 9)) (k * 9) none 0 emLn :=
  ⟨em_at N k 0 hk (by omega), em_at N k 1 hk (by omega), em_at N k 2 hk (by omega), em_at N k 3 hk (by omega), em_at N k 4 hk (by omega), em_at N k 5 hk (by omega), em_at N k 6 hk (by omega), em_at N k 7 hk (by omega), em_at N k 8 hk (by omega)⟩
theorem ret_shb {fn : Func} {tmps : Array Value} {W : World} {i j B : Nat} {v0 v1 v2 v3 v4 v5 v6 : Value} {b : Bool} {t : TypeId} (hr : fn.results = #[.cell i 54, .tmp j]) (hi : tmps[i]?.getD undef = .pointer (some ⟨B, 0, none⟩)) (hj : tmps[j]?.getD undef = .bool b) (hs : Sits W B #[v0, v1, v2, v3, v4, v5, v6] t) : (results fn tmps).run Try.prog W = .ok (.tuple #[.agg #[v0, v1, v2, v3, v4, v5, v6], .bool b]) W := by
  have c0 : W.cell? ⟨B, 0, none⟩ = some v0 := hs.cell 0
  have c1 : W.cell? ⟨B, 1, none⟩ = some v1 := hs.cell 1
  have c2 : W.cell? ⟨B, 2, none⟩ = some v2 := hs.cell 2
  have c3 : W.cell? ⟨B, 3, none⟩ = some v3 := hs.cell 3
  have c4 : W.cell? ⟨B, 4, none⟩ = some v4 := hs.cell 4
  have c5 : W.cell? ⟨B, 5, none⟩ = some v5 := hs.cell 5
  have c6 : W.cell? ⟨B, 6, none⟩ = some v6 := hs.cell 6
  simp [results, hr, hi, hj, go_sem, c0, c1, c2, c3, c4, c5, c6]

set_option maxRecDepth 100000 in
set_option maxHeartbeats 4000000 in
theorem sshapeNew_any (r o q l : Int) (w : World) :
    Calls Try.prog 32 #[.int .i64 r, .int .i64 o, .int .i64 q, .int .i64 l] w fun e w' =>
      (newSB r o q l = true ∧ ∃ B : Nat, e = .returned (.tuple #[shVal ⟨r, o, 0, q, l⟩ (some ⟨B, 0, none⟩) 4 4 none 0 0, .bool true]) ∧ LO w.heap.size w' B 4 (fun _ => none) (fun _ => 0) emL ∧ Below w.heap.size w w') ∨
      (newSB r o q l = false ∧ e = .returned (.tuple #[shVal ⟨0, 0, 0, 0, 0⟩ none 0 0 none 0 0, .bool false]) ∧ Below w.heap.size w w') := by
  have hmk : ∀ w : World, (Instr.makeSlice 29 (.int .i64 4) (.int .i64 4)).run Try.prog w = .ok (.slice (some ⟨w.heap.size, 0, none⟩) 4 4) (w.alloc (.cells (madeCells lnZero (4 * 9)) 101)) := fun w => run_make_ln 4 (by omega) w
  obtain ⟨V, hV⟩ : ∃ V, madeCells lnZero (4 * 9) = V := ⟨_, rfl⟩
  have HV : Hid (madeCells lnZero (4 * 9) = V) := hV
  rw [hV] at hmk
  clear hV
  obtain ⟨W0, hW0⟩ : ∃ W, ((w.alloc (.cells shZero 54)).alloc (.cells V 101)).alloc (.cells (shCells ⟨r, o, 0, q, l⟩ (some ⟨w.heap.size + 1, 0, none⟩) 4 4 none 0 0) 54) = W := ⟨_, rfl⟩
  have s0 : Sits W0 w.heap.size shZero 54 := by rw [← hW0]; exact ((Sits.new _ _ _).alloc _).alloc _
  have s1 : Sits W0 (w.heap.size + 1) V 101 := by rw [← hW0]; exact (Sits.new' (by simp)).alloc _
  have s2 : Sits W0 (w.heap.size + 1 + 1) (shCells ⟨r, o, 0, q, l⟩ (some ⟨w.heap.size + 1, 0, none⟩) 4 4 none 0 0) 54 := by rw [← hW0]; exact Sits.new' (by simp)
  have b0 : Below w.heap.size w W0 := by rw [← hW0]; exact (((Below.refl _ w).alloc (Nat.le_refl _) _).alloc (by simp) _).alloc (by simp; omega) _
  have HW0 : Hid (((w.alloc (.cells shZero 54)).alloc (.cells V 101)).alloc (.cells (shCells ⟨r, o, 0, q, l⟩ (some ⟨w.heap.size + 1, 0, none⟩) 4 4 none 0 0) 54) = W0) := hW0
  have HS0 : Hid (Sits W0 w.heap.size shZero 54) := s0
  have HS2 : Hid (Sits W0 (w.heap.size + 1 + 1) (shCells ⟨r, o, 0, q, l⟩ (some ⟨w.heap.size + 1, 0, none⟩) 4 4 none 0 0) 54) := s2
  have HB0 : Hid (Below w.heap.size w W0) := b0
  have lo : LO (w.heap.size + 1) W0 (w.heap.size + 1) 4 (fun _ => none) (fun _ => 0) emL := ⟨Nat.le_refl _, ⟨V, _, s1, by rw [← HV.out]; simp [madeCells], fun i hi => by rw [← HV.out]; exact em_lv 4 i hi⟩, fun _ _ => Nat.le_refl _, fun _ _ => .inl rfl, fun _ _ _ _ _ h => absurd rfl h⟩
  have HLO : Hid (LO (w.heap.size + 1) W0 (w.heap.size + 1) 4 (fun _ => none) (fun _ => 0) emL) := lo
  have HCN : Hid (cntF emL 4 ≤ 1048576) := by show _ ≤ _; rw [cnt_em]; omega
  have HLR : Hid (LR W0.heap.size W0 (some ⟨w.heap.size + 1, 0, none⟩) 4 emL) := lo.lr
  have x0 := s2.cell 0
  have x1 := s2.cell 1
  have x2 := s2.cell 2
  have x3 := s2.cell 3
  have x4 := s2.cell 4
  have x5 := s2.cell 5
  have x6 := s2.cell 6
  clear s0 s1 s2 b0 hW0 lo
  go_enter Try.func32, Try.ntmps32
  go_upto_region 2 with fail
  rw [HW0.out]
  clear HW0
  cases hnb : newSB r o q l
  case false =>
    go_wp2_with (go_at_call 28; refine (sshapeOk_any ⟨r, o, 0, q, l⟩ (some ⟨w.heap.size + 1, 0, none⟩) 4 4 none 0 0 emL (fun _ => 0) _ (by omega) HCN.out (by omega) HLR.out (.inl rfl)).mono ?_; rintro e w3 ⟨rfl, b3⟩; rw [show shB ⟨r, o, 0, q, l⟩ 4 emL ((List.range 0).map fun _ => (0 : Int)) = false from hnb]; have t0 := Sits.below HS0.out b3 (Sits.lt HS0.out); have r0 := t0.cell 0; have r1 := t0.cell 1; have r2 := t0.cell 2; have r3 := t0.cell 3; have r4 := t0.cell 4; have r5 := t0.cell 5; have r6 := t0.cell 6; have rf := t0.frozen; have V0 : Hid (Sits w3 w.heap.size shZero 54) := t0; have HB3 : Hid (Below w.heap.size w w3) := (HB0.out).trans (b3.mono (HB0.out).size); have t1 := Sits.below HS2.out b3 (Sits.lt HS2.out); have p0 := t1.cell 0; have p1 := t1.cell 1; have p2 := t1.cell 2; have p3 := t1.cell 3; have p4 := t1.cell 4; have p5 := t1.cell 5; have p6 := t1.cell 6; have HLO3 : Hid (LO (w.heap.size + 1) w3 (w.heap.size + 1) 4 (fun _ => none) (fun _ => 0) emL) := LO.below HLO.out b3; clear t0 t1 b3)
    refine bodyPost_ret (ret_shb Try.results32 rfl rfl (((((((Sits.set V0.out 0 (.int .i64 0)).set 1 (.int .i64 0)).set 2 (.int .i64 0)).set 3 (.int .i64 0)).set 4 (.int .i64 0)).set 5 (.slice none 0 0)).set 6 (.slice none 0 0))) rfl ?_
    exact .inr ⟨hnb, rfl, (((((((HB3.out).setCell (Nat.le_refl _) _).setCell (Nat.le_refl _) _).setCell (Nat.le_refl _) _).setCell (Nat.le_refl _) _).setCell (Nat.le_refl _) _).setCell (Nat.le_refl _) _).setCell (Nat.le_refl _) _⟩
  case true =>
    go_wp2_with (go_at_call 28; refine (sshapeOk_any ⟨r, o, 0, q, l⟩ (some ⟨w.heap.size + 1, 0, none⟩) 4 4 none 0 0 emL (fun _ => 0) _ (by omega) HCN.out (by omega) HLR.out (.inl rfl)).mono ?_; rintro e w3 ⟨rfl, b3⟩; rw [show shB ⟨r, o, 0, q, l⟩ 4 emL ((List.range 0).map fun _ => (0 : Int)) = true from hnb]; have t0 := Sits.below HS0.out b3 (Sits.lt HS0.out); have r0 := t0.cell 0; have r1 := t0.cell 1; have r2 := t0.cell 2; have r3 := t0.cell 3; have r4 := t0.cell 4; have r5 := t0.cell 5; have r6 := t0.cell 6; have rf := t0.frozen; have V0 : Hid (Sits w3 w.heap.size shZero 54) := t0; have HB3 : Hid (Below w.heap.size w w3) := (HB0.out).trans (b3.mono (HB0.out).size); have t1 := Sits.below HS2.out b3 (Sits.lt HS2.out); have p0 := t1.cell 0; have p1 := t1.cell 1; have p2 := t1.cell 2; have p3 := t1.cell 3; have p4 := t1.cell 4; have p5 := t1.cell 5; have p6 := t1.cell 6; have HLO3 : Hid (LO (w.heap.size + 1) w3 (w.heap.size + 1) 4 (fun _ => none) (fun _ => 0) emL) := LO.below HLO.out b3; clear t0 t1 b3)
    refine bodyPost_ret (ret_shb Try.results32 rfl rfl (((((((Sits.set V0.out 0 (.int .i64 r)).set 1 (.int .i64 o)).set 2 (.int .i64 0)).set 3 (.int .i64 q)).set 4 (.int .i64 l)).set 5 (.slice (some ⟨w.heap.size + 1, 0, none⟩) 4 4)).set 6 (.slice none 0 0))) rfl ?_
    have h0 : w.heap.size ≤ w.heap.size := Nat.le_refl _
    have h1 : w.heap.size < w.heap.size + 1 := Nat.lt_succ_self _
    have c9 : Chg w.heap.size (w.heap.size + 1) w3 _ := (chg_set (chg_set (chg_set (chg_set (chg_set (chg_set (chg_set (Chg.refl _ _ w3) h0 h1 0 (.int .i64 r)) h0 h1 1 (.int .i64 o)) h0 h1 2 (.int .i64 0)) h0 h1 3 (.int .i64 q)) h0 h1 4 (.int .i64 l)) h0 h1 5 (.slice (some ⟨w.heap.size + 1, 0, none⟩) 4 4)) h0 h1 6 (.slice none 0 0))
    exact .inl ⟨hnb, w.heap.size + 1, rfl, (LO.chg HLO3.out c9 (.inl (Nat.le_refl _))).mono (by omega), c9.bel HB3.out (Nat.le_refl _)⟩

set_option maxRecDepth 100000 in
set_option maxHeartbeats 4000000 in
theorem ishapeNew_any (r o q l : Int) (w : World) :
    Calls Try.prog 33 #[.int .i64 r, .int .i64 o, .int .i64 q, .int .i64 l] w fun e w' =>
      (newSB r o q l = true ∧ ∃ B : Nat, e = .returned (.tuple #[shVal ⟨r, o, 0, q, l⟩ (some ⟨B, 0, none⟩) 4 4 none 0 0, .bool true]) ∧ LO w.heap.size w' B 4 (fun _ => none) (fun _ => 0) emL ∧ Below w.heap.size w w') ∨
      (newSB r o q l = false ∧ e = .returned (.tuple #[shVal ⟨0, 0, 0, 0, 0⟩ none 0 0 none 0 0, .bool false]) ∧ Below w.heap.size w w') := by
  have hmk : ∀ w : World, (Instr.makeSlice 29 (.int .i64 4) (.int .i64 4)).run Try.prog w = .ok (.slice (some ⟨w.heap.size, 0, none⟩) 4 4) (w.alloc (.cells (madeCells lnZero (4 * 9)) 101)) := fun w => run_make_ln 4 (by omega) w
  obtain ⟨V, hV⟩ : ∃ V, madeCells lnZero (4 * 9) = V := ⟨_, rfl⟩
  have HV : Hid (madeCells lnZero (4 * 9) = V) := hV
  rw [hV] at hmk
  clear hV
  obtain ⟨W0, hW0⟩ : ∃ W, ((w.alloc (.cells shZero 54)).alloc (.cells V 101)).alloc (.cells (shCells ⟨r, o, 0, q, l⟩ (some ⟨w.heap.size + 1, 0, none⟩) 4 4 none 0 0) 54) = W := ⟨_, rfl⟩
  have s0 : Sits W0 w.heap.size shZero 54 := by rw [← hW0]; exact ((Sits.new _ _ _).alloc _).alloc _
  have s1 : Sits W0 (w.heap.size + 1) V 101 := by rw [← hW0]; exact (Sits.new' (by simp)).alloc _
  have s2 : Sits W0 (w.heap.size + 1 + 1) (shCells ⟨r, o, 0, q, l⟩ (some ⟨w.heap.size + 1, 0, none⟩) 4 4 none 0 0) 54 := by rw [← hW0]; exact Sits.new' (by simp)
  have b0 : Below w.heap.size w W0 := by rw [← hW0]; exact (((Below.refl _ w).alloc (Nat.le_refl _) _).alloc (by simp) _).alloc (by simp; omega) _
  have HW0 : Hid (((w.alloc (.cells shZero 54)).alloc (.cells V 101)).alloc (.cells (shCells ⟨r, o, 0, q, l⟩ (some ⟨w.heap.size + 1, 0, none⟩) 4 4 none 0 0) 54) = W0) := hW0
  have HS0 : Hid (Sits W0 w.heap.size shZero 54) := s0
  have HS2 : Hid (Sits W0 (w.heap.size + 1 + 1) (shCells ⟨r, o, 0, q, l⟩ (some ⟨w.heap.size + 1, 0, none⟩) 4 4 none 0 0) 54) := s2
  have HB0 : Hid (Below w.heap.size w W0) := b0
  have lo : LO (w.heap.size + 1) W0 (w.heap.size + 1) 4 (fun _ => none) (fun _ => 0) emL := ⟨Nat.le_refl _, ⟨V, _, s1, by rw [← HV.out]; simp [madeCells], fun i hi => by rw [← HV.out]; exact em_lv 4 i hi⟩, fun _ _ => Nat.le_refl _, fun _ _ => .inl rfl, fun _ _ _ _ _ h => absurd rfl h⟩
  have HLO : Hid (LO (w.heap.size + 1) W0 (w.heap.size + 1) 4 (fun _ => none) (fun _ => 0) emL) := lo
  have HCN : Hid (cntF emL 4 ≤ 1048576) := by show _ ≤ _; rw [cnt_em]; omega
  have HLR : Hid (LR W0.heap.size W0 (some ⟨w.heap.size + 1, 0, none⟩) 4 emL) := lo.lr
  have x0 := s2.cell 0
  have x1 := s2.cell 1
  have x2 := s2.cell 2
  have x3 := s2.cell 3
  have x4 := s2.cell 4
  have x5 := s2.cell 5
  have x6 := s2.cell 6
  clear s0 s1 s2 b0 hW0 lo
  go_enter Try.func33, Try.ntmps33
  go_upto_region 2 with fail
  rw [HW0.out]
  clear HW0
  cases hnb : newSB r o q l
  case false =>
    go_wp2_with (go_at_call 30; refine (ishapeOk_any ⟨r, o, 0, q, l⟩ (some ⟨w.heap.size + 1, 0, none⟩) 4 4 none 0 0 emL (fun _ => 0) _ (by omega) HCN.out (by omega) HLR.out (.inl rfl)).mono ?_; rintro e w3 ⟨rfl, b3⟩; rw [show shB ⟨r, o, 0, q, l⟩ 4 emL ((List.range 0).map fun _ => (0 : Int)) = false from hnb]; have t0 := Sits.below HS0.out b3 (Sits.lt HS0.out); have r0 := t0.cell 0; have r1 := t0.cell 1; have r2 := t0.cell 2; have r3 := t0.cell 3; have r4 := t0.cell 4; have r5 := t0.cell 5; have r6 := t0.cell 6; have rf := t0.frozen; have V0 : Hid (Sits w3 w.heap.size shZero 54) := t0; have HB3 : Hid (Below w.heap.size w w3) := (HB0.out).trans (b3.mono (HB0.out).size); have t1 := Sits.below HS2.out b3 (Sits.lt HS2.out); have p0 := t1.cell 0; have p1 := t1.cell 1; have p2 := t1.cell 2; have p3 := t1.cell 3; have p4 := t1.cell 4; have p5 := t1.cell 5; have p6 := t1.cell 6; have HLO3 : Hid (LO (w.heap.size + 1) w3 (w.heap.size + 1) 4 (fun _ => none) (fun _ => 0) emL) := LO.below HLO.out b3; clear t0 t1 b3)
    refine bodyPost_ret (ret_shb Try.results33 rfl rfl (((((((Sits.set V0.out 0 (.int .i64 0)).set 1 (.int .i64 0)).set 2 (.int .i64 0)).set 3 (.int .i64 0)).set 4 (.int .i64 0)).set 5 (.slice none 0 0)).set 6 (.slice none 0 0))) rfl ?_
    exact .inr ⟨hnb, rfl, (((((((HB3.out).setCell (Nat.le_refl _) _).setCell (Nat.le_refl _) _).setCell (Nat.le_refl _) _).setCell (Nat.le_refl _) _).setCell (Nat.le_refl _) _).setCell (Nat.le_refl _) _).setCell (Nat.le_refl _) _⟩
  case true =>
    go_wp2_with (go_at_call 30; refine (ishapeOk_any ⟨r, o, 0, q, l⟩ (some ⟨w.heap.size + 1, 0, none⟩) 4 4 none 0 0 emL (fun _ => 0) _ (by omega) HCN.out (by omega) HLR.out (.inl rfl)).mono ?_; rintro e w3 ⟨rfl, b3⟩; rw [show shB ⟨r, o, 0, q, l⟩ 4 emL ((List.range 0).map fun _ => (0 : Int)) = true from hnb]; have t0 := Sits.below HS0.out b3 (Sits.lt HS0.out); have r0 := t0.cell 0; have r1 := t0.cell 1; have r2 := t0.cell 2; have r3 := t0.cell 3; have r4 := t0.cell 4; have r5 := t0.cell 5; have r6 := t0.cell 6; have rf := t0.frozen; have V0 : Hid (Sits w3 w.heap.size shZero 54) := t0; have HB3 : Hid (Below w.heap.size w w3) := (HB0.out).trans (b3.mono (HB0.out).size); have t1 := Sits.below HS2.out b3 (Sits.lt HS2.out); have p0 := t1.cell 0; have p1 := t1.cell 1; have p2 := t1.cell 2; have p3 := t1.cell 3; have p4 := t1.cell 4; have p5 := t1.cell 5; have p6 := t1.cell 6; have HLO3 : Hid (LO (w.heap.size + 1) w3 (w.heap.size + 1) 4 (fun _ => none) (fun _ => 0) emL) := LO.below HLO.out b3; clear t0 t1 b3)
    refine bodyPost_ret (ret_shb Try.results33 rfl rfl (((((((Sits.set V0.out 0 (.int .i64 r)).set 1 (.int .i64 o)).set 2 (.int .i64 0)).set 3 (.int .i64 q)).set 4 (.int .i64 l)).set 5 (.slice (some ⟨w.heap.size + 1, 0, none⟩) 4 4)).set 6 (.slice none 0 0))) rfl ?_
    have h0 : w.heap.size ≤ w.heap.size := Nat.le_refl _
    have h1 : w.heap.size < w.heap.size + 1 := Nat.lt_succ_self _
    have c9 : Chg w.heap.size (w.heap.size + 1) w3 _ := (chg_set (chg_set (chg_set (chg_set (chg_set (chg_set (chg_set (Chg.refl _ _ w3) h0 h1 0 (.int .i64 r)) h0 h1 1 (.int .i64 o)) h0 h1 2 (.int .i64 0)) h0 h1 3 (.int .i64 q)) h0 h1 4 (.int .i64 l)) h0 h1 5 (.slice (some ⟨w.heap.size + 1, 0, none⟩) 4 4)) h0 h1 6 (.slice none 0 0))
    exact .inl ⟨hnb, w.heap.size + 1, rfl, (LO.chg HLO3.out c9 (.inl (Nat.le_refl _))).mono (by omega), c9.bel HB3.out (Nat.le_refl _)⟩

set_option maxHeartbeats 1000000 in
/-- markShape of one whose lists are empty. -/
theorem markShape_lo (base up : Nat) (s : Sh) (B N ca : Nat) (b : Option Addr) (cb : Nat) (A : Nat → Option Addr) (C : Nat → Nat) (L : Nat → Ln) (k0 : Int) (w : World) (hlo : LO base w B N A C L) (hun : Under up B N A L) (hup : up ≤ w.heap.size) (hN : N ≤ 1048576) (hcn : cntF L N ≤ 1048576) (h0 : 0 ≤ k0) (h1 : k0 ≤ 1000000000) :
    Calls Try.prog 34 #[shVal s (some ⟨B, 0, none⟩) N ca b 0 cb, .int .i64 k0] w fun e w' => e = .returned (.int .i64 (upAt L k0 N)) ∧ LO base w' B N A C (upL L k0) ∧ Chg base up w w' := by
  have HLO : Hid (LO base w B N A C L) := hlo
  have HUN : Hid (Under up B N A L) := hun
  have HC : Hid (cntF L N ≤ 1048576) := hcn
  have HN : Hid (N ≤ 1048576) := hN
  have HUP : Hid (up ≤ w.heap.size) := hup
  obtain ⟨Q, hQ⟩ : ∃ q, upAt L k0 N = q := ⟨_, rfl⟩
  have hb : 0 ≤ Q ∧ Q ≤ 1099511627776 := by rw [← hQ]; unfold upAt; omega
  obtain ⟨q0, q1⟩ := hb
  rw [hQ]
  have HQ : Hid (upAt L k0 N = Q) := hQ
  clear hlo hun hcn hN hup hQ
  obtain ⟨W0, hW0⟩ : ∃ W, w.alloc (.cells (shCells s (some ⟨B, 0, none⟩) N ca b 0 cb) 54) = W := ⟨_, rfl⟩
  have s0 : Sits W0 w.heap.size (shCells s (some ⟨B, 0, none⟩) N ca b 0 cb) 54 := by rw [← hW0]; exact Sits.new _ _ _
  have b0 : Below w.heap.size w W0 := by rw [← hW0]; exact (Below.refl _ w).alloc (Nat.le_refl _) _
  have HW0 : Hid (w.alloc (.cells (shCells s (some ⟨B, 0, none⟩) N ca b 0 cb) 54) = W0) := hW0
  have HB0 : Hid (Below w.heap.size w W0) := b0
  have HS0 : Hid (Sits W0 w.heap.size (shCells s (some ⟨B, 0, none⟩) N ca b 0 cb) 54) := s0
  have x2 := s0.cell 5
  clear s0 b0 hW0
  go_enter Try.func34, Try.ntmps34
  go_upto_region 1 with fail
  rw [HW0.out]
  clear HW0
  go_upto_region 2 with (go_at_call 55; refine (markLineS_lo base up B N ca A C L k0 _ (LO.below HLO.out HB0.out) HUN.out HN.out HC.out h0 h1).mono ?_; rintro e w1 ⟨rfl, lo1, c1⟩; rw [HQ.out]; have HLO1 : Hid (LO base w1 B N A C (upL L k0)) := lo1; have HC1 : Hid (Chg base up W0 w1) := c1; have s1 := Sits.chg HS0.out c1 (.inr HUP.out); have x3 := s1.cell 6; have HS1 : Hid (Sits w1 w.heap.size (shCells s (some ⟨B, 0, none⟩) N ca b 0 cb) 54) := s1; clear lo1 c1 s1)
  go_wp2_with (go_at_call 56; refine (markIntS_nil b cb Q _ q0 q1).mono ?_; rintro e w2 ⟨rfl, c2⟩; have HB2 : Hid (Below w1.heap.size w1 w2) := c2.none; clear c2)
  go_ret
  exact ⟨rfl, LO.below HLO1.out HB2.out, ((Chg.of_below HB0.out).trans HC1.out).trans (Chg.of_below HB2.out)⟩

set_option maxHeartbeats 1000000 in
theorem markShape_nil (s : Sh) (a : Option Addr) (ca : Nat) (b : Option Addr) (cb : Nat) (k0 : Int) (w : World) (q0 : 0 ≤ k0) (q1 : k0 ≤ 1099511627776) :
    Calls Try.prog 34 #[shVal s a 0 ca b 0 cb, .int .i64 k0] w fun e w' => e = .returned (.int .i64 k0) ∧ Below w.heap.size w w' := by
  obtain ⟨W0, hW0⟩ : ∃ W, w.alloc (.cells (shCells s a 0 ca b 0 cb) 54) = W := ⟨_, rfl⟩
  have s0 : Sits W0 w.heap.size (shCells s a 0 ca b 0 cb) 54 := by rw [← hW0]; exact Sits.new _ _ _
  have b0 : Below w.heap.size w W0 := by rw [← hW0]; exact (Below.refl _ w).alloc (Nat.le_refl _) _
  have HW0 : Hid (w.alloc (.cells (shCells s a 0 ca b 0 cb) 54) = W0) := hW0
  have HB0 : Hid (Below w.heap.size w W0) := b0
  have HS0 : Hid (Sits W0 w.heap.size (shCells s a 0 ca b 0 cb) 54) := s0
  have x2 := s0.cell 5
  have x3 := s0.cell 6
  clear s0 b0 hW0
  go_enter Try.func34, Try.ntmps34
  go_upto_region 1 with fail
  rw [HW0.out]
  clear HW0
  go_upto_region 2 with (go_at_call 55; refine (markLineS_nil a ca k0 _).mono ?_; rintro e w1 ⟨rfl, hw1⟩; replace hw1 := hw1.symm; subst hw1)
  go_wp2_with (go_at_call 56; refine (markIntS_nil b cb k0 _ q0 q1).mono ?_; rintro e w2 ⟨rfl, c2⟩; have HB2 : Hid (Below w.heap.size w w2) := (HB0.out).trans (c2.none.mono (HB0.out).size); clear c2)
  go_ret
  exact ⟨rfl, HB2.out⟩

set_option maxHeartbeats 1000000 in
/-- heldShape of one whose lists are empty. -/
theorem heldShape_any (s : Sh) (a : Option Addr) (N ca : Nat) (b : Option Addr) (cb : Nat) (L : Nat → Ln) (k0 : Int) (w : World) (hP : LR w.heap.size w a N (upL L k0)) (hN : N ≤ 1048576) (hcn : cntF L N ≤ 1048576) (h0 : 0 ≤ k0) (h1 : k0 ≤ 1000000000) :
    Calls Try.prog 35 #[shVal s a N ca b 0 cb, .int .i64 k0] w fun e w' => e = .returned (.int .i64 (upAt L k0 N)) ∧ Below w.heap.size w w' := by
  have HP : Hid (LR w.heap.size w a N (upL L k0)) := hP
  have HC : Hid (cntF L N ≤ 1048576) := hcn
  have HN : Hid (N ≤ 1048576) := hN
  obtain ⟨Q, hQ⟩ : ∃ q, upAt L k0 N = q := ⟨_, rfl⟩
  have hb : 0 ≤ Q ∧ Q ≤ 1099511627776 := by rw [← hQ]; unfold upAt; omega
  obtain ⟨q0, q1⟩ := hb
  rw [hQ]
  have HQ : Hid (upAt L k0 N = Q) := hQ
  have qn : ¬ Q < 0 := by omega
  clear hP hcn hN hQ
  obtain ⟨W0, hW0⟩ : ∃ W, w.alloc (.cells (shCells s a N ca b 0 cb) 54) = W := ⟨_, rfl⟩
  have s0 : Sits W0 w.heap.size (shCells s a N ca b 0 cb) 54 := by rw [← hW0]; exact Sits.new _ _ _
  have b0 : Below w.heap.size w W0 := by rw [← hW0]; exact (Below.refl _ w).alloc (Nat.le_refl _) _
  have HW0 : Hid (w.alloc (.cells (shCells s a N ca b 0 cb) 54) = W0) := hW0
  have HB0 : Hid (Below w.heap.size w W0) := b0
  have HS0 : Hid (Sits W0 w.heap.size (shCells s a N ca b 0 cb) 54) := s0
  have x2 := s0.cell 5
  have x3 := s0.cell 6
  clear s0 b0 hW0
  go_enter Try.func35, Try.ntmps35
  go_upto_region 1 with fail
  rw [HW0.out]
  clear HW0
  go_upto_region 4 with (go_at_call 57; refine (heldLineS_any a N ca L k0 _ (LR.go HP.out HB0.out (HB0.out).size) HN.out HC.out h0 h1).mono ?_; rintro e w1 ⟨rfl, hw1⟩; replace hw1 := hw1.symm; subst hw1; rw [HQ.out])
  go_wp2_with (go_at_call 58; refine (heldIntS_any b 0 cb Q _ (.inl rfl) (by omega) q0 q1).mono ?_; rintro e w2 ⟨rfl, b2⟩; have HB2 : Hid (Below w.heap.size w w2) := (HB0.out).trans (b2.mono (HB0.out).size); clear b2)
  go_ret
  exact ⟨rfl, HB2.out⟩

end Go.Proofs.Ytmhdjccbkenhmao
