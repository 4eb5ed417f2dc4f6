/-
  WHEN A SHAPER IS READY; A NEW ONE: Ready AND ShapeNew OF BOTH SIDES.
-/
import Derived.Test.YtmhdjccbkenhmapShapeS
import Derived.Test.YtmhdjccbkenhmapShapeO
namespace Go.Proofs.Ytmhdjccbkenhmap
open Go.RowKit
set_option linter.unusedVariables false

/-- May a packet go, and when? -/
def rdyB (s : Sh) (N : Nat) (L : Nat → Ln) (ts : List Int) : Bool := shB s N L ts && decide (ts ≠ [])
def rdyV (s : Sh) (N : Nat) (L : Nat → Ln) (ts : List Int) : Int := if rdyB s N L ts then s.nx else 0
theorem rdy_no {s : Sh} {N : Nat} {L : Nat → Ln} {ts : List Int} (h : rdyB s N L ts = false) : Value.tuple #[.int .i64 0, .bool false] = .tuple #[.int .i64 (rdyV s N L ts), .bool (rdyB s N L ts)] := by unfold rdyV; rw [h]; rfl
theorem rdy_yes {s : Sh} {N : Nat} {L : Nat → Ln} {ts : List Int} (h : rdyB s N L ts = true) : Value.tuple #[.int .i64 s.nx, .bool true] = .tuple #[.int .i64 (rdyV s N L ts), .bool (rdyB s N L ts)] := by unfold rdyV; rw [h]; rfl
theorem rets {v v' : Value} (h : v = v') : Ending.returned v = Ending.returned v' := by rw [h]

theorem sready_any (s : Sh) (a : Option Addr) (N ca : Nat) (b : Option Addr) (n c : Nat) (L : Nat → Ln) (tn : Nat → Int) (w : World)
    (hN : N ≤ 1048576) (hcn : cntF L N ≤ 1048576) (hnn : n ≤ 1048576) (hP : LR w.heap.size w a N L) (hb : Row .i64 w b n tn) :
    Calls Try.prog 18 #[shVal s a N ca b n c] w fun e w' => e = .returned (.tuple #[.int .i64 (rdyV s N L ((List.range n).map tn)), .bool (rdyB s N L ((List.range n).map tn))]) ∧ Below w.heap.size w w' := by
  have HP : Hid (LR w.heap.size w a N L) := hP
  have HRB : Hid (Row .i64 w b n tn) := hb
  have HN : Hid (N ≤ 1048576) := hN
  have HCN : Hid (cntF L N ≤ 1048576) := hcn
  have HNN : Hid (n ≤ 1048576) := hnn
  have HTN : Hid (((List.range n).map tn = []) ↔ n = 0) := (show ((List.range n).map tn = []) ↔ n = 0 by simp)
  clear hP hb hN hcn hnn
  obtain ⟨ts, hts⟩ : ∃ l, (List.range n).map tn = l := ⟨_, rfl⟩
  have HTS : Hid ((List.range n).map tn = ts) := hts
  rw [hts] at HTN ⊢
  clear hts
  obtain ⟨W0, hW0⟩ : ∃ W, w.alloc (.cells (shCells s a N ca b n c) 31) = W := ⟨_, rfl⟩
  have s0 : Sits W0 w.heap.size (shCells s a N ca b n c) 31 := by rw [← hW0]; exact Sits.new _ _ _
  have b0 : Below w.heap.size w W0 := by rw [← hW0]; exact (Below.refl _ w).alloc (Nat.le_refl _) _
  have HW0 : Hid (w.alloc (.cells (shCells s a N ca b n c) 31) = W0) := hW0
  have HS0 : Hid (Sits _ _ _ _) := s0
  have HB0 : Hid (Below _ _ _) := b0
  have x0 := s0.cell 0
  have x1 := s0.cell 1
  have x2 := s0.cell 2
  have x3 := s0.cell 3
  have x4 := s0.cell 4
  have x5 := s0.cell 5
  have x6 := s0.cell 6
  clear s0 b0 hW0
  cases t0 : shB s N L ts
  case false =>
    have HE : Hid (rdyB s N L ts = false) := by show _ = _; unfold rdyB; rw [t0]; rfl
    go_enter Try.func18, Try.ntmps18
    go_upto_region 1 with fail
    rw [HW0.out]
    go_wp2_with (go_at_call 24; refine (sshapeOk_any s a N ca b n c L tn _ HN.out HCN.out HNN.out (LR.go HP.out HB0.out (HB0.out).size) (Row.below HRB.out HB0.out)).mono ?_; rintro e w1 ⟨rfl, b1⟩; rw [HTS.out, t0])
    exact bodyPost_ret (v := .tuple #[.int .i64 0, .bool false]) (by simp [results, Try.results18, go_sem]) rfl ⟨rets (rdy_no HE.out), (HB0.out).trans (b1.mono (HB0.out).size)⟩
  case true =>
  by_cases t1 : n = 0
  · have t1' : ((n : Int) == 0) = true := by simpa using t1
    have HE : Hid (rdyB s N L ts = false) := by show _ = _; unfold rdyB; rw [t0, (HTN.out).2 t1]; rfl
    clear t1
    go_enter Try.func18, Try.ntmps18
    go_upto_region 1 with fail
    rw [HW0.out]
    go_wp2_with (go_at_call 24; refine (sshapeOk_any s a N ca b n c L tn _ HN.out HCN.out HNN.out (LR.go HP.out HB0.out (HB0.out).size) (Row.below HRB.out HB0.out)).mono ?_; rintro e w1 ⟨rfl, b1⟩; rw [HTS.out, t0]; have s1 := Sits.below HS0.out b1 (Sits.lt HS0.out); have z6 := s1.cell 6; have z2 := s1.cell 2; clear s1)
    exact bodyPost_ret (v := .tuple #[.int .i64 0, .bool false]) (by simp [results, Try.results18, go_sem]) rfl ⟨rets (rdy_no HE.out), (HB0.out).trans (b1.mono (HB0.out).size)⟩
  · have t1' : ((n : Int) == 0) = false := by simpa using t1
    have HE : Hid (rdyB s N L ts = true) := by
      show _ = _; unfold rdyB; rw [t0]
      have : ts ≠ [] := fun e => t1 ((HTN.out).1 e)
      simp [this]
    go_enter Try.func18, Try.ntmps18
    go_upto_region 1 with fail
    rw [HW0.out]
    go_wp2_with (go_at_call 24; refine (sshapeOk_any s a N ca b n c L tn _ HN.out HCN.out HNN.out (LR.go HP.out HB0.out (HB0.out).size) (Row.below HRB.out HB0.out)).mono ?_; rintro e w1 ⟨rfl, b1⟩; rw [HTS.out, t0]; have s1 := Sits.below HS0.out b1 (Sits.lt HS0.out); have z6 := s1.cell 6; have z2 := s1.cell 2; clear s1)
    exact bodyPost_ret (v := .tuple #[.int .i64 s.nx, .bool true]) (by simp [results, Try.results18, go_sem]) rfl ⟨rets (rdy_yes HE.out), (HB0.out).trans (b1.mono (HB0.out).size)⟩

theorem iready_any (s : Sh) (a : Option Addr) (N ca : Nat) (b : Option Addr) (n c : Nat) (L : Nat → Ln) (tn : Nat → Int) (w : World)
    (hN : N ≤ 1048576) (hcn : cntF L N ≤ 1048576) (hnn : n ≤ 1048576) (hP : LR w.heap.size w a N L) (hb : Row .i64 w b n tn) :
    Calls Try.prog 19 #[shVal s a N ca b n c] w fun e w' => e = .returned (.tuple #[.int .i64 (rdyV s N L ((List.range n).map tn)), .bool (rdyB s N L ((List.range n).map tn))]) ∧ Below w.heap.size w w' := by
  have HP : Hid (LR w.heap.size w a N L) := hP
  have HRB : Hid (Row .i64 w b n tn) := hb
  have HN : Hid (N ≤ 1048576) := hN
  have HCN : Hid (cntF L N ≤ 1048576) := hcn
  have HNN : Hid (n ≤ 1048576) := hnn
  have HTN : Hid (((List.range n).map tn = []) ↔ n = 0) := (show ((List.range n).map tn = []) ↔ n = 0 by simp)
  clear hP hb hN hcn hnn
  obtain ⟨ts, hts⟩ : ∃ l, (List.range n).map tn = l := ⟨_, rfl⟩
  have HTS : Hid ((List.range n).map tn = ts) := hts
  rw [hts] at HTN ⊢
  clear hts
  obtain ⟨W0, hW0⟩ : ∃ W, w.alloc (.cells (shCells s a N ca b n c) 31) = W := ⟨_, rfl⟩
  have s0 : Sits W0 w.heap.size (shCells s a N ca b n c) 31 := by rw [← hW0]; exact Sits.new _ _ _
  have b0 : Below w.heap.size w W0 := by rw [← hW0]; exact (Below.refl _ w).alloc (Nat.le_refl _) _
  have HW0 : Hid (w.alloc (.cells (shCells s a N ca b n c) 31) = W0) := hW0
  have HS0 : Hid (Sits _ _ _ _) := s0
  have HB0 : Hid (Below _ _ _) := b0
  have x0 := s0.cell 0
  have x1 := s0.cell 1
  have x2 := s0.cell 2
  have x3 := s0.cell 3
  have x4 := s0.cell 4
  have x5 := s0.cell 5
  have x6 := s0.cell 6
  clear s0 b0 hW0
  cases t0 : shB s N L ts
  case false =>
    have HE : Hid (rdyB s N L ts = false) := by show _ = _; unfold rdyB; rw [t0]; rfl
    go_enter Try.func19, Try.ntmps19
    go_upto_region 1 with fail
    rw [HW0.out]
    go_wp2_with (go_at_call 30; refine (ishapeOk_any s a N ca b n c L tn _ HN.out HCN.out HNN.out (LR.go HP.out HB0.out (HB0.out).size) (Row.below HRB.out HB0.out)).mono ?_; rintro e w1 ⟨rfl, b1⟩; rw [HTS.out, t0])
    exact bodyPost_ret (v := .tuple #[.int .i64 0, .bool false]) (by simp [results, Try.results19, go_sem]) rfl ⟨rets (rdy_no HE.out), (HB0.out).trans (b1.mono (HB0.out).size)⟩
  case true =>
  by_cases t1 : n = 0
  · have t1' : ((n : Int) == 0) = true := by simpa using t1
    have HE : Hid (rdyB s N L ts = false) := by show _ = _; unfold rdyB; rw [t0, (HTN.out).2 t1]; rfl
    clear t1
    go_enter Try.func19, Try.ntmps19
    go_upto_region 1 with fail
    rw [HW0.out]
    go_wp2_with (go_at_call 30; refine (ishapeOk_any s a N ca b n c L tn _ HN.out HCN.out HNN.out (LR.go HP.out HB0.out (HB0.out).size) (Row.below HRB.out HB0.out)).mono ?_; rintro e w1 ⟨rfl, b1⟩; rw [HTS.out, t0]; have s1 := Sits.below HS0.out b1 (Sits.lt HS0.out); have z6 := s1.cell 6; have z2 := s1.cell 2; clear s1)
    exact bodyPost_ret (v := .tuple #[.int .i64 0, .bool false]) (by simp [results, Try.results19, go_sem]) rfl ⟨rets (rdy_no HE.out), (HB0.out).trans (b1.mono (HB0.out).size)⟩
  · have t1' : ((n : Int) == 0) = false := by simpa using t1
    have HE : Hid (rdyB s N L ts = true) := by
      show _ = _; unfold rdyB; rw [t0]
      have : ts ≠ [] := fun e => t1 ((HTN.out).1 e)
      simp [this]
    go_enter Try.func19, Try.ntmps19
    go_upto_region 1 with fail
    rw [HW0.out]
    go_wp2_with (go_at_call 30; refine (ishapeOk_any s a N ca b n c L tn _ HN.out HCN.out HNN.out (LR.go HP.out HB0.out (HB0.out).size) (Row.below HRB.out HB0.out)).mono ?_; rintro e w1 ⟨rfl, b1⟩; rw [HTS.out, t0]; have s1 := Sits.below HS0.out b1 (Sits.lt HS0.out); have z6 := s1.cell 6; have z2 := s1.cell 2; clear s1)
    exact bodyPost_ret (v := .tuple #[.int .i64 s.nx, .bool true]) (by simp [results, Try.results19, go_sem]) rfl ⟨rets (rdy_yes HE.out), (HB0.out).trans (b1.mono (HB0.out).size)⟩

end Go.Proofs.Ytmhdjccbkenhmap
