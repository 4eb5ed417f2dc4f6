/-
  RENO's CHANGES in the program that call another one.
-/
import Derived.Test.YtfflheebjbdnoaeRenoB
import Derived.Deep.RegionWith
import Derived.Deep.Cut
namespace Go.Proofs.Ytfflheebjbdnoae
open Go.RowKit
set_option linter.unusedVariables false

/-- What an ack adds. -/
def Rn.grow (r : Rn) (b : Int) : Rn := if r.cw < r.th then r.widen (minI b r.mss) else if minI (r.ac + b) 100000000 < r.cw then { r with ac := minI (r.ac + b) 100000000 } else Rn.widen { r with ac := minI (r.ac + b) 100000000 - r.cw } r.mss
def Rn.recov (r : Rn) : Rn := { r with inn := false, cw := minI r.th (r.mss + maxI r.fl r.mss) }
def Rn.part (r : Rn) (b : Int) : Rn := if b < r.mss then { r with cw := maxI (r.cw - b) r.mss } else Rn.widen { r with cw := maxI (r.cw - b) r.mss } r.mss
def Rn.prog (r : Rn) (b : Int) : Rn := if r.inn then (if r.rc ≤ r.una + b then Rn.recov { r with una := r.una + b, du := 0 } else Rn.part { r with una := r.una + b, du := 0 } b) else Rn.grow { r with una := r.una + b, du := 0 } b
def Rn.recg (r : Rn) (h : Int) : Rn := { r with th := h, cw := minI (h + 3 * r.mss) 100000000, ac := 0, rc := r.nx, inn := true }
def Rn.rep (r : Rn) (h : Int) : Rn := if r.inn then Rn.widen { r with du := minI (r.du + 1) 1000000 } r.mss else if minI (r.du + 1) 1000000 = 3 ∧ r.rc ≤ r.una then Rn.recg { r with du := minI (r.du + 1) 1000000 } h else { r with du := minI (r.du + 1) 1000000 }
def Rn.slow (r : Rn) (h : Int) : Rn := { r with th := h, cw := h, ac := 0, cut := r.nx }
def Rn.anew (r : Rn) (h : Int) : Rn := ⟨r.mss, r.mss, h, 0, r.una, r.una, 0, r.una, false, minI r.cut r.una⟩
theorem minI_bd (a b : Int) : minI a b ≤ a ∧ minI a b ≤ b ∧ (minI a b = a ∨ minI a b = b) := by unfold minI; split <;> omega
theorem maxI_bd (a b : Int) : a ≤ maxI a b ∧ b ≤ maxI a b ∧ (maxI a b = a ∨ maxI a b = b) := by unfold maxI; split <;> omega

set_option maxRecDepth 20000 in
set_option maxHeartbeats 2000000 in
theorem slowed_any (r : Rn) (h : Int) (w : World) :
    Calls Try.prog 39 #[r.val, .int .i64 h] w fun e w' => e = .returned (r.slow h).val ∧ Below w.heap.size w w' := by
  have hh : r.halve h = (Rn.mk r.mss h h 0 r.una r.nx r.du r.rc r.inn r.cut) := rfl
  obtain ⟨s0, z0, c0, -⟩ := zero_boxes w r
  obtain ⟨W, hW⟩ : ∃ W, (w.alloc (.cells (rnCells r) 24)).alloc (.cells #[.int .i64 0, .int .i64 0, .int .i64 0, .int .i64 0, .int .i64 0, .int .i64 0, .int .i64 0, .int .i64 0, .bool false, .int .i64 0] 24) = W := ⟨_, rfl⟩
  rw [hW] at s0 z0 c0
  have lz := z0.lt
  have S0 : Hid (Sits W w.heap.size (rnCells r) 24) := s0
  have Z0 : Hid (Sits W (w.heap.size + 1) (rnCells Rn.zero) 24) := z0
  clear s0 z0
  go_enter Try.func39, Try.ntmps39
  go_upto_region 1 with fail
  try rw [hW]
  clear hW
  obtain ⟨q0, q1, q2, q3, q4, q5, q6, q7, q8, q9⟩ := rn_cells S0.out
  have fs := Sits.frozen S0.out
  obtain ⟨p0, p1, p2, p3, p4, p5, p6, p7, p8, p9⟩ := rn_cells Z0.out
  have fz := Sits.frozen Z0.out
  dsimp only [Rn.zero] at p0 p1 p2 p3 p4 p5 p6 p7 p8 p9
  go_upto_region 2 with (go_at_call 56; refine (halved_any r h _).mono ?_; rintro e w1 ⟨rfl, b1⟩; rw [hh]; have s1 := Sits.below (S0.out) b1 (Sits.lt (S0.out)); have z1 := Sits.below (Z0.out) b1 (Sits.lt (Z0.out)); clear q0 q1 q2 q3 q4 q5 q6 q7 q8 q9 p0 p1 p2 p3 p4 p5 p6 p7 p8 p9 fs fz; obtain ⟨q0, q1, q2, q3, q4, q5, q6, q7, q8, q9⟩ := rn_cells s1; have fs := s1.frozen; obtain ⟨p0, p1, p2, p3, p4, p5, p6, p7, p8, p9⟩ := rn_cells z1; have fz := z1.frozen; dsimp only [Rn.zero] at p0 p1 p2 p3 p4 p5 p6 p7 p8 p9; have lz1 := z1.lt; have S1 : Hid (Sits w1 w.heap.size (rnCells r) 24) := s1; have Z1 : Hid (Sits w1 (w.heap.size + 1) (rnCells Rn.zero) 24) := z1; have c1 := Below.trans (c0) (b1.mono (Below.size (c0))); clear s1 z1 b1)
  obtain ⟨W2, hW2⟩ : ∃ x, ((((((((((w1.setCell ⟨w.heap.size, 0, none⟩ (.int .i64 r.mss)).setCell ⟨w.heap.size, 1, none⟩ (.int .i64 h)).setCell ⟨w.heap.size, 2, none⟩ (.int .i64 h)).setCell ⟨w.heap.size, 3, none⟩ (.int .i64 0)).setCell ⟨w.heap.size, 4, none⟩ (.int .i64 r.una)).setCell ⟨w.heap.size, 5, none⟩ (.int .i64 r.nx)).setCell ⟨w.heap.size, 6, none⟩ (.int .i64 r.du)).setCell ⟨w.heap.size, 7, none⟩ (.int .i64 r.rc)).setCell ⟨w.heap.size, 8, none⟩ (.bool r.inn)).setCell ⟨w.heap.size, 9, none⟩ (.int .i64 r.cut)) = x := ⟨_, rfl⟩
  have s1 : Sits W2 w.heap.size (rnCells (Rn.mk r.mss h h 0 r.una r.nx r.du r.rc r.inn r.cut)) 24 := by rw [← hW2]; exact put_sits S1.out (Rn.mk r.mss h h 0 r.una r.nx r.du r.rc r.inn r.cut)
  have z1 : Sits W2 (w.heap.size + 1) (rnCells Rn.zero) 24 := by rw [← hW2]; exact put_other Z1.out (by omega) (Rn.mk r.mss h h 0 r.una r.nx r.du r.rc r.inn r.cut)
  have c2 : Below w.heap.size w W2 := by rw [← hW2]; exact put_below c1 (Nat.le_refl _) (Rn.mk r.mss h h 0 r.una r.nx r.du r.rc r.inn r.cut)
  rw [hW2]
  clear hW2 q0 q1 q2 q3 q4 q5 q6 q7 q8 q9 p0 p1 p2 p3 p4 p5 p6 p7 p8 p9 fs fz
  obtain ⟨q0, q1, q2, q3, q4, q5, q6, q7, q8, q9⟩ := rn_cells s1
  have fs := s1.frozen
  obtain ⟨p0, p1, p2, p3, p4, p5, p6, p7, p8, p9⟩ := rn_cells z1
  have fz := z1.frozen
  dsimp only [Rn.zero] at p0 p1 p2 p3 p4 p5 p6 p7 p8 p9
  have lz2 := z1.lt
  have S2 : Hid (Sits W2 w.heap.size (rnCells (Rn.mk r.mss h h 0 r.una r.nx r.du r.rc r.inn r.cut)) 24) := s1
  have Z2 : Hid (Sits W2 (w.heap.size + 1) (rnCells Rn.zero) 24) := z1
  clear s1 z1
  clear S1 Z1 c1
  clear hh
  go_wp2
  refine bodyPost_ret (ret_rn (q := (Rn.mk r.mss h h 0 r.una r.nx r.du r.rc r.inn r.nx)) (t := 24) (B := w.heap.size + 1) Try.results39 rfl ?_) rfl ⟨rfl, ?_⟩
  · exact put_sits (Sits.other Z2.out (by omega) _) (Rn.mk r.mss h h 0 r.una r.nx r.du r.rc r.inn r.nx)
  · exact put_below (Below.setCell c2 (Nat.le_refl _) _) (by omega) (Rn.mk r.mss h h 0 r.una r.nx r.du r.rc r.inn r.nx)

set_option maxRecDepth 20000 in
set_option maxHeartbeats 2000000 in
theorem begunAnew_any (r : Rn) (h : Int) (w : World) :
    Calls Try.prog 40 #[r.val, .int .i64 h] w fun e w' => e = .returned (r.anew h).val ∧ Below w.heap.size w w' := by
  have hh : r.halve h = (Rn.mk r.mss h h 0 r.una r.nx r.du r.rc r.inn r.cut) := rfl
  obtain ⟨s0, z0, c0, -⟩ := zero_boxes w r
  obtain ⟨W, hW⟩ : ∃ W, (w.alloc (.cells (rnCells r) 24)).alloc (.cells #[.int .i64 0, .int .i64 0, .int .i64 0, .int .i64 0, .int .i64 0, .int .i64 0, .int .i64 0, .int .i64 0, .bool false, .int .i64 0] 24) = W := ⟨_, rfl⟩
  rw [hW] at s0 z0 c0
  have lz := z0.lt
  have S0 : Hid (Sits W w.heap.size (rnCells r) 24) := s0
  have Z0 : Hid (Sits W (w.heap.size + 1) (rnCells Rn.zero) 24) := z0
  clear s0 z0
  by_cases k : r.una < r.cut
  · have hv : r.anew h = (Rn.mk r.mss r.mss h 0 r.una r.una 0 r.una false r.una) := by unfold Rn.anew minI; simp [k]
    rw [hv]
    clear hv
    go_enter Try.func40, Try.ntmps40
    go_upto_region 1 with fail
    try rw [hW]
    clear hW
    obtain ⟨q0, q1, q2, q3, q4, q5, q6, q7, q8, q9⟩ := rn_cells S0.out
    have fs := Sits.frozen S0.out
    obtain ⟨p0, p1, p2, p3, p4, p5, p6, p7, p8, p9⟩ := rn_cells Z0.out
    have fz := Sits.frozen Z0.out
    dsimp only [Rn.zero] at p0 p1 p2 p3 p4 p5 p6 p7 p8 p9
    go_upto_region 2 with (go_at_call 56; refine (halved_any r h _).mono ?_; rintro e w1 ⟨rfl, b1⟩; rw [hh]; have s1 := Sits.below (S0.out) b1 (Sits.lt (S0.out)); have z1 := Sits.below (Z0.out) b1 (Sits.lt (Z0.out)); clear q0 q1 q2 q3 q4 q5 q6 q7 q8 q9 p0 p1 p2 p3 p4 p5 p6 p7 p8 p9 fs fz; obtain ⟨q0, q1, q2, q3, q4, q5, q6, q7, q8, q9⟩ := rn_cells s1; have fs := s1.frozen; obtain ⟨p0, p1, p2, p3, p4, p5, p6, p7, p8, p9⟩ := rn_cells z1; have fz := z1.frozen; dsimp only [Rn.zero] at p0 p1 p2 p3 p4 p5 p6 p7 p8 p9; have lz1 := z1.lt; have S1 : Hid (Sits w1 w.heap.size (rnCells r) 24) := s1; have Z1 : Hid (Sits w1 (w.heap.size + 1) (rnCells Rn.zero) 24) := z1; have c1 := Below.trans (c0) (b1.mono (Below.size (c0))); clear s1 z1 b1)
    obtain ⟨W2, hW2⟩ : ∃ x, ((((((((((w1.setCell ⟨w.heap.size, 0, none⟩ (.int .i64 r.mss)).setCell ⟨w.heap.size, 1, none⟩ (.int .i64 h)).setCell ⟨w.heap.size, 2, none⟩ (.int .i64 h)).setCell ⟨w.heap.size, 3, none⟩ (.int .i64 0)).setCell ⟨w.heap.size, 4, none⟩ (.int .i64 r.una)).setCell ⟨w.heap.size, 5, none⟩ (.int .i64 r.nx)).setCell ⟨w.heap.size, 6, none⟩ (.int .i64 r.du)).setCell ⟨w.heap.size, 7, none⟩ (.int .i64 r.rc)).setCell ⟨w.heap.size, 8, none⟩ (.bool r.inn)).setCell ⟨w.heap.size, 9, none⟩ (.int .i64 r.cut)) = x := ⟨_, rfl⟩
    have s1 : Sits W2 w.heap.size (rnCells (Rn.mk r.mss h h 0 r.una r.nx r.du r.rc r.inn r.cut)) 24 := by rw [← hW2]; exact put_sits S1.out (Rn.mk r.mss h h 0 r.una r.nx r.du r.rc r.inn r.cut)
    have z1 : Sits W2 (w.heap.size + 1) (rnCells Rn.zero) 24 := by rw [← hW2]; exact put_other Z1.out (by omega) (Rn.mk r.mss h h 0 r.una r.nx r.du r.rc r.inn r.cut)
    have c2 : Below w.heap.size w W2 := by rw [← hW2]; exact put_below c1 (Nat.le_refl _) (Rn.mk r.mss h h 0 r.una r.nx r.du r.rc r.inn r.cut)
    rw [hW2]
    clear hW2 q0 q1 q2 q3 q4 q5 q6 q7 q8 q9 p0 p1 p2 p3 p4 p5 p6 p7 p8 p9 fs fz
    obtain ⟨q0, q1, q2, q3, q4, q5, q6, q7, q8, q9⟩ := rn_cells s1
    have fs := s1.frozen
    obtain ⟨p0, p1, p2, p3, p4, p5, p6, p7, p8, p9⟩ := rn_cells z1
    have fz := z1.frozen
    dsimp only [Rn.zero] at p0 p1 p2 p3 p4 p5 p6 p7 p8 p9
    have lz2 := z1.lt
    have S2 : Hid (Sits W2 w.heap.size (rnCells (Rn.mk r.mss h h 0 r.una r.nx r.du r.rc r.inn r.cut)) 24) := s1
    have Z2 : Hid (Sits W2 (w.heap.size + 1) (rnCells Rn.zero) 24) := z1
    clear s1 z1
    clear S1 Z1 c1
    clear hh
    go_upto_region 5 with fail
    obtain ⟨W3, hW3⟩ : ∃ x, ((W2.setCell ⟨w.heap.size, 1, none⟩ (.int .i64 r.mss)).setCell ⟨w.heap.size, 6, none⟩ (.int .i64 0)).setCell ⟨w.heap.size, 8, none⟩ (.bool false) = x := ⟨_, rfl⟩
    have s1 : Sits W3 w.heap.size (rnCells (Rn.mk r.mss r.mss h 0 r.una r.nx 0 r.rc false r.cut)) 24 := by rw [← hW3]; exact rn_s8 (rn_s6 (rn_s1 S2.out _) _) _
    have z1 : Sits W3 (w.heap.size + 1) (rnCells Rn.zero) 24 := by rw [← hW3]; exact Sits.other (Sits.other (Sits.other (Z2.out) (by omega) _) (by omega) _) (by omega) _
    have c3 : Below w.heap.size w W3 := by rw [← hW3]; exact Below.setCell (Below.setCell (Below.setCell (c2) (Nat.le_refl _) _) (Nat.le_refl _) _) (Nat.le_refl _) _
    rw [hW3]
    clear hW3 q0 q1 q2 q3 q4 q5 q6 q7 q8 q9 p0 p1 p2 p3 p4 p5 p6 p7 p8 p9 fs fz
    obtain ⟨q0, q1, q2, q3, q4, q5, q6, q7, q8, q9⟩ := rn_cells s1
    have fs := s1.frozen
    obtain ⟨p0, p1, p2, p3, p4, p5, p6, p7, p8, p9⟩ := rn_cells z1
    have fz := z1.frozen
    dsimp only [Rn.zero] at p0 p1 p2 p3 p4 p5 p6 p7 p8 p9
    have lz3 := z1.lt
    have S3 : Hid (Sits W3 w.heap.size (rnCells (Rn.mk r.mss r.mss h 0 r.una r.nx 0 r.rc false r.cut)) 24) := s1
    have Z3 : Hid (Sits W3 (w.heap.size + 1) (rnCells Rn.zero) 24) := z1
    clear s1 z1
    go_upto_region 8 with fail
    obtain ⟨W4, hW4⟩ : ∃ x, ((W3.setCell ⟨w.heap.size, 5, none⟩ (.int .i64 r.una)).setCell ⟨w.heap.size, 7, none⟩ (.int .i64 r.una)).setCell ⟨w.heap.size, 9, none⟩ (.int .i64 r.una) = x := ⟨_, rfl⟩
    have s1 : Sits W4 w.heap.size (rnCells (Rn.mk r.mss r.mss h 0 r.una r.una 0 r.una false r.una)) 24 := by rw [← hW4]; exact rn_s9 (rn_s7 (rn_s5 S3.out _) _) _
    have z1 : Sits W4 (w.heap.size + 1) (rnCells Rn.zero) 24 := by rw [← hW4]; exact Sits.other (Sits.other (Sits.other (Z3.out) (by omega) _) (by omega) _) (by omega) _
    have c4 : Below w.heap.size w W4 := by rw [← hW4]; exact Below.setCell (Below.setCell (Below.setCell (c3) (Nat.le_refl _) _) (Nat.le_refl _) _) (Nat.le_refl _) _
    rw [hW4]
    clear hW4 q0 q1 q2 q3 q4 q5 q6 q7 q8 q9 p0 p1 p2 p3 p4 p5 p6 p7 p8 p9 fs fz
    obtain ⟨q0, q1, q2, q3, q4, q5, q6, q7, q8, q9⟩ := rn_cells s1
    have fs := s1.frozen
    obtain ⟨p0, p1, p2, p3, p4, p5, p6, p7, p8, p9⟩ := rn_cells z1
    have fz := z1.frozen
    dsimp only [Rn.zero] at p0 p1 p2 p3 p4 p5 p6 p7 p8 p9
    have lz4 := z1.lt
    have S4 : Hid (Sits W4 w.heap.size (rnCells (Rn.mk r.mss r.mss h 0 r.una r.una 0 r.una false r.una)) 24) := s1
    have Z4 : Hid (Sits W4 (w.heap.size + 1) (rnCells Rn.zero) 24) := z1
    clear s1 z1
    go_wp2
    refine bodyPost_ret (ret_rn (q := (Rn.mk r.mss r.mss h 0 r.una r.una 0 r.una false r.una)) (t := 24) (B := w.heap.size + 1) Try.results40 rfl ?_) rfl ⟨rfl, ?_⟩
    · exact put_sits Z4.out (Rn.mk r.mss r.mss h 0 r.una r.una 0 r.una false r.una)
    · exact put_below c4 (by omega) (Rn.mk r.mss r.mss h 0 r.una r.una 0 r.una false r.una)
  · have hv : r.anew h = (Rn.mk r.mss r.mss h 0 r.una r.una 0 r.una false r.cut) := by unfold Rn.anew minI; simp [k]
    rw [hv]
    clear hv
    go_enter Try.func40, Try.ntmps40
    go_upto_region 1 with fail
    try rw [hW]
    clear hW
    obtain ⟨q0, q1, q2, q3, q4, q5, q6, q7, q8, q9⟩ := rn_cells S0.out
    have fs := Sits.frozen S0.out
    obtain ⟨p0, p1, p2, p3, p4, p5, p6, p7, p8, p9⟩ := rn_cells Z0.out
    have fz := Sits.frozen Z0.out
    dsimp only [Rn.zero] at p0 p1 p2 p3 p4 p5 p6 p7 p8 p9
    go_upto_region 2 with (go_at_call 56; refine (halved_any r h _).mono ?_; rintro e w1 ⟨rfl, b1⟩; rw [hh]; have s1 := Sits.below (S0.out) b1 (Sits.lt (S0.out)); have z1 := Sits.below (Z0.out) b1 (Sits.lt (Z0.out)); clear q0 q1 q2 q3 q4 q5 q6 q7 q8 q9 p0 p1 p2 p3 p4 p5 p6 p7 p8 p9 fs fz; obtain ⟨q0, q1, q2, q3, q4, q5, q6, q7, q8, q9⟩ := rn_cells s1; have fs := s1.frozen; obtain ⟨p0, p1, p2, p3, p4, p5, p6, p7, p8, p9⟩ := rn_cells z1; have fz := z1.frozen; dsimp only [Rn.zero] at p0 p1 p2 p3 p4 p5 p6 p7 p8 p9; have lz1 := z1.lt; have S1 : Hid (Sits w1 w.heap.size (rnCells r) 24) := s1; have Z1 : Hid (Sits w1 (w.heap.size + 1) (rnCells Rn.zero) 24) := z1; have c1 := Below.trans (c0) (b1.mono (Below.size (c0))); clear s1 z1 b1)
    obtain ⟨W2, hW2⟩ : ∃ x, ((((((((((w1.setCell ⟨w.heap.size, 0, none⟩ (.int .i64 r.mss)).setCell ⟨w.heap.size, 1, none⟩ (.int .i64 h)).setCell ⟨w.heap.size, 2, none⟩ (.int .i64 h)).setCell ⟨w.heap.size, 3, none⟩ (.int .i64 0)).setCell ⟨w.heap.size, 4, none⟩ (.int .i64 r.una)).setCell ⟨w.heap.size, 5, none⟩ (.int .i64 r.nx)).setCell ⟨w.heap.size, 6, none⟩ (.int .i64 r.du)).setCell ⟨w.heap.size, 7, none⟩ (.int .i64 r.rc)).setCell ⟨w.heap.size, 8, none⟩ (.bool r.inn)).setCell ⟨w.heap.size, 9, none⟩ (.int .i64 r.cut)) = x := ⟨_, rfl⟩
    have s1 : Sits W2 w.heap.size (rnCells (Rn.mk r.mss h h 0 r.una r.nx r.du r.rc r.inn r.cut)) 24 := by rw [← hW2]; exact put_sits S1.out (Rn.mk r.mss h h 0 r.una r.nx r.du r.rc r.inn r.cut)
    have z1 : Sits W2 (w.heap.size + 1) (rnCells Rn.zero) 24 := by rw [← hW2]; exact put_other Z1.out (by omega) (Rn.mk r.mss h h 0 r.una r.nx r.du r.rc r.inn r.cut)
    have c2 : Below w.heap.size w W2 := by rw [← hW2]; exact put_below c1 (Nat.le_refl _) (Rn.mk r.mss h h 0 r.una r.nx r.du r.rc r.inn r.cut)
    rw [hW2]
    clear hW2 q0 q1 q2 q3 q4 q5 q6 q7 q8 q9 p0 p1 p2 p3 p4 p5 p6 p7 p8 p9 fs fz
    obtain ⟨q0, q1, q2, q3, q4, q5, q6, q7, q8, q9⟩ := rn_cells s1
    have fs := s1.frozen
    obtain ⟨p0, p1, p2, p3, p4, p5, p6, p7, p8, p9⟩ := rn_cells z1
    have fz := z1.frozen
    dsimp only [Rn.zero] at p0 p1 p2 p3 p4 p5 p6 p7 p8 p9
    have lz2 := z1.lt
    have S2 : Hid (Sits W2 w.heap.size (rnCells (Rn.mk r.mss h h 0 r.una r.nx r.du r.rc r.inn r.cut)) 24) := s1
    have Z2 : Hid (Sits W2 (w.heap.size + 1) (rnCells Rn.zero) 24) := z1
    clear s1 z1
    clear S1 Z1 c1
    clear hh
    go_upto_region 5 with fail
    obtain ⟨W3, hW3⟩ : ∃ x, ((W2.setCell ⟨w.heap.size, 1, none⟩ (.int .i64 r.mss)).setCell ⟨w.heap.size, 6, none⟩ (.int .i64 0)).setCell ⟨w.heap.size, 8, none⟩ (.bool false) = x := ⟨_, rfl⟩
    have s1 : Sits W3 w.heap.size (rnCells (Rn.mk r.mss r.mss h 0 r.una r.nx 0 r.rc false r.cut)) 24 := by rw [← hW3]; exact rn_s8 (rn_s6 (rn_s1 S2.out _) _) _
    have z1 : Sits W3 (w.heap.size + 1) (rnCells Rn.zero) 24 := by rw [← hW3]; exact Sits.other (Sits.other (Sits.other (Z2.out) (by omega) _) (by omega) _) (by omega) _
    have c3 : Below w.heap.size w W3 := by rw [← hW3]; exact Below.setCell (Below.setCell (Below.setCell (c2) (Nat.le_refl _) _) (Nat.le_refl _) _) (Nat.le_refl _) _
    rw [hW3]
    clear hW3 q0 q1 q2 q3 q4 q5 q6 q7 q8 q9 p0 p1 p2 p3 p4 p5 p6 p7 p8 p9 fs fz
    obtain ⟨q0, q1, q2, q3, q4, q5, q6, q7, q8, q9⟩ := rn_cells s1
    have fs := s1.frozen
    obtain ⟨p0, p1, p2, p3, p4, p5, p6, p7, p8, p9⟩ := rn_cells z1
    have fz := z1.frozen
    dsimp only [Rn.zero] at p0 p1 p2 p3 p4 p5 p6 p7 p8 p9
    have lz3 := z1.lt
    have S3 : Hid (Sits W3 w.heap.size (rnCells (Rn.mk r.mss r.mss h 0 r.una r.nx 0 r.rc false r.cut)) 24) := s1
    have Z3 : Hid (Sits W3 (w.heap.size + 1) (rnCells Rn.zero) 24) := z1
    clear s1 z1
    go_upto_region 8 with fail
    obtain ⟨W4, hW4⟩ : ∃ x, ((W3.setCell ⟨w.heap.size, 5, none⟩ (.int .i64 r.una)).setCell ⟨w.heap.size, 7, none⟩ (.int .i64 r.una)).setCell ⟨w.heap.size, 9, none⟩ (.int .i64 r.cut) = x := ⟨_, rfl⟩
    have s1 : Sits W4 w.heap.size (rnCells (Rn.mk r.mss r.mss h 0 r.una r.una 0 r.una false r.cut)) 24 := by rw [← hW4]; exact rn_s9 (rn_s7 (rn_s5 S3.out _) _) _
    have z1 : Sits W4 (w.heap.size + 1) (rnCells Rn.zero) 24 := by rw [← hW4]; exact Sits.other (Sits.other (Sits.other (Z3.out) (by omega) _) (by omega) _) (by omega) _
    have c4 : Below w.heap.size w W4 := by rw [← hW4]; exact Below.setCell (Below.setCell (Below.setCell (c3) (Nat.le_refl _) _) (Nat.le_refl _) _) (Nat.le_refl _) _
    rw [hW4]
    clear hW4 q0 q1 q2 q3 q4 q5 q6 q7 q8 q9 p0 p1 p2 p3 p4 p5 p6 p7 p8 p9 fs fz
    obtain ⟨q0, q1, q2, q3, q4, q5, q6, q7, q8, q9⟩ := rn_cells s1
    have fs := s1.frozen
    obtain ⟨p0, p1, p2, p3, p4, p5, p6, p7, p8, p9⟩ := rn_cells z1
    have fz := z1.frozen
    dsimp only [Rn.zero] at p0 p1 p2 p3 p4 p5 p6 p7 p8 p9
    have lz4 := z1.lt
    have S4 : Hid (Sits W4 w.heap.size (rnCells (Rn.mk r.mss r.mss h 0 r.una r.una 0 r.una false r.cut)) 24) := s1
    have Z4 : Hid (Sits W4 (w.heap.size + 1) (rnCells Rn.zero) 24) := z1
    clear s1 z1
    go_wp2
    refine bodyPost_ret (ret_rn (q := (Rn.mk r.mss r.mss h 0 r.una r.una 0 r.una false r.cut)) (t := 24) (B := w.heap.size + 1) Try.results40 rfl ?_) rfl ⟨rfl, ?_⟩
    · exact put_sits Z4.out (Rn.mk r.mss r.mss h 0 r.una r.una 0 r.una false r.cut)
    · exact put_below c4 (by omega) (Rn.mk r.mss r.mss h 0 r.una r.una 0 r.una false r.cut)

set_option maxRecDepth 20000 in
set_option maxHeartbeats 2000000 in
theorem grown_any (r : Rn) (b : Int) (hf : r.fit) (b0 : 0 ≤ b) (b1 : b ≤ 1000000000000) (w : World) :
    Calls Try.prog 51 #[r.val, .int .i64 b] w fun e w' => e = .returned (r.grow b).val ∧ Below w.heap.size w w' := by
  have HF : Hid r.fit := hf
  unfold Rn.fit at hf
  obtain ⟨s0, z0, c0, -⟩ := zero_boxes w r
  obtain ⟨W, hW⟩ : ∃ W, (w.alloc (.cells (rnCells r) 24)).alloc (.cells #[.int .i64 0, .int .i64 0, .int .i64 0, .int .i64 0, .int .i64 0, .int .i64 0, .int .i64 0, .int .i64 0, .bool false, .int .i64 0] 24) = W := ⟨_, rfl⟩
  rw [hW] at s0 z0 c0
  have lz := z0.lt
  have S0 : Hid (Sits W w.heap.size (rnCells r) 24) := s0
  have Z0 : Hid (Sits W (w.heap.size + 1) (rnCells Rn.zero) 24) := z0
  clear s0 z0
  by_cases k : r.cw < r.th
  · by_cases k2 : r.mss < b
    · obtain ⟨q, hq⟩ : ∃ q, r.widen r.mss = q := ⟨_, rfl⟩
      have hv : r.grow b = q := by unfold Rn.grow minI; simp [k, k2, hq]
      rw [hv]
      clear hv
      go_enter Try.func51, Try.ntmps51
      go_upto_region 1 with fail
      try rw [hW]
      clear hW
      obtain ⟨q0, q1, q2, q3, q4, q5, q6, q7, q8, q9⟩ := rn_cells S0.out
      have fs := Sits.frozen S0.out
      obtain ⟨p0, p1, p2, p3, p4, p5, p6, p7, p8, p9⟩ := rn_cells Z0.out
      have fz := Sits.frozen Z0.out
      dsimp only [Rn.zero] at p0 p1 p2 p3 p4 p5 p6 p7 p8 p9
      go_wp2_with (go_at_call 54; refine (widened_any r r.mss HF.out (by omega) (by omega) _).mono ?_; rintro e w1 ⟨rfl, b1⟩; rw [hq]; have s1 := Sits.below (S0.out) b1 (Sits.lt (S0.out)); have z1 := Sits.below (Z0.out) b1 (Sits.lt (Z0.out)); clear q0 q1 q2 q3 q4 q5 q6 q7 q8 q9 p0 p1 p2 p3 p4 p5 p6 p7 p8 p9 fs fz; obtain ⟨q0, q1, q2, q3, q4, q5, q6, q7, q8, q9⟩ := rn_cells s1; have fs := s1.frozen; obtain ⟨p0, p1, p2, p3, p4, p5, p6, p7, p8, p9⟩ := rn_cells z1; have fz := z1.frozen; dsimp only [Rn.zero] at p0 p1 p2 p3 p4 p5 p6 p7 p8 p9; have lz1 := z1.lt; have S1 : Hid (Sits w1 w.heap.size (rnCells r) 24) := s1; have Z1 : Hid (Sits w1 (w.heap.size + 1) (rnCells Rn.zero) 24) := z1; have c1 := Below.trans (c0) (b1.mono (Below.size (c0))); clear s1 z1 b1)
      refine bodyPost_ret (ret_rn (q := q) (t := 24) (B := w.heap.size + 1) Try.results51 rfl ?_) rfl ⟨rfl, ?_⟩
      · exact put_sits Z1.out q
      · exact put_below c1 (by omega) q
    · obtain ⟨q, hq⟩ : ∃ q, r.widen b = q := ⟨_, rfl⟩
      have hv : r.grow b = q := by unfold Rn.grow minI; simp [k, k2, hq]
      rw [hv]
      clear hv
      go_enter Try.func51, Try.ntmps51
      go_upto_region 1 with fail
      try rw [hW]
      clear hW
      obtain ⟨q0, q1, q2, q3, q4, q5, q6, q7, q8, q9⟩ := rn_cells S0.out
      have fs := Sits.frozen S0.out
      obtain ⟨p0, p1, p2, p3, p4, p5, p6, p7, p8, p9⟩ := rn_cells Z0.out
      have fz := Sits.frozen Z0.out
      dsimp only [Rn.zero] at p0 p1 p2 p3 p4 p5 p6 p7 p8 p9
      go_wp2_with (go_at_call 54; refine (widened_any r b HF.out (by omega) (by omega) _).mono ?_; rintro e w1 ⟨rfl, b1⟩; rw [hq]; have s1 := Sits.below (S0.out) b1 (Sits.lt (S0.out)); have z1 := Sits.below (Z0.out) b1 (Sits.lt (Z0.out)); clear q0 q1 q2 q3 q4 q5 q6 q7 q8 q9 p0 p1 p2 p3 p4 p5 p6 p7 p8 p9 fs fz; obtain ⟨q0, q1, q2, q3, q4, q5, q6, q7, q8, q9⟩ := rn_cells s1; have fs := s1.frozen; obtain ⟨p0, p1, p2, p3, p4, p5, p6, p7, p8, p9⟩ := rn_cells z1; have fz := z1.frozen; dsimp only [Rn.zero] at p0 p1 p2 p3 p4 p5 p6 p7 p8 p9; have lz1 := z1.lt; have S1 : Hid (Sits w1 w.heap.size (rnCells r) 24) := s1; have Z1 : Hid (Sits w1 (w.heap.size + 1) (rnCells Rn.zero) 24) := z1; have c1 := Below.trans (c0) (b1.mono (Below.size (c0))); clear s1 z1 b1)
      refine bodyPost_ret (ret_rn (q := q) (t := 24) (B := w.heap.size + 1) Try.results51 rfl ?_) rfl ⟨rfl, ?_⟩
      · exact put_sits Z1.out q
      · exact put_below c1 (by omega) q
  · by_cases k2 : 100000000 < r.ac + b
    · by_cases k3 : 100000000 < r.cw
      · exfalso; omega
      · obtain ⟨q, hq⟩ : ∃ q, Rn.widen (Rn.mk r.mss r.cw r.th (100000000 - r.cw) r.una r.nx r.du r.rc r.inn r.cut) r.mss = q := ⟨_, rfl⟩
        have hv : r.grow b = q := by unfold Rn.grow minI; simp [k, k2, k3, ← hq]; try omega
        rw [hv]
        clear hv
        go_enter Try.func51, Try.ntmps51
        go_upto_region 1 with fail
        try rw [hW]
        clear hW
        obtain ⟨q0, q1, q2, q3, q4, q5, q6, q7, q8, q9⟩ := rn_cells S0.out
        have fs := Sits.frozen S0.out
        obtain ⟨p0, p1, p2, p3, p4, p5, p6, p7, p8, p9⟩ := rn_cells Z0.out
        have fz := Sits.frozen Z0.out
        dsimp only [Rn.zero] at p0 p1 p2 p3 p4 p5 p6 p7 p8 p9
        go_wp2_with (go_at_call 54; refine (widened_any (Rn.mk r.mss r.cw r.th (100000000 - r.cw) r.una r.nx r.du r.rc r.inn r.cut) r.mss (by unfold Rn.fit; dsimp only; omega) (by omega) (by omega) _).mono ?_; rintro e w1 ⟨rfl, b1⟩; rw [hq]; have s1 := Sits.below (rn_s3 (rn_s3 S0.out _) _) b1 (Sits.lt (rn_s3 (rn_s3 S0.out _) _)); have z1 := Sits.below (Sits.other (Sits.other (Z0.out) (by omega) _) (by omega) _) b1 (Sits.lt (Sits.other (Sits.other (Z0.out) (by omega) _) (by omega) _)); clear q0 q1 q2 q3 q4 q5 q6 q7 q8 q9 p0 p1 p2 p3 p4 p5 p6 p7 p8 p9 fs fz; obtain ⟨q0, q1, q2, q3, q4, q5, q6, q7, q8, q9⟩ := rn_cells s1; have fs := s1.frozen; obtain ⟨p0, p1, p2, p3, p4, p5, p6, p7, p8, p9⟩ := rn_cells z1; have fz := z1.frozen; dsimp only [Rn.zero] at p0 p1 p2 p3 p4 p5 p6 p7 p8 p9; have lz1 := z1.lt; have S1 : Hid (Sits w1 w.heap.size (rnCells (Rn.mk r.mss r.cw r.th (100000000 - r.cw) r.una r.nx r.du r.rc r.inn r.cut)) 24) := s1; have Z1 : Hid (Sits w1 (w.heap.size + 1) (rnCells Rn.zero) 24) := z1; have c1 := Below.trans (Below.setCell (Below.setCell (c0) (Nat.le_refl _) _) (Nat.le_refl _) _) (b1.mono (Below.size (Below.setCell (Below.setCell (c0) (Nat.le_refl _) _) (Nat.le_refl _) _))); clear s1 z1 b1)
        refine bodyPost_ret (ret_rn (q := q) (t := 24) (B := w.heap.size + 1) Try.results51 rfl ?_) rfl ⟨rfl, ?_⟩
        · exact put_sits Z1.out q
        · exact put_below c1 (by omega) q
    · by_cases k3 : (r.ac + b) < r.cw
      · have hv : r.grow b = (Rn.mk r.mss r.cw r.th (r.ac + b) r.una r.nx r.du r.rc r.inn r.cut) := by unfold Rn.grow minI; simp [k, k2, k3]; try omega
        rw [hv]
        clear hv
        go_enter Try.func51, Try.ntmps51
        go_upto_region 1 with fail
        try rw [hW]
        clear hW
        obtain ⟨q0, q1, q2, q3, q4, q5, q6, q7, q8, q9⟩ := rn_cells S0.out
        have fs := Sits.frozen S0.out
        obtain ⟨p0, p1, p2, p3, p4, p5, p6, p7, p8, p9⟩ := rn_cells Z0.out
        have fz := Sits.frozen Z0.out
        dsimp only [Rn.zero] at p0 p1 p2 p3 p4 p5 p6 p7 p8 p9
        go_wp2
        refine bodyPost_ret (ret_rn (q := (Rn.mk r.mss r.cw r.th (r.ac + b) r.una r.nx r.du r.rc r.inn r.cut)) (t := 24) (B := w.heap.size + 1) Try.results51 rfl ?_) rfl ⟨rfl, ?_⟩
        · exact put_sits (Sits.other Z0.out (by omega) _) (Rn.mk r.mss r.cw r.th (r.ac + b) r.una r.nx r.du r.rc r.inn r.cut)
        · exact put_below (Below.setCell c0 (Nat.le_refl _) _) (by omega) (Rn.mk r.mss r.cw r.th (r.ac + b) r.una r.nx r.du r.rc r.inn r.cut)
      · obtain ⟨q, hq⟩ : ∃ q, Rn.widen (Rn.mk r.mss r.cw r.th ((r.ac + b) - r.cw) r.una r.nx r.du r.rc r.inn r.cut) r.mss = q := ⟨_, rfl⟩
        have hv : r.grow b = q := by unfold Rn.grow minI; simp [k, k2, k3, ← hq]; try omega
        rw [hv]
        clear hv
        go_enter Try.func51, Try.ntmps51
        go_upto_region 1 with fail
        try rw [hW]
        clear hW
        obtain ⟨q0, q1, q2, q3, q4, q5, q6, q7, q8, q9⟩ := rn_cells S0.out
        have fs := Sits.frozen S0.out
        obtain ⟨p0, p1, p2, p3, p4, p5, p6, p7, p8, p9⟩ := rn_cells Z0.out
        have fz := Sits.frozen Z0.out
        dsimp only [Rn.zero] at p0 p1 p2 p3 p4 p5 p6 p7 p8 p9
        go_wp2_with (go_at_call 54; refine (widened_any (Rn.mk r.mss r.cw r.th ((r.ac + b) - r.cw) r.una r.nx r.du r.rc r.inn r.cut) r.mss (by unfold Rn.fit; dsimp only; omega) (by omega) (by omega) _).mono ?_; rintro e w1 ⟨rfl, b1⟩; rw [hq]; have s1 := Sits.below (rn_s3 (rn_s3 S0.out _) _) b1 (Sits.lt (rn_s3 (rn_s3 S0.out _) _)); have z1 := Sits.below (Sits.other (Sits.other (Z0.out) (by omega) _) (by omega) _) b1 (Sits.lt (Sits.other (Sits.other (Z0.out) (by omega) _) (by omega) _)); clear q0 q1 q2 q3 q4 q5 q6 q7 q8 q9 p0 p1 p2 p3 p4 p5 p6 p7 p8 p9 fs fz; obtain ⟨q0, q1, q2, q3, q4, q5, q6, q7, q8, q9⟩ := rn_cells s1; have fs := s1.frozen; obtain ⟨p0, p1, p2, p3, p4, p5, p6, p7, p8, p9⟩ := rn_cells z1; have fz := z1.frozen; dsimp only [Rn.zero] at p0 p1 p2 p3 p4 p5 p6 p7 p8 p9; have lz1 := z1.lt; have S1 : Hid (Sits w1 w.heap.size (rnCells (Rn.mk r.mss r.cw r.th ((r.ac + b) - r.cw) r.una r.nx r.du r.rc r.inn r.cut)) 24) := s1; have Z1 : Hid (Sits w1 (w.heap.size + 1) (rnCells Rn.zero) 24) := z1; have c1 := Below.trans (Below.setCell (Below.setCell (c0) (Nat.le_refl _) _) (Nat.le_refl _) _) (b1.mono (Below.size (Below.setCell (Below.setCell (c0) (Nat.le_refl _) _) (Nat.le_refl _) _))); clear s1 z1 b1)
        refine bodyPost_ret (ret_rn (q := q) (t := 24) (B := w.heap.size + 1) Try.results51 rfl ?_) rfl ⟨rfl, ?_⟩
        · exact put_sits Z1.out q
        · exact put_below c1 (by omega) q

set_option maxRecDepth 20000 in
set_option maxHeartbeats 2000000 in
theorem partlyAcked_any (r : Rn) (b : Int) (hf : r.fit) (b0 : 0 ≤ b) (b1 : b ≤ 1000000000000) (w : World) :
    Calls Try.prog 53 #[r.val, .int .i64 b] w fun e w' => e = .returned (r.part b).val ∧ Below w.heap.size w w' := by
  unfold Rn.fit at hf
  obtain ⟨s0, z0, c0, -⟩ := zero_boxes w r
  obtain ⟨W, hW⟩ : ∃ W, (w.alloc (.cells (rnCells r) 24)).alloc (.cells #[.int .i64 0, .int .i64 0, .int .i64 0, .int .i64 0, .int .i64 0, .int .i64 0, .int .i64 0, .int .i64 0, .bool false, .int .i64 0] 24) = W := ⟨_, rfl⟩
  rw [hW] at s0 z0 c0
  have lz := z0.lt
  have S0 : Hid (Sits W w.heap.size (rnCells r) 24) := s0
  have Z0 : Hid (Sits W (w.heap.size + 1) (rnCells Rn.zero) 24) := z0
  clear s0 z0
  by_cases k : r.cw - b < r.mss
  · by_cases k2 : b < r.mss
    · have hv : r.part b = (Rn.mk r.mss r.mss r.th r.ac r.una r.nx r.du r.rc r.inn r.cut) := by unfold Rn.part maxI; simp [k, k2]
      rw [hv]
      clear hv
      go_enter Try.func53, Try.ntmps53
      go_upto_region 1 with fail
      try rw [hW]
      clear hW
      obtain ⟨q0, q1, q2, q3, q4, q5, q6, q7, q8, q9⟩ := rn_cells S0.out
      have fs := Sits.frozen S0.out
      obtain ⟨p0, p1, p2, p3, p4, p5, p6, p7, p8, p9⟩ := rn_cells Z0.out
      have fz := Sits.frozen Z0.out
      dsimp only [Rn.zero] at p0 p1 p2 p3 p4 p5 p6 p7 p8 p9
      go_wp2
      refine bodyPost_ret (ret_rn (q := (Rn.mk r.mss r.mss r.th r.ac r.una r.nx r.du r.rc r.inn r.cut)) (t := 24) (B := w.heap.size + 1) Try.results53 rfl ?_) rfl ⟨rfl, ?_⟩
      · exact put_sits (Sits.other Z0.out (by omega) _) (Rn.mk r.mss r.mss r.th r.ac r.una r.nx r.du r.rc r.inn r.cut)
      · exact put_below (Below.setCell c0 (Nat.le_refl _) _) (by omega) (Rn.mk r.mss r.mss r.th r.ac r.una r.nx r.du r.rc r.inn r.cut)
    · obtain ⟨q, hq⟩ : ∃ q, Rn.widen (Rn.mk r.mss r.mss r.th r.ac r.una r.nx r.du r.rc r.inn r.cut) r.mss = q := ⟨_, rfl⟩
      have hv : r.part b = q := by unfold Rn.part maxI; simp [k, k2, hq]
      rw [hv]
      clear hv
      go_enter Try.func53, Try.ntmps53
      go_upto_region 1 with fail
      try rw [hW]
      clear hW
      obtain ⟨q0, q1, q2, q3, q4, q5, q6, q7, q8, q9⟩ := rn_cells S0.out
      have fs := Sits.frozen S0.out
      obtain ⟨p0, p1, p2, p3, p4, p5, p6, p7, p8, p9⟩ := rn_cells Z0.out
      have fz := Sits.frozen Z0.out
      dsimp only [Rn.zero] at p0 p1 p2 p3 p4 p5 p6 p7 p8 p9
      go_wp2_with (go_at_call 54; refine (widened_any (Rn.mk r.mss r.mss r.th r.ac r.una r.nx r.du r.rc r.inn r.cut) r.mss (by unfold Rn.fit; dsimp only; omega) (by omega) (by omega) _).mono ?_; rintro e w1 ⟨rfl, b1⟩; rw [hq]; have s1 := Sits.below (rn_s1 S0.out _) b1 (Sits.lt (rn_s1 S0.out _)); have z1 := Sits.below (Sits.other (Z0.out) (by omega) _) b1 (Sits.lt (Sits.other (Z0.out) (by omega) _)); clear q0 q1 q2 q3 q4 q5 q6 q7 q8 q9 p0 p1 p2 p3 p4 p5 p6 p7 p8 p9 fs fz; obtain ⟨q0, q1, q2, q3, q4, q5, q6, q7, q8, q9⟩ := rn_cells s1; have fs := s1.frozen; obtain ⟨p0, p1, p2, p3, p4, p5, p6, p7, p8, p9⟩ := rn_cells z1; have fz := z1.frozen; dsimp only [Rn.zero] at p0 p1 p2 p3 p4 p5 p6 p7 p8 p9; have lz1 := z1.lt; have S1 : Hid (Sits w1 w.heap.size (rnCells (Rn.mk r.mss r.mss r.th r.ac r.una r.nx r.du r.rc r.inn r.cut)) 24) := s1; have Z1 : Hid (Sits w1 (w.heap.size + 1) (rnCells Rn.zero) 24) := z1; have c1 := Below.trans (Below.setCell (c0) (Nat.le_refl _) _) (b1.mono (Below.size (Below.setCell (c0) (Nat.le_refl _) _))); clear s1 z1 b1)
      refine bodyPost_ret (ret_rn (q := q) (t := 24) (B := w.heap.size + 1) Try.results53 rfl ?_) rfl ⟨rfl, ?_⟩
      · exact put_sits Z1.out q
      · exact put_below c1 (by omega) q
  · by_cases k2 : b < r.mss
    · have hv : r.part b = (Rn.mk r.mss (r.cw - b) r.th r.ac r.una r.nx r.du r.rc r.inn r.cut) := by unfold Rn.part maxI; simp [k, k2]
      rw [hv]
      clear hv
      go_enter Try.func53, Try.ntmps53
      go_upto_region 1 with fail
      try rw [hW]
      clear hW
      obtain ⟨q0, q1, q2, q3, q4, q5, q6, q7, q8, q9⟩ := rn_cells S0.out
      have fs := Sits.frozen S0.out
      obtain ⟨p0, p1, p2, p3, p4, p5, p6, p7, p8, p9⟩ := rn_cells Z0.out
      have fz := Sits.frozen Z0.out
      dsimp only [Rn.zero] at p0 p1 p2 p3 p4 p5 p6 p7 p8 p9
      go_wp2
      refine bodyPost_ret (ret_rn (q := (Rn.mk r.mss (r.cw - b) r.th r.ac r.una r.nx r.du r.rc r.inn r.cut)) (t := 24) (B := w.heap.size + 1) Try.results53 rfl ?_) rfl ⟨rfl, ?_⟩
      · exact put_sits (Sits.other Z0.out (by omega) _) (Rn.mk r.mss (r.cw - b) r.th r.ac r.una r.nx r.du r.rc r.inn r.cut)
      · exact put_below (Below.setCell c0 (Nat.le_refl _) _) (by omega) (Rn.mk r.mss (r.cw - b) r.th r.ac r.una r.nx r.du r.rc r.inn r.cut)
    · obtain ⟨q, hq⟩ : ∃ q, Rn.widen (Rn.mk r.mss (r.cw - b) r.th r.ac r.una r.nx r.du r.rc r.inn r.cut) r.mss = q := ⟨_, rfl⟩
      have hv : r.part b = q := by unfold Rn.part maxI; simp [k, k2, hq]
      rw [hv]
      clear hv
      go_enter Try.func53, Try.ntmps53
      go_upto_region 1 with fail
      try rw [hW]
      clear hW
      obtain ⟨q0, q1, q2, q3, q4, q5, q6, q7, q8, q9⟩ := rn_cells S0.out
      have fs := Sits.frozen S0.out
      obtain ⟨p0, p1, p2, p3, p4, p5, p6, p7, p8, p9⟩ := rn_cells Z0.out
      have fz := Sits.frozen Z0.out
      dsimp only [Rn.zero] at p0 p1 p2 p3 p4 p5 p6 p7 p8 p9
      go_wp2_with (go_at_call 54; refine (widened_any (Rn.mk r.mss (r.cw - b) r.th r.ac r.una r.nx r.du r.rc r.inn r.cut) r.mss (by unfold Rn.fit; dsimp only; omega) (by omega) (by omega) _).mono ?_; rintro e w1 ⟨rfl, b1⟩; rw [hq]; have s1 := Sits.below (rn_s1 S0.out _) b1 (Sits.lt (rn_s1 S0.out _)); have z1 := Sits.below (Sits.other (Z0.out) (by omega) _) b1 (Sits.lt (Sits.other (Z0.out) (by omega) _)); clear q0 q1 q2 q3 q4 q5 q6 q7 q8 q9 p0 p1 p2 p3 p4 p5 p6 p7 p8 p9 fs fz; obtain ⟨q0, q1, q2, q3, q4, q5, q6, q7, q8, q9⟩ := rn_cells s1; have fs := s1.frozen; obtain ⟨p0, p1, p2, p3, p4, p5, p6, p7, p8, p9⟩ := rn_cells z1; have fz := z1.frozen; dsimp only [Rn.zero] at p0 p1 p2 p3 p4 p5 p6 p7 p8 p9; have lz1 := z1.lt; have S1 : Hid (Sits w1 w.heap.size (rnCells (Rn.mk r.mss (r.cw - b) r.th r.ac r.una r.nx r.du r.rc r.inn r.cut)) 24) := s1; have Z1 : Hid (Sits w1 (w.heap.size + 1) (rnCells Rn.zero) 24) := z1; have c1 := Below.trans (Below.setCell (c0) (Nat.le_refl _) _) (b1.mono (Below.size (Below.setCell (c0) (Nat.le_refl _) _))); clear s1 z1 b1)
      refine bodyPost_ret (ret_rn (q := q) (t := 24) (B := w.heap.size + 1) Try.results53 rfl ?_) rfl ⟨rfl, ?_⟩
      · exact put_sits Z1.out q
      · exact put_below c1 (by omega) q

end Go.Proofs.Ytfflheebjbdnoae
