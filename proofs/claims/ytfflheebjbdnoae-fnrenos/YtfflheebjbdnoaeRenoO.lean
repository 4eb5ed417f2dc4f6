/-
  TimedOut OF BOTH SIDES; the specification's l9half.
-/
import Derived.Test.YtfflheebjbdnoaeRenoJ
import Derived.Deep.Quiet
import Derived.Deep.QuietTactic
import Derived.BigQuiet
namespace Go.Proofs.Ytfflheebjbdnoae
open Go.RowKit
set_option linter.unusedVariables false

def Rn.outB (r : Rn) : Bool := r.good && decide (0 < r.fl)
def Rn.outF (r : Rn) : Rn := if r.outB then r.anew r.half else Rn.zero
theorem half_bd {r : Rn} (hf : r.fit) : 2 * r.mss ≤ r.half ∧ r.half ≤ 100000000 ∧ (r.half ≤ r.fl / 2 ∨ r.half = 2 * r.mss) := by
  unfold Rn.fit at hf
  have h1 := maxI_bd (r.fl / 2) (2 * r.mss)
  have h2 := minI_bd (maxI (r.fl / 2) (2 * r.mss)) 100000000
  unfold Rn.half
  omega

set_option maxRecDepth 20000 in
set_option maxHeartbeats 2000000 in
theorem l9half_any (r : Rn) (hf : r.fit) (w : World) :
    Calls Try.prog 57 #[r.val] w fun e w' => e = .returned (.int .i64 r.half) ∧ Below w.heap.size w w' := by
  unfold Rn.fit at hf
  have s0 : Sits (w.alloc (.cells (rnCells r) 24)) w.heap.size (rnCells r) 24 := Sits.new _ _ _
  have c0 : Below w.heap.size w (w.alloc (.cells (rnCells r) 24)) := (Below.refl _ _).alloc (Nat.le_refl _) _
  obtain ⟨W, hW⟩ : ∃ W, w.alloc (.cells (rnCells r) 24) = W := ⟨_, rfl⟩
  rw [hW] at s0 c0
  have S0 : Hid (Sits W w.heap.size (rnCells r) 24) := s0
  clear s0
  have hfl : 0 ≤ r.fl ∧ r.fl ≤ 1000000000000 := by unfold Rn.fl; omega
  have HH : Hid (r.half = minI (maxI (r.fl / 2) (2 * r.mss)) 100000000) := rfl
  obtain ⟨H, hH⟩ : ∃ f, r.half = f := ⟨_, rfl⟩
  obtain ⟨f, hfe⟩ : ∃ f, r.fl = f := ⟨_, rfl⟩
  rw [hH] at HH ⊢
  have hfe' : r.nx - r.una = f := hfe
  rw [hfe] at hfl HH
  obtain ⟨f0, f1⟩ := hfl
  have e0 : IntKind.i64.wrap f = f := wrap_id (by omega) (by omega)
  have e1 : IntKind.i64.wrap (2 * r.mss) = 2 * r.mss := wrap_id (by omega) (by omega)
  have e2 : IntKind.i64.wrap (f.tdiv 2) = f / 2 := by rw [Int.tdiv_eq_ediv_of_nonneg f0]; exact wrap_id (by omega) (by omega)
  go_enter Try.func57, Try.ntmps57
  go_upto_region 1 with fail
  try rw [hW]
  clear hW hfe hH
  obtain ⟨q0, q1, q2, q3, q4, q5, q6, q7, q8, q9⟩ := rn_cells S0.out
  go_wp2_with (first | (go_at_call 47; refine (less_any _ _ _).mono ?_; rintro e w8 ⟨rfl, hw8⟩; replace hw8 := hw8.symm; subst hw8) | (go_at_call 46; refine (more_any _ _ _).mono ?_; rintro e w8 ⟨rfl, hw8⟩; replace hw8 := hw8.symm; subst hw8))
  all_goals
    go_ret
    refine ⟨ret_int ?_, c0⟩
    rw [HH.out]
    clear HH S0
    unfold minI maxI
    (repeat' split) <;> omega

set_option maxRecDepth 20000 in
set_option maxHeartbeats 4000000 in
theorem itimedOut_any (r : Rn) (w : World) :
    Calls Try.prog 19 #[r.val] w fun e w' => e = .returned (.tuple #[r.outF.val, .bool r.outB]) ∧ Below w.heap.size w w' := by
  obtain ⟨s0, z0, c0, -⟩ := zero_boxes w r
  obtain ⟨W, hW⟩ : ∃ W, (w.alloc (.cells (rnCells r) 24)).alloc (.cells #[.int .i64 0, .int .i64 0, .int .i64 0, .int .i64 0, .int .i64 0, .int .i64 0, .int .i64 0, .int .i64 0, .bool false, .int .i64 0] 24) = W := ⟨_, rfl⟩
  rw [hW] at s0 z0 c0
  have lz := z0.lt
  have S0 : Hid (Sits W w.heap.size (rnCells r) 24) := s0
  have Z0 : Hid (Sits W (w.heap.size + 1) (rnCells Rn.zero) 24) := z0
  clear s0 z0
  cases hg : r.good
  case false =>
    have h1 : r.outB = false := by unfold Rn.outB; simp [hg]
    have h2 : r.outF = Rn.zero := by unfold Rn.outF; simp [h1]
    rw [h1, h2]
    clear h1 h2
    go_enter Try.func19, Try.ntmps19
    go_upto_region 1 with fail
    try rw [hW]
    clear hW
    obtain ⟨q0, q1, q2, q3, q4, q5, q6, q7, q8, q9⟩ := rn_cells S0.out
    have fs := Sits.frozen S0.out
    obtain ⟨p0, p1, p2, p3, p4, p5, p6, p7, p8, p9⟩ := rn_cells Z0.out
    have fz := Sits.frozen Z0.out
    dsimp only [Rn.zero] at p0 p1 p2 p3 p4 p5 p6 p7 p8 p9
    go_wp2_with (go_at_call 12; refine (irenoOk_any r _).mono ?_; rintro e w1 ⟨rfl, b1⟩; rw [hg]; have s1 := Sits.below (S0.out) b1 (Sits.lt (S0.out)); have z1 := Sits.below (Z0.out) b1 (Sits.lt (Z0.out)); clear q0 q1 q2 q3 q4 q5 q6 q7 q8 q9 p0 p1 p2 p3 p4 p5 p6 p7 p8 p9 fs fz; obtain ⟨q0, q1, q2, q3, q4, q5, q6, q7, q8, q9⟩ := rn_cells s1; have fs := s1.frozen; obtain ⟨p0, p1, p2, p3, p4, p5, p6, p7, p8, p9⟩ := rn_cells z1; have fz := z1.frozen; dsimp only [Rn.zero] at p0 p1 p2 p3 p4 p5 p6 p7 p8 p9; have lz1 := z1.lt; have S1 : Hid (Sits w1 w.heap.size (rnCells r) 24) := s1; have Z1 : Hid (Sits w1 (w.heap.size + 1) (rnCells Rn.zero) 24) := z1; have c1 := Below.trans (c0) (b1.mono (Below.size (c0))); clear s1 z1 b1)
    refine bodyPost_ret (ret_rnb (q := Rn.zero) (b := false) (t := 24) (B := w.heap.size + 1) Try.results19 rfl rfl ?_) rfl ⟨rfl, ?_⟩
    · exact put_sits Z1.out Rn.zero
    · exact put_below c1 (by omega) Rn.zero
  case true =>
  have HF : Hid r.fit := good_fit hg
  have hf := good_fit hg
  unfold Rn.fit at hf
  have hfl : 0 ≤ r.fl ∧ r.fl ≤ 1000000000000 := by unfold Rn.fl; omega
  obtain ⟨f, hfe⟩ : ∃ f, r.fl = f := ⟨_, rfl⟩
  have hfe' : r.nx - r.una = f := hfe
  by_cases hz : f = 0
  · have h1 : r.outB = false := by unfold Rn.outB; simp [hg, hfe, hz]
    have h2 : r.outF = Rn.zero := by unfold Rn.outF; simp [h1]
    rw [h1, h2]
    clear h1 h2
    have e1 : (f == 0) = true := by simpa using hz
    have e2 : (r.nx == r.una) = true := by simp; omega
    clear hz hfe'
    go_enter Try.func19, Try.ntmps19
    go_upto_region 1 with fail
    try rw [hW]
    clear hW
    obtain ⟨q0, q1, q2, q3, q4, q5, q6, q7, q8, q9⟩ := rn_cells S0.out
    have fs := Sits.frozen S0.out
    obtain ⟨p0, p1, p2, p3, p4, p5, p6, p7, p8, p9⟩ := rn_cells Z0.out
    have fz := Sits.frozen Z0.out
    dsimp only [Rn.zero] at p0 p1 p2 p3 p4 p5 p6 p7 p8 p9
    go_wp2_with (first | (go_at_call 12; refine (irenoOk_any r _).mono ?_; rintro e w1 ⟨rfl, b1⟩; rw [hg]; have s1 := Sits.below (S0.out) b1 (Sits.lt (S0.out)); have z1 := Sits.below (Z0.out) b1 (Sits.lt (Z0.out)); clear q0 q1 q2 q3 q4 q5 q6 q7 q8 q9 p0 p1 p2 p3 p4 p5 p6 p7 p8 p9 fs fz; obtain ⟨q0, q1, q2, q3, q4, q5, q6, q7, q8, q9⟩ := rn_cells s1; have fs := s1.frozen; obtain ⟨p0, p1, p2, p3, p4, p5, p6, p7, p8, p9⟩ := rn_cells z1; have fz := z1.frozen; dsimp only [Rn.zero] at p0 p1 p2 p3 p4 p5 p6 p7 p8 p9; have lz1 := z1.lt; have S1 : Hid (Sits w1 w.heap.size (rnCells r) 24) := s1; have Z1 : Hid (Sits w1 (w.heap.size + 1) (rnCells Rn.zero) 24) := z1; have c1 := Below.trans (c0) (b1.mono (Below.size (c0))); clear s1 z1 b1) | (go_at_call 33; refine (underWay_any r HF.out _).mono ?_; rintro e w2 ⟨rfl, b2⟩; rw [hfe]; have s1 := Sits.below (S1.out) b2 (Sits.lt (S1.out)); have z1 := Sits.below (Z1.out) b2 (Sits.lt (Z1.out)); clear q0 q1 q2 q3 q4 q5 q6 q7 q8 q9 p0 p1 p2 p3 p4 p5 p6 p7 p8 p9 fs fz; obtain ⟨q0, q1, q2, q3, q4, q5, q6, q7, q8, q9⟩ := rn_cells s1; have fs := s1.frozen; obtain ⟨p0, p1, p2, p3, p4, p5, p6, p7, p8, p9⟩ := rn_cells z1; have fz := z1.frozen; dsimp only [Rn.zero] at p0 p1 p2 p3 p4 p5 p6 p7 p8 p9; have lz1 := z1.lt; have S2 : Hid (Sits w2 w.heap.size (rnCells r) 24) := s1; have Z2 : Hid (Sits w2 (w.heap.size + 1) (rnCells Rn.zero) 24) := z1; have c2 := Below.trans (c1) (b2.mono (Below.size (c1))); clear s1 z1 b2))
    refine bodyPost_ret (ret_rnb (q := Rn.zero) (b := false) (t := 24) (B := w.heap.size + 1) Try.results19 rfl rfl ?_) rfl ⟨rfl, ?_⟩
    · exact put_sits Z2.out Rn.zero
    · exact put_below c2 (by omega) Rn.zero
  · have h1 : r.outB = true := by unfold Rn.outB; rw [hg, hfe]; simp; omega
    obtain ⟨q, hq⟩ : ∃ q, r.anew r.half = q := ⟨_, rfl⟩
    have h2 : r.outF = q := by unfold Rn.outF; rw [h1, ← hq]; rfl
    rw [h1, h2]
    clear h1 h2
    have e1 : (f == 0) = false := by simpa using hz
    have e2 : (r.nx == r.una) = false := by simp; omega
    have hc : 0 < r.fl := by rw [hfe]; omega
    have HC : Hid (0 < r.fl) := hc
    obtain ⟨h, hh⟩ : ∃ h, r.half = h := ⟨_, rfl⟩
    rw [hh] at hq
    clear hz hfe' hc
    go_enter Try.func19, Try.ntmps19
    go_upto_region 1 with fail
    try rw [hW]
    clear hW
    obtain ⟨q0, q1, q2, q3, q4, q5, q6, q7, q8, q9⟩ := rn_cells S0.out
    have fs := Sits.frozen S0.out
    obtain ⟨p0, p1, p2, p3, p4, p5, p6, p7, p8, p9⟩ := rn_cells Z0.out
    have fz := Sits.frozen Z0.out
    dsimp only [Rn.zero] at p0 p1 p2 p3 p4 p5 p6 p7 p8 p9
    go_upto_region 3 with (first | (go_at_call 12; refine (irenoOk_any r _).mono ?_; rintro e w1 ⟨rfl, b1⟩; rw [hg]; have s1 := Sits.below (S0.out) b1 (Sits.lt (S0.out)); have z1 := Sits.below (Z0.out) b1 (Sits.lt (Z0.out)); clear q0 q1 q2 q3 q4 q5 q6 q7 q8 q9 p0 p1 p2 p3 p4 p5 p6 p7 p8 p9 fs fz; obtain ⟨q0, q1, q2, q3, q4, q5, q6, q7, q8, q9⟩ := rn_cells s1; have fs := s1.frozen; obtain ⟨p0, p1, p2, p3, p4, p5, p6, p7, p8, p9⟩ := rn_cells z1; have fz := z1.frozen; dsimp only [Rn.zero] at p0 p1 p2 p3 p4 p5 p6 p7 p8 p9; have lz1 := z1.lt; have S1 : Hid (Sits w1 w.heap.size (rnCells r) 24) := s1; have Z1 : Hid (Sits w1 (w.heap.size + 1) (rnCells Rn.zero) 24) := z1; have c1 := Below.trans (c0) (b1.mono (Below.size (c0))); clear s1 z1 b1) | (go_at_call 33; refine (underWay_any r HF.out _).mono ?_; rintro e w2 ⟨rfl, b2⟩; rw [hfe]; have s1 := Sits.below (S1.out) b2 (Sits.lt (S1.out)); have z1 := Sits.below (Z1.out) b2 (Sits.lt (Z1.out)); clear q0 q1 q2 q3 q4 q5 q6 q7 q8 q9 p0 p1 p2 p3 p4 p5 p6 p7 p8 p9 fs fz; obtain ⟨q0, q1, q2, q3, q4, q5, q6, q7, q8, q9⟩ := rn_cells s1; have fs := s1.frozen; obtain ⟨p0, p1, p2, p3, p4, p5, p6, p7, p8, p9⟩ := rn_cells z1; have fz := z1.frozen; dsimp only [Rn.zero] at p0 p1 p2 p3 p4 p5 p6 p7 p8 p9; have lz1 := z1.lt; have S2 : Hid (Sits w2 w.heap.size (rnCells r) 24) := s1; have Z2 : Hid (Sits w2 (w.heap.size + 1) (rnCells Rn.zero) 24) := z1; have c2 := Below.trans (c1) (b2.mono (Below.size (c1))); clear s1 z1 b2))
    clear S0 Z0 S1 Z1 c0 c1 lz lz1
    go_region_with (first | (go_at_call 31; refine (halfOf_any r HF.out _).mono ?_; rintro e w3 ⟨rfl, b3⟩; rw [hh]; have s2 := Sits.below (Sits.drew S2.out) b3 (Sits.lt (Sits.drew S2.out)); have z2 := Sits.below (Sits.drew Z2.out) b3 (Sits.lt (Sits.drew Z2.out)); clear q0 q1 q2 q3 q4 q5 q6 q7 q8 q9 p0 p1 p2 p3 p4 p5 p6 p7 p8 p9 fs fz; obtain ⟨q0, q1, q2, q3, q4, q5, q6, q7, q8, q9⟩ := rn_cells s2; have fs := s2.frozen; obtain ⟨p0, p1, p2, p3, p4, p5, p6, p7, p8, p9⟩ := rn_cells z2; have fz := z2.frozen; dsimp only [Rn.zero] at p0 p1 p2 p3 p4 p5 p6 p7 p8 p9; have lz3 := z2.lt; have S3 : Hid (Sits w3 w.heap.size (rnCells r) 24) := s2; have Z3 : Hid (Sits w3 (w.heap.size + 1) (rnCells Rn.zero) 24) := z2; have c3 := Below.trans (Below.drew c2) (b3.mono (Below.size (Below.drew c2))); clear s2 z2 b3) | (go_at_call 29; refine (heard_silence r h HF.out HC.out _).mono ?_; rintro e w4 ⟨rfl, b4⟩; rw [hq]; have s2 := Sits.below (S3.out) b4 (Sits.lt (S3.out)); have z2 := Sits.below (Z3.out) b4 (Sits.lt (Z3.out)); clear q0 q1 q2 q3 q4 q5 q6 q7 q8 q9 p0 p1 p2 p3 p4 p5 p6 p7 p8 p9 fs fz; obtain ⟨q0, q1, q2, q3, q4, q5, q6, q7, q8, q9⟩ := rn_cells s2; have fs := s2.frozen; obtain ⟨p0, p1, p2, p3, p4, p5, p6, p7, p8, p9⟩ := rn_cells z2; have fz := z2.frozen; dsimp only [Rn.zero] at p0 p1 p2 p3 p4 p5 p6 p7 p8 p9; have lz4 := z2.lt; have S4 : Hid (Sits w4 w.heap.size (rnCells r) 24) := s2; have Z4 : Hid (Sits w4 (w.heap.size + 1) (rnCells Rn.zero) 24) := z2; have c4 := Below.trans c3 (b4.mono (Below.size c3)); clear s2 z2 b4))
    all_goals
      go_wp2
      refine bodyPost_ret (ret_rnb (q := q) (b := true) (t := 24) (B := w.heap.size + 1) Try.results19 rfl rfl ?_) rfl ⟨rfl, ?_⟩
      · exact put_sits Z4.out q
      · exact put_below c4 (by omega) q

set_option maxRecDepth 20000 in
set_option maxHeartbeats 4000000 in
theorem stimedOut_any (r : Rn) (w : World) :
    Calls Try.prog 49 #[r.val] w fun e w' => e = .returned (.tuple #[r.outF.val, .bool r.outB]) ∧ Below w.heap.size w w' := by
  obtain ⟨s0, z0, c0, -⟩ := zero_boxes w r
  obtain ⟨W, hW⟩ : ∃ W, (w.alloc (.cells (rnCells r) 24)).alloc (.cells #[.int .i64 0, .int .i64 0, .int .i64 0, .int .i64 0, .int .i64 0, .int .i64 0, .int .i64 0, .int .i64 0, .bool false, .int .i64 0] 24) = W := ⟨_, rfl⟩
  rw [hW] at s0 z0 c0
  have lz := z0.lt
  have S0 : Hid (Sits W w.heap.size (rnCells r) 24) := s0
  have Z0 : Hid (Sits W (w.heap.size + 1) (rnCells Rn.zero) 24) := z0
  clear s0 z0
  cases hg : r.good
  case false =>
    have h1 : r.outB = false := by unfold Rn.outB; simp [hg]
    have h2 : r.outF = Rn.zero := by unfold Rn.outF; simp [h1]
    rw [h1, h2]
    clear h1 h2
    go_enter Try.func49, Try.ntmps49
    go_upto_region 1 with fail
    try rw [hW]
    clear hW
    obtain ⟨q0, q1, q2, q3, q4, q5, q6, q7, q8, q9⟩ := rn_cells S0.out
    have fs := Sits.frozen S0.out
    obtain ⟨p0, p1, p2, p3, p4, p5, p6, p7, p8, p9⟩ := rn_cells Z0.out
    have fz := Sits.frozen Z0.out
    dsimp only [Rn.zero] at p0 p1 p2 p3 p4 p5 p6 p7 p8 p9
    go_wp2_with (go_at_call 10; refine (srenoOk_any r _).mono ?_; rintro e w1 ⟨rfl, b1⟩; rw [hg]; have s1 := Sits.below (S0.out) b1 (Sits.lt (S0.out)); have z1 := Sits.below (Z0.out) b1 (Sits.lt (Z0.out)); clear q0 q1 q2 q3 q4 q5 q6 q7 q8 q9 p0 p1 p2 p3 p4 p5 p6 p7 p8 p9 fs fz; obtain ⟨q0, q1, q2, q3, q4, q5, q6, q7, q8, q9⟩ := rn_cells s1; have fs := s1.frozen; obtain ⟨p0, p1, p2, p3, p4, p5, p6, p7, p8, p9⟩ := rn_cells z1; have fz := z1.frozen; dsimp only [Rn.zero] at p0 p1 p2 p3 p4 p5 p6 p7 p8 p9; have lz1 := z1.lt; have S1 : Hid (Sits w1 w.heap.size (rnCells r) 24) := s1; have Z1 : Hid (Sits w1 (w.heap.size + 1) (rnCells Rn.zero) 24) := z1; have c1 := Below.trans (c0) (b1.mono (Below.size (c0))); clear s1 z1 b1)
    refine bodyPost_ret (ret_rnb (q := Rn.zero) (b := false) (t := 24) (B := w.heap.size + 1) Try.results49 rfl rfl ?_) rfl ⟨rfl, ?_⟩
    · exact put_sits Z1.out Rn.zero
    · exact put_below c1 (by omega) Rn.zero
  case true =>
  have HF : Hid r.fit := good_fit hg
  have hf := good_fit hg
  unfold Rn.fit at hf
  have hfl : 0 ≤ r.fl ∧ r.fl ≤ 1000000000000 := by unfold Rn.fl; omega
  obtain ⟨f, hfe⟩ : ∃ f, r.fl = f := ⟨_, rfl⟩
  have hfe' : r.nx - r.una = f := hfe
  by_cases hz : f = 0
  · have h1 : r.outB = false := by unfold Rn.outB; simp [hg, hfe, hz]
    have h2 : r.outF = Rn.zero := by unfold Rn.outF; simp [h1]
    rw [h1, h2]
    clear h1 h2
    have e1 : (f == 0) = true := by simpa using hz
    have e2 : (r.nx == r.una) = true := by simp; omega
    clear hz hfe'
    go_enter Try.func49, Try.ntmps49
    go_upto_region 1 with fail
    try rw [hW]
    clear hW
    obtain ⟨q0, q1, q2, q3, q4, q5, q6, q7, q8, q9⟩ := rn_cells S0.out
    have fs := Sits.frozen S0.out
    obtain ⟨p0, p1, p2, p3, p4, p5, p6, p7, p8, p9⟩ := rn_cells Z0.out
    have fz := Sits.frozen Z0.out
    dsimp only [Rn.zero] at p0 p1 p2 p3 p4 p5 p6 p7 p8 p9
    go_wp2_with (go_at_call 10; refine (srenoOk_any r _).mono ?_; rintro e w1 ⟨rfl, b1⟩; rw [hg]; have s1 := Sits.below (S0.out) b1 (Sits.lt (S0.out)); have z1 := Sits.below (Z0.out) b1 (Sits.lt (Z0.out)); clear q0 q1 q2 q3 q4 q5 q6 q7 q8 q9 p0 p1 p2 p3 p4 p5 p6 p7 p8 p9 fs fz; obtain ⟨q0, q1, q2, q3, q4, q5, q6, q7, q8, q9⟩ := rn_cells s1; have fs := s1.frozen; obtain ⟨p0, p1, p2, p3, p4, p5, p6, p7, p8, p9⟩ := rn_cells z1; have fz := z1.frozen; dsimp only [Rn.zero] at p0 p1 p2 p3 p4 p5 p6 p7 p8 p9; have lz1 := z1.lt; have S1 : Hid (Sits w1 w.heap.size (rnCells r) 24) := s1; have Z1 : Hid (Sits w1 (w.heap.size + 1) (rnCells Rn.zero) 24) := z1; have c1 := Below.trans (c0) (b1.mono (Below.size (c0))); clear s1 z1 b1)
    refine bodyPost_ret (ret_rnb (q := Rn.zero) (b := false) (t := 24) (B := w.heap.size + 1) Try.results49 rfl rfl ?_) rfl ⟨rfl, ?_⟩
    · exact put_sits Z1.out Rn.zero
    · exact put_below c1 (by omega) Rn.zero
  · have h1 : r.outB = true := by unfold Rn.outB; rw [hg, hfe]; simp; omega
    obtain ⟨q, hq⟩ : ∃ q, r.anew r.half = q := ⟨_, rfl⟩
    have h2 : r.outF = q := by unfold Rn.outF; rw [h1, ← hq]; rfl
    rw [h1, h2]
    clear h1 h2
    have e1 : (f == 0) = false := by simpa using hz
    have e2 : (r.nx == r.una) = false := by simp; omega
    have hc : 0 < r.fl := by rw [hfe]; omega
    have HC : Hid (0 < r.fl) := hc
    obtain ⟨h, hh⟩ : ∃ h, r.half = h := ⟨_, rfl⟩
    rw [hh] at hq
    clear hz hfe' hc
    go_enter Try.func49, Try.ntmps49
    go_upto_region 1 with fail
    try rw [hW]
    clear hW
    obtain ⟨q0, q1, q2, q3, q4, q5, q6, q7, q8, q9⟩ := rn_cells S0.out
    have fs := Sits.frozen S0.out
    obtain ⟨p0, p1, p2, p3, p4, p5, p6, p7, p8, p9⟩ := rn_cells Z0.out
    have fz := Sits.frozen Z0.out
    dsimp only [Rn.zero] at p0 p1 p2 p3 p4 p5 p6 p7 p8 p9
    go_upto_region 6 with (first | (go_at_call 10; refine (srenoOk_any r _).mono ?_; rintro e w1 ⟨rfl, b1⟩; rw [hg]; have s1 := Sits.below (S0.out) b1 (Sits.lt (S0.out)); have z1 := Sits.below (Z0.out) b1 (Sits.lt (Z0.out)); clear q0 q1 q2 q3 q4 q5 q6 q7 q8 q9 p0 p1 p2 p3 p4 p5 p6 p7 p8 p9 fs fz; obtain ⟨q0, q1, q2, q3, q4, q5, q6, q7, q8, q9⟩ := rn_cells s1; have fs := s1.frozen; obtain ⟨p0, p1, p2, p3, p4, p5, p6, p7, p8, p9⟩ := rn_cells z1; have fz := z1.frozen; dsimp only [Rn.zero] at p0 p1 p2 p3 p4 p5 p6 p7 p8 p9; have lz1 := z1.lt; have S1 : Hid (Sits w1 w.heap.size (rnCells r) 24) := s1; have Z1 : Hid (Sits w1 (w.heap.size + 1) (rnCells Rn.zero) 24) := z1; have c1 := Below.trans (c0) (b1.mono (Below.size (c0))); clear s1 z1 b1) | (go_at_call 57; refine (l9half_any r HF.out _).mono ?_; rintro e w2 ⟨rfl, b2⟩; rw [hh]; have s1 := Sits.below (S1.out) b2 (Sits.lt (S1.out)); have z1 := Sits.below (Z1.out) b2 (Sits.lt (Z1.out)); clear q0 q1 q2 q3 q4 q5 q6 q7 q8 q9 p0 p1 p2 p3 p4 p5 p6 p7 p8 p9 fs fz; obtain ⟨q0, q1, q2, q3, q4, q5, q6, q7, q8, q9⟩ := rn_cells s1; have fs := s1.frozen; obtain ⟨p0, p1, p2, p3, p4, p5, p6, p7, p8, p9⟩ := rn_cells z1; have fz := z1.frozen; dsimp only [Rn.zero] at p0 p1 p2 p3 p4 p5 p6 p7 p8 p9; have lz1 := z1.lt; have S2 : Hid (Sits w2 w.heap.size (rnCells r) 24) := s1; have Z2 : Hid (Sits w2 (w.heap.size + 1) (rnCells Rn.zero) 24) := z1; have c2 := Below.trans (c1) (b2.mono (Below.size (c1))); clear s1 z1 b2))
    obtain ⟨W3, hW3⟩ : ∃ x, ((w2.setCell ⟨w.heap.size, 2, none⟩ (.int .i64 h)).setCell ⟨w.heap.size, 1, none⟩ (.int .i64 r.mss)).setCell ⟨w.heap.size, 3, none⟩ (.int .i64 0) = x := ⟨_, rfl⟩
    have s1 : Sits W3 w.heap.size (rnCells (Rn.mk r.mss r.mss h 0 r.una r.nx r.du r.rc r.inn r.cut)) 24 := by rw [← hW3]; exact rn_s3 (rn_s1 (rn_s2 S2.out _) _) _
    have z1 : Sits W3 (w.heap.size + 1) (rnCells Rn.zero) 24 := by rw [← hW3]; exact Sits.other (Sits.other (Sits.other (Z2.out) (by omega) _) (by omega) _) (by omega) _
    have c3 : Below w.heap.size w W3 := by rw [← hW3]; exact Below.setCell (Below.setCell (Below.setCell (c2) (Nat.le_refl _) _) (Nat.le_refl _) _) (Nat.le_refl _) _
    rw [hW3]
    clear hW3 q0 q1 q2 q3 q4 q5 q6 q7 q8 q9 p0 p1 p2 p3 p4 p5 p6 p7 p8 p9 fs fz
    obtain ⟨q0, q1, q2, q3, q4, q5, q6, q7, q8, q9⟩ := rn_cells s1
    have fs := s1.frozen
    obtain ⟨p0, p1, p2, p3, p4, p5, p6, p7, p8, p9⟩ := rn_cells z1
    have fz := z1.frozen
    dsimp only [Rn.zero] at p0 p1 p2 p3 p4 p5 p6 p7 p8 p9
    have lz3 := z1.lt
    have S3 : Hid (Sits W3 w.heap.size (rnCells (Rn.mk r.mss r.mss h 0 r.una r.nx r.du r.rc r.inn r.cut)) 24) := s1
    have Z3 : Hid (Sits W3 (w.heap.size + 1) (rnCells Rn.zero) 24) := z1
    clear s1 z1
    clear S0 Z0 S1 Z1 S2 Z2 c0 c1 c2 lz lz1
    go_upto_region 10 with fail
    obtain ⟨W4, hW4⟩ : ∃ x, (((W3.setCell ⟨w.heap.size, 6, none⟩ (.int .i64 0)).setCell ⟨w.heap.size, 8, none⟩ (.bool false)).setCell ⟨w.heap.size, 5, none⟩ (.int .i64 r.una)).setCell ⟨w.heap.size, 7, none⟩ (.int .i64 r.una) = x := ⟨_, rfl⟩
    have s1 : Sits W4 w.heap.size (rnCells (Rn.mk r.mss r.mss h 0 r.una r.una 0 r.una false r.cut)) 24 := by rw [← hW4]; exact rn_s7 (rn_s5 (rn_s8 (rn_s6 S3.out _) _) _) _
    have z1 : Sits W4 (w.heap.size + 1) (rnCells Rn.zero) 24 := by rw [← hW4]; exact Sits.other (Sits.other (Sits.other (Sits.other (Z3.out) (by omega) _) (by omega) _) (by omega) _) (by omega) _
    have c4 : Below w.heap.size w W4 := by rw [← hW4]; exact Below.setCell (Below.setCell (Below.setCell (Below.setCell (c3) (Nat.le_refl _) _) (Nat.le_refl _) _) (Nat.le_refl _) _) (Nat.le_refl _) _
    rw [hW4]
    clear hW4 q0 q1 q2 q3 q4 q5 q6 q7 q8 q9 p0 p1 p2 p3 p4 p5 p6 p7 p8 p9 fs fz
    obtain ⟨q0, q1, q2, q3, q4, q5, q6, q7, q8, q9⟩ := rn_cells s1
    have fs := s1.frozen
    obtain ⟨p0, p1, p2, p3, p4, p5, p6, p7, p8, p9⟩ := rn_cells z1
    have fz := z1.frozen
    dsimp only [Rn.zero] at p0 p1 p2 p3 p4 p5 p6 p7 p8 p9
    have lz4 := z1.lt
    have S4 : Hid (Sits W4 w.heap.size (rnCells (Rn.mk r.mss r.mss h 0 r.una r.una 0 r.una false r.cut)) 24) := s1
    have Z4 : Hid (Sits W4 (w.heap.size + 1) (rnCells Rn.zero) 24) := z1
    clear s1 z1
    clear S3 Z3 c3
    have hm : (if r.cut < r.una then r.cut else r.una) = minI r.cut r.una := by unfold minI; split <;> split <;> omega
    obtain ⟨M, hM⟩ : ∃ M, minI r.cut r.una = M := ⟨_, rfl⟩
    rw [hM] at hm
    obtain rfl : (Rn.mk r.mss r.mss h 0 r.una r.una 0 r.una false M) = q := by rw [← hq, ← hM]; rfl
    clear hM hq
    go_wp2_with (go_at_call 47; refine (less_any _ _ _).mono ?_; rintro e w9 ⟨rfl, hw9⟩; replace hw9 := hw9.symm; subst hw9; rw [hm])
    refine bodyPost_ret (ret_rnb (q := (Rn.mk r.mss r.mss h 0 r.una r.una 0 r.una false M)) (b := true) (t := 24) (B := w.heap.size + 1) Try.results49 rfl rfl ?_) rfl ⟨rfl, ?_⟩
    · exact put_sits (Sits.other Z4.out (by omega) _) (Rn.mk r.mss r.mss h 0 r.una r.una 0 r.una false M)
    · exact put_below (Below.setCell c4 (Nat.le_refl _) _) (by omega) (Rn.mk r.mss r.mss h 0 r.una r.una 0 r.una false M)

end Go.Proofs.Ytfflheebjbdnoae
