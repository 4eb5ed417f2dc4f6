/-
  Sent OF BOTH SIDES.
-/
import Derived.Test.YtfflheebjbdnoaeRenoM
namespace Go.Proofs.Ytfflheebjbdnoae
open Go.RowKit
set_option linter.unusedVariables false

/-- The least of three. -/
theorem run_min_int3 (P : Program) (w : World) (ts : Array TypeId) (t : TypeId) (x y z : Int) : (Builtin.min_ ts t #[.int .i64 x, .int .i64 y, .int .i64 z]).run P w = .ok (.int .i64 (if z < (if y < x then y else x) then z else (if y < x then y else x))) w := by
  simp [Builtin.min_, Builtin.min2]
attribute [local go_sem] run_min_int3

/-- May so much be sent? -/
def Rn.sentB (r : Rn) (b : Int) : Bool := r.good && (decide (1 ≤ b) && (decide (b ≤ r.mss) && (decide (b ≤ 1000000000000 - r.nx) && decide (b ≤ r.cw - r.fl))))
def Rn.sentF (r : Rn) (b : Int) : Rn := if r.sentB b then { r with nx := r.nx + b } else Rn.zero
theorem Rn.sentB_iff (r : Rn) (b : Int) : r.sentB b = true ↔ (r.good = true ∧ 1 ≤ b ∧ b ≤ r.mss ∧ b ≤ 1000000000000 - r.nx ∧ b ≤ r.cw - r.fl) := by unfold Rn.sentB; simp
theorem zero_boxes (w : World) (r : Rn) : Sits ((w.alloc (.cells (rnCells r) 24)).alloc (.cells #[.int .i64 0, .int .i64 0, .int .i64 0, .int .i64 0, .int .i64 0, .int .i64 0, .int .i64 0, .int .i64 0, .bool false, .int .i64 0] 24)) w.heap.size (rnCells r) 24 ∧ Sits ((w.alloc (.cells (rnCells r) 24)).alloc (.cells #[.int .i64 0, .int .i64 0, .int .i64 0, .int .i64 0, .int .i64 0, .int .i64 0, .int .i64 0, .int .i64 0, .bool false, .int .i64 0] 24)) (w.heap.size + 1) (rnCells Rn.zero) 24 ∧ Below w.heap.size w ((w.alloc (.cells (rnCells r) 24)).alloc (.cells #[.int .i64 0, .int .i64 0, .int .i64 0, .int .i64 0, .int .i64 0, .int .i64 0, .int .i64 0, .int .i64 0, .bool false, .int .i64 0] 24)) ∧ ((w.alloc (.cells (rnCells r) 24)).alloc (.cells #[.int .i64 0, .int .i64 0, .int .i64 0, .int .i64 0, .int .i64 0, .int .i64 0, .int .i64 0, .int .i64 0, .bool false, .int .i64 0] 24)).heap.size = w.heap.size + 2 := two_boxes w r

set_option maxRecDepth 20000 in
set_option maxHeartbeats 2000000 in
theorem isent_any (r : Rn) (b : Int) (i0 : -9223372036854775808 ≤ b) (i1 : b ≤ 9223372036854775807) (w : World) :
    Calls Try.prog 17 #[r.val, .int .i64 b] w fun e w' => e = .returned (.tuple #[(r.sentF b).val, .bool (r.sentB b)]) ∧ Below w.heap.size w w' := by
  obtain ⟨s0, z0, c0, -⟩ := zero_boxes w r
  obtain ⟨W, hW⟩ : ∃ W, (w.alloc (.cells (rnCells r) 24)).alloc (.cells #[.int .i64 0, .int .i64 0, .int .i64 0, .int .i64 0, .int .i64 0, .int .i64 0, .int .i64 0, .int .i64 0, .bool false, .int .i64 0] 24) = W := ⟨_, rfl⟩
  rw [hW] at s0 z0 c0
  have S0 : Hid (Sits W w.heap.size (rnCells r) 24) := s0
  have Z0 : Hid (Sits W (w.heap.size + 1) (rnCells Rn.zero) 24) := z0
  clear s0 z0
  cases hg : r.good
  case false =>
    have h1 : r.sentB b = false := by unfold Rn.sentB; simp [hg]
    have h2 : r.sentF b = Rn.zero := by unfold Rn.sentF; simp [h1]
    rw [h1, h2]
    clear h1 h2
    go_enter Try.func17, Try.ntmps17
    go_upto_region 1 with fail
    try rw [hW]
    clear hW
    refine wp_region_quiet (C := fun w' => Below W.heap.size W w') (by kernel_rfl) (by kernel_rfl) ((Below.refl _ _).drew) ?_
    simp only []
    repeat (first
      | go_big_quiet_skip
      | (go_big_quiet_want
         unfold Oper.quiet
         apply Exists.intro
         refine ⟨fun w' hw' => ?_, ?_⟩
         (obtain ⟨q0, q1, q2, q3, q4, q5, q6, q7, q8, q9⟩ := rn_cells (Sits.below S0.out hw' (Sits.lt S0.out))
          go_simp
          first
            | (go_at_call 12; refine (irenoOk_any r _).mono ?_; rintro e w8 ⟨rfl, hb8⟩; rw [hg]; exact ⟨rfl, hw'.trans (hb8.mono hw'.size)⟩)
            | exact rfl)
         simp only [Act.put, List.setIfInBounds_toArray, List.set_cons_zero, List.set_cons_succ]
         go_big_quiet_on))
    refine wpQuiet_nil ?_
    intro w2 hw2
    have z2 := Sits.below Z0.out hw2 (Sits.lt Z0.out)
    have s2 := Sits.below S0.out hw2 (Sits.lt S0.out)
    have c2 := c0.trans (hw2.mono c0.size)
    obtain ⟨p0, p1, p2, p3, p4, p5, p6, p7, p8, p9⟩ := rn_cells z2
    have fz := z2.frozen
    dsimp only [Rn.zero] at p0 p1 p2 p3 p4 p5 p6 p7 p8 p9
    have Z2 : Hid (Sits w2 (w.heap.size + 1) (rnCells Rn.zero) 24) := z2
    clear z2 s2
    go_wp2
    all_goals
      refine bodyPost_ret (ret_rnb (q := Rn.zero) (b := false) (t := 24) (B := w.heap.size + 1) Try.results17 rfl rfl ?_) rfl ⟨rfl, ?_⟩
      · exact put_sits Z2.out Rn.zero
      · exact put_below c2 (by omega) Rn.zero
  case true =>
  have HF : Hid r.fit := good_fit hg
  have hf := good_fit hg
  unfold Rn.fit at hf
  have hfl : 0 ≤ r.fl ∧ r.fl ≤ 1000000000000 := by unfold Rn.fl; omega
  obtain ⟨f, hfe⟩ : ∃ f, r.fl = f := ⟨_, rfl⟩
  have hfe' : r.nx - r.una = f := hfe
  have hsb := r.sentB_iff b
  rw [hg, hfe] at hsb
  rw [hfe] at hfl
  obtain ⟨f0, f1⟩ := hfl
  obtain ⟨L, hL⟩ : ∃ L, (if r.mss < 1000000000000 - r.nx then r.mss else 1000000000000 - r.nx) = L := ⟨_, rfl⟩
  obtain ⟨M, hM⟩ : ∃ M, (if r.cw - f < 0 then 0 else r.cw - f) = M := ⟨_, rfl⟩
  have hLb : L ≤ r.mss ∧ L ≤ 1000000000000 - r.nx ∧ (L = r.mss ∨ L = 1000000000000 - r.nx) := by rw [← hL]; split <;> omega
  have hMb : 0 ≤ M ∧ r.cw - f ≤ M ∧ (M = 0 ∨ M = r.cw - f) := by rw [← hM]; split <;> omega
  have HIN : Hid (∀ X, (b ≤ X ↔ (b ≤ r.mss ∧ b ≤ 1000000000000 - r.nx ∧ b ≤ r.cw - f)) → inB b 1 X = r.sentB b) := fun X hX => by
    rw [Bool.eq_iff_iff, hsb]
    simp only [inB, decide_eq_true_iff, true_and]
    omega
  cases hb : r.sentB b
  case false =>
    rw [hb] at hsb HIN
    have hbad : b < 1 ∨ (¬ b < 1 ∧ L < b) ∨ (¬ b < 1 ∧ ¬ L < b ∧ M < b) := by
      have : ¬ (1 ≤ b ∧ b ≤ r.mss ∧ b ≤ 1000000000000 - r.nx ∧ b ≤ r.cw - f) := fun h => by have := hsb.2 ⟨rfl, h⟩; cases this
      omega
    have h2 : r.sentF b = Rn.zero := by unfold Rn.sentF; simp [hb]
    rw [h2]
    clear h2 hb hsb
    clear hbad hLb hMb hL hM
    all_goals
      go_enter Try.func17, Try.ntmps17
      go_upto_region 1 with fail
      try rw [hW]
      clear hW
      refine wp_region_quiet (C := fun w' => Below W.heap.size W w') (by kernel_rfl) (by kernel_rfl) ((Below.refl _ _).drew) ?_
      simp only []
      repeat (first
        | go_big_quiet_skip
        | (go_big_quiet_want
           unfold Oper.quiet
           apply Exists.intro
           refine ⟨fun w' hw' => ?_, ?_⟩
           (obtain ⟨q0, q1, q2, q3, q4, q5, q6, q7, q8, q9⟩ := rn_cells (Sits.below S0.out hw' (Sits.lt S0.out))
            go_simp
            first
              | (go_at_call 12; refine (irenoOk_any r _).mono ?_; rintro e w8 ⟨rfl, hb8⟩; rw [hg]; exact ⟨rfl, hw'.trans (hb8.mono hw'.size)⟩)
              | (go_at_call 33; refine (underWay_any r HF.out _).mono ?_; rintro e w8 ⟨rfl, hb8⟩; rw [hfe]; exact ⟨rfl, hw'.trans (hb8.mono hw'.size)⟩)
              | (go_at_call 28; refine (within_any _ _ _ _).mono ?_; rintro e w8 ⟨rfl, rfl⟩; rw [HIN.out _ (by simp only [IntKind.wrap_i64]; (repeat' split) <;> omega)]; exact ⟨rfl, hw'⟩)
              | exact rfl)
           simp only [Act.put, List.setIfInBounds_toArray, List.set_cons_zero, List.set_cons_succ]
           go_big_quiet_on))
      refine wpQuiet_nil ?_
      intro w2 hw2
      have z2 := Sits.below Z0.out hw2 (Sits.lt Z0.out)
      have s2 := Sits.below S0.out hw2 (Sits.lt S0.out)
      have c2 := c0.trans (hw2.mono c0.size)
      obtain ⟨p0, p1, p2, p3, p4, p5, p6, p7, p8, p9⟩ := rn_cells z2
      have fz := z2.frozen
      dsimp only [Rn.zero] at p0 p1 p2 p3 p4 p5 p6 p7 p8 p9
      have Z2 : Hid (Sits w2 (w.heap.size + 1) (rnCells Rn.zero) 24) := z2
      clear z2 s2
      go_wp2
      all_goals
        refine bodyPost_ret (ret_rnb (q := Rn.zero) (b := false) (t := 24) (B := w.heap.size + 1) Try.results17 rfl rfl ?_) rfl ⟨rfl, ?_⟩
        · exact put_sits Z2.out Rn.zero
        · exact put_below c2 (by omega) Rn.zero
  case true =>
    rw [hb] at hsb HIN
    obtain ⟨_, k1, k2, k3, k4⟩ := hsb.1 rfl
    have k5 : ¬ b < 1 := by omega
    have k6 : ¬ L < b := by omega
    have k7 : ¬ M < b := by omega
    have h2 : r.sentF b = { r with nx := r.nx + b } := by unfold Rn.sentF; simp [hb]
    rw [h2]
    clear h2 hb hsb
    clear hLb hMb hL hM
    all_goals
      go_enter Try.func17, Try.ntmps17
      go_upto_region 1 with fail
      try rw [hW]
      clear hW
      refine wp_region_quiet (C := fun w' => Below W.heap.size W w') (by kernel_rfl) (by kernel_rfl) ((Below.refl _ _).drew) ?_
      simp only []
      repeat (first
        | go_big_quiet_skip
        | (go_big_quiet_want
           unfold Oper.quiet
           apply Exists.intro
           refine ⟨fun w' hw' => ?_, ?_⟩
           (obtain ⟨q0, q1, q2, q3, q4, q5, q6, q7, q8, q9⟩ := rn_cells (Sits.below S0.out hw' (Sits.lt S0.out))
            go_simp
            first
              | (go_at_call 12; refine (irenoOk_any r _).mono ?_; rintro e w8 ⟨rfl, hb8⟩; rw [hg]; exact ⟨rfl, hw'.trans (hb8.mono hw'.size)⟩)
              | (go_at_call 33; refine (underWay_any r HF.out _).mono ?_; rintro e w8 ⟨rfl, hb8⟩; rw [hfe]; exact ⟨rfl, hw'.trans (hb8.mono hw'.size)⟩)
              | (go_at_call 28; refine (within_any _ _ _ _).mono ?_; rintro e w8 ⟨rfl, rfl⟩; rw [HIN.out _ (by simp only [IntKind.wrap_i64]; (repeat' split) <;> omega)]; exact ⟨rfl, hw'⟩)
              | exact rfl)
           simp only [Act.put, List.setIfInBounds_toArray, List.set_cons_zero, List.set_cons_succ]
           go_big_quiet_on))
      refine wpQuiet_nil ?_
      intro w2 hw2
      have z2 := Sits.below Z0.out hw2 (Sits.lt Z0.out)
      have s2 := Sits.below S0.out hw2 (Sits.lt S0.out)
      have c2 := c0.trans (hw2.mono c0.size)
      obtain ⟨p0, p1, p2, p3, p4, p5, p6, p7, p8, p9⟩ := rn_cells z2
      have fz := z2.frozen
      dsimp only [Rn.zero] at p0 p1 p2 p3 p4 p5 p6 p7 p8 p9
      (try clear q0 q1 q2 q3 q4 q5 q6 q7 q8 q9)
      obtain ⟨q0, q1, q2, q3, q4, q5, q6, q7, q8, q9⟩ := rn_cells s2
      have fs := s2.frozen
      have lz := z2.lt
      have Z2 : Hid (Sits w2 (w.heap.size + 1) (rnCells Rn.zero) 24) := z2
      clear z2 s2
      go_wp2
      all_goals refine bodyPost_ret (ret_rnb (q := { r with nx := r.nx + b }) (b := true) (t := 24) (B := w.heap.size + 1) Try.results17 rfl rfl ?_) rfl ⟨rfl, ?_⟩
      all_goals first | exact put_sits (Sits.other Z2.out (by omega) _) { r with nx := r.nx + b } | exact put_below (Below.setCell c2 (Nat.le_refl _) _) (by omega) { r with nx := r.nx + b }

set_option maxRecDepth 20000 in
set_option maxHeartbeats 2000000 in
theorem ssent_any (r : Rn) (b : Int) (i0 : -9223372036854775808 ≤ b) (i1 : b ≤ 9223372036854775807) (w : World) :
    Calls Try.prog 45 #[r.val, .int .i64 b] w fun e w' => e = .returned (.tuple #[(r.sentF b).val, .bool (r.sentB b)]) ∧ Below w.heap.size w w' := by
  obtain ⟨s0, z0, c0, -⟩ := zero_boxes w r
  obtain ⟨W, hW⟩ : ∃ W, (w.alloc (.cells (rnCells r) 24)).alloc (.cells #[.int .i64 0, .int .i64 0, .int .i64 0, .int .i64 0, .int .i64 0, .int .i64 0, .int .i64 0, .int .i64 0, .bool false, .int .i64 0] 24) = W := ⟨_, rfl⟩
  rw [hW] at s0 z0 c0
  have S0 : Hid (Sits W w.heap.size (rnCells r) 24) := s0
  have Z0 : Hid (Sits W (w.heap.size + 1) (rnCells Rn.zero) 24) := z0
  clear s0 z0
  cases hg : r.good
  case false =>
    have h1 : r.sentB b = false := by unfold Rn.sentB; simp [hg]
    have h2 : r.sentF b = Rn.zero := by unfold Rn.sentF; simp [h1]
    rw [h1, h2]
    clear h1 h2
    go_enter Try.func45, Try.ntmps45
    go_upto_region 1 with fail
    try rw [hW]
    clear hW
    obtain ⟨q0, q1, q2, q3, q4, q5, q6, q7, q8, q9⟩ := rn_cells S0.out
    go_upto_region 2 with (first | (go_at_call 10; refine (srenoOk_any r _).mono ?_; rintro e w2 ⟨rfl, hw2⟩; rw [hg]; clear q0 q1 q2 q3 q4 q5 q6 q7 q8 q9; obtain ⟨q0, q1, q2, q3, q4, q5, q6, q7, q8, q9⟩ := rn_cells (Sits.below S0.out hw2 (Sits.lt S0.out))) | (go_at_call 47; refine (less_any _ _ _).mono ?_; rintro e w9 ⟨rfl, hw9⟩; replace hw9 := hw9.symm; subst hw9; rw [hL]) | (go_at_call 46; refine (more_any _ _ _).mono ?_; rintro e w9 ⟨rfl, hw9⟩; replace hw9 := hw9.symm; subst hw9; rw [hM]))
    have z2 := Sits.below Z0.out hw2 (Sits.lt Z0.out)
    have s2 := Sits.below S0.out hw2 (Sits.lt S0.out)
    have c2 := c0.trans (hw2.mono c0.size)
    obtain ⟨p0, p1, p2, p3, p4, p5, p6, p7, p8, p9⟩ := rn_cells z2
    have fz := z2.frozen
    dsimp only [Rn.zero] at p0 p1 p2 p3 p4 p5 p6 p7 p8 p9
    have Z2 : Hid (Sits w2 (w.heap.size + 1) (rnCells Rn.zero) 24) := z2
    clear z2 s2
    go_wp2
    all_goals
      refine bodyPost_ret (ret_rnb (q := Rn.zero) (b := false) (t := 24) (B := w.heap.size + 1) Try.results45 rfl rfl ?_) rfl ⟨rfl, ?_⟩
      · exact put_sits Z2.out Rn.zero
      · exact put_below c2 (by omega) Rn.zero
  case true =>
  have HF : Hid r.fit := good_fit hg
  have hf := good_fit hg
  unfold Rn.fit at hf
  have hfl : 0 ≤ r.fl ∧ r.fl ≤ 1000000000000 := by unfold Rn.fl; omega
  obtain ⟨f, hfe⟩ : ∃ f, r.fl = f := ⟨_, rfl⟩
  have hfe' : r.nx - r.una = f := hfe
  have hsb := r.sentB_iff b
  rw [hg, hfe] at hsb
  rw [hfe] at hfl
  obtain ⟨f0, f1⟩ := hfl
  obtain ⟨L, hL⟩ : ∃ L, (if r.mss < 1000000000000 - r.nx then r.mss else 1000000000000 - r.nx) = L := ⟨_, rfl⟩
  obtain ⟨M, hM⟩ : ∃ M, (if r.cw - f < 0 then 0 else r.cw - f) = M := ⟨_, rfl⟩
  have hLb : L ≤ r.mss ∧ L ≤ 1000000000000 - r.nx ∧ (L = r.mss ∨ L = 1000000000000 - r.nx) := by rw [← hL]; split <;> omega
  have hMb : 0 ≤ M ∧ r.cw - f ≤ M ∧ (M = 0 ∨ M = r.cw - f) := by rw [← hM]; split <;> omega
  have HIN : Hid (∀ X, (b ≤ X ↔ (b ≤ r.mss ∧ b ≤ 1000000000000 - r.nx ∧ b ≤ r.cw - f)) → inB b 1 X = r.sentB b) := fun X hX => by
    rw [Bool.eq_iff_iff, hsb]
    simp only [inB, decide_eq_true_iff, true_and]
    omega
  cases hb : r.sentB b
  case false =>
    rw [hb] at hsb HIN
    have hbad : b < 1 ∨ (¬ b < 1 ∧ L < b) ∨ (¬ b < 1 ∧ ¬ L < b ∧ M < b) := by
      have : ¬ (1 ≤ b ∧ b ≤ r.mss ∧ b ≤ 1000000000000 - r.nx ∧ b ≤ r.cw - f) := fun h => by have := hsb.2 ⟨rfl, h⟩; cases this
      omega
    have h2 : r.sentF b = Rn.zero := by unfold Rn.sentF; simp [hb]
    rw [h2]
    clear h2 hb hsb
    clear hLb hMb
    rcases hbad with k1 | ⟨k1, k2⟩ | ⟨k1, k2, k3⟩
    all_goals
      go_enter Try.func45, Try.ntmps45
      go_upto_region 1 with fail
      try rw [hW]
      clear hW
      obtain ⟨q0, q1, q2, q3, q4, q5, q6, q7, q8, q9⟩ := rn_cells S0.out
      go_upto_region 2 with (first | (go_at_call 10; refine (srenoOk_any r _).mono ?_; rintro e w2 ⟨rfl, hw2⟩; rw [hg]; clear q0 q1 q2 q3 q4 q5 q6 q7 q8 q9; obtain ⟨q0, q1, q2, q3, q4, q5, q6, q7, q8, q9⟩ := rn_cells (Sits.below S0.out hw2 (Sits.lt S0.out))) | (go_at_call 47; refine (less_any _ _ _).mono ?_; rintro e w9 ⟨rfl, hw9⟩; replace hw9 := hw9.symm; subst hw9; rw [hL]) | (go_at_call 46; refine (more_any _ _ _).mono ?_; rintro e w9 ⟨rfl, hw9⟩; replace hw9 := hw9.symm; subst hw9; rw [hM]))
      have z2 := Sits.below Z0.out hw2 (Sits.lt Z0.out)
      have s2 := Sits.below S0.out hw2 (Sits.lt S0.out)
      have c2 := c0.trans (hw2.mono c0.size)
      obtain ⟨p0, p1, p2, p3, p4, p5, p6, p7, p8, p9⟩ := rn_cells z2
      have fz := z2.frozen
      dsimp only [Rn.zero] at p0 p1 p2 p3 p4 p5 p6 p7 p8 p9
      have Z2 : Hid (Sits w2 (w.heap.size + 1) (rnCells Rn.zero) 24) := z2
      clear z2 s2
      go_wp2
      all_goals
        refine bodyPost_ret (ret_rnb (q := Rn.zero) (b := false) (t := 24) (B := w.heap.size + 1) Try.results45 rfl rfl ?_) rfl ⟨rfl, ?_⟩
        · exact put_sits Z2.out Rn.zero
        · exact put_below c2 (by omega) Rn.zero
  case true =>
    rw [hb] at hsb HIN
    obtain ⟨_, k1, k2, k3, k4⟩ := hsb.1 rfl
    have k5 : ¬ b < 1 := by omega
    have k6 : ¬ L < b := by omega
    have k7 : ¬ M < b := by omega
    have h2 : r.sentF b = { r with nx := r.nx + b } := by unfold Rn.sentF; simp [hb]
    rw [h2]
    clear h2 hb hsb
    clear hLb hMb
    all_goals
      go_enter Try.func45, Try.ntmps45
      go_upto_region 1 with fail
      try rw [hW]
      clear hW
      obtain ⟨q0, q1, q2, q3, q4, q5, q6, q7, q8, q9⟩ := rn_cells S0.out
      go_upto_region 3 with (first | (go_at_call 10; refine (srenoOk_any r _).mono ?_; rintro e w2 ⟨rfl, hw2⟩; rw [hg]; clear q0 q1 q2 q3 q4 q5 q6 q7 q8 q9; obtain ⟨q0, q1, q2, q3, q4, q5, q6, q7, q8, q9⟩ := rn_cells (Sits.below S0.out hw2 (Sits.lt S0.out))) | (go_at_call 47; refine (less_any _ _ _).mono ?_; rintro e w9 ⟨rfl, hw9⟩; replace hw9 := hw9.symm; subst hw9; rw [hL]) | (go_at_call 46; refine (more_any _ _ _).mono ?_; rintro e w9 ⟨rfl, hw9⟩; replace hw9 := hw9.symm; subst hw9; rw [hM]))
      have z2 := Sits.below Z0.out hw2 (Sits.lt Z0.out)
      have s2 := Sits.below S0.out hw2 (Sits.lt S0.out)
      have c2 := c0.trans (hw2.mono c0.size)
      obtain ⟨p0, p1, p2, p3, p4, p5, p6, p7, p8, p9⟩ := rn_cells z2
      have fz := z2.frozen
      dsimp only [Rn.zero] at p0 p1 p2 p3 p4 p5 p6 p7 p8 p9
      (try clear q0 q1 q2 q3 q4 q5 q6 q7 q8 q9)
      obtain ⟨q0, q1, q2, q3, q4, q5, q6, q7, q8, q9⟩ := rn_cells s2
      have fs := s2.frozen
      have lz := z2.lt
      have Z2 : Hid (Sits w2 (w.heap.size + 1) (rnCells Rn.zero) 24) := z2
      clear z2 s2
      go_wp2
      all_goals refine bodyPost_ret (ret_rnb (q := { r with nx := r.nx + b }) (b := true) (t := 24) (B := w.heap.size + 1) Try.results45 rfl rfl ?_) rfl ⟨rfl, ?_⟩
      all_goals first | exact put_sits (Sits.other Z2.out (by omega) _) { r with nx := r.nx + b } | exact put_below (Below.setCell c2 (Nat.le_refl _) _) (by omega) { r with nx := r.nx + b }

end Go.Proofs.Ytfflheebjbdnoae
