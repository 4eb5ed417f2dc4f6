/-
  l11rto, l11sample, RttSample, RttBackoff OF THE SPECIFICATION.
-/
import Derived.Test.YthdlpgehojdhkafRttN
import Derived.Test.YthdlpgehojdhkafQTail
namespace Go.Proofs.Ythdlpgehojdhkaf
open Go.RowKit
set_option linter.unusedVariables false

theorem onlyR {B : Nat} {w w' : World} (h : Below w.heap.size w w') : Only B w w' := ⟨h.os, h.tape, h.output, h.size, fun k hk _ => h.block k hk⟩
theorem below_onlyR {w w1 w2 : World} (h : Below w.heap.size w w1) (o : Only w.heap.size w1 w2) : Below w.heap.size w w2 := h.trans ⟨o.os, o.tape, o.output, o.size, fun k hk => o.block k (Nat.lt_of_lt_of_le hk h.size) (Nat.ne_of_lt hk)⟩

theorem rless_any (a b : Int) (w : World) : Calls Try.prog 21 #[.int .i64 a, .int .i64 b] w fun e w' => e = .returned (.int .i64 (mnF a b)) ∧ w' = w := by
  unfold mnF
  by_cases h : a < b
  all_goals
    go_enter Try.func21, Try.ntmps21
    go_wp2
    go_ret
    exact ⟨ret_int rfl, rfl⟩

theorem rmore_any (a b : Int) (w : World) : Calls Try.prog 24 #[.int .i64 a, .int .i64 b] w fun e w' => e = .returned (.int .i64 (mxF a b)) ∧ w' = w := by
  unfold mxF
  by_cases h : b < a
  all_goals
    go_enter Try.func24, Try.ntmps24
    go_wp2
    go_ret
    exact ⟨ret_int rfl, rfl⟩

theorem rabs_any (a b : Int) (h0 : 0 ≤ a) (h1 : a ≤ 60000000) (h2 : 0 ≤ b) (h3 : b ≤ 60000000) (w : World) : Calls Try.prog 23 #[.int .i64 (b - a)] w fun e w' => e = .returned (.int .i64 (apF a b)) ∧ w' = w := by
  by_cases h : b - a < 0
  · have hv : apF a b = -(b - a) := by unfold apF; split <;> omega
    rw [hv]
    clear hv
    go_enter Try.func23, Try.ntmps23
    go_wp2
    go_ret
    exact ⟨ret_int (by first | rfl | omega), rfl⟩
  · have hv : apF a b = b - a := by unfold apF; split <;> omega
    rw [hv]
    clear hv
    go_enter Try.func23, Try.ntmps23
    go_wp2
    go_ret
    exact ⟨ret_int (by first | rfl | omega), rfl⟩

set_option maxRecDepth 100000 in
set_option maxHeartbeats 4000000 in
theorem l11rto_any (B : Nat) (r : Rt) (h0 : 0 ≤ r.mn) (h1 : r.mn ≤ 60000000) (h2 : 0 ≤ r.vr) (h3 : r.vr ≤ 60000000) (w : World) (hS : Sits w B (rtCells r) 24) :
    Calls Try.prog 22 #[.pointer (some ⟨B, 0, none⟩)] w fun e w' => e = .returned (.tuple #[]) ∧ Sits w' B (rtCells { r with ro := rtoF r.mn r.vr }) 24 ∧ Only B w w' := by
  obtain ⟨X, hX⟩ : ∃ X, rtoF r.mn r.vr = X := ⟨_, rfl⟩
  rw [hX]
  unfold rtoF at hX
  have e1 := mxF_comm (4 * r.vr) 1000
  obtain ⟨X1, hX1⟩ : ∃ X, mxF 1000 (4 * r.vr) = X := ⟨_, rfl⟩
  have b1 := mxF_bd 1000 (4 * r.vr)
  rw [hX1] at b1 e1
  rw [e1] at hX
  obtain ⟨X2, hX2⟩ : ∃ X, mxF (r.mn + X1) 1000000 = X := ⟨_, rfl⟩
  rw [hX2] at hX
  obtain ⟨b11, b12, b13⟩ := b1
  have b14 : X1 ≤ 240000000 := by omega
  have hX4 : mxF 1000 (r.vr * 4) = X1 := by rw [Int.mul_comm, hX1]
  have v1 : IntKind.i64.wrap (4 * r.vr) = 4 * r.vr := wrapr (by omega) (by omega)
  have v2 : IntKind.i64.wrap (r.mn + X1) = r.mn + X1 := wrapr (by omega) (by omega)
  clear e1 b13
  have S0 : Hid (Sits w B (rtCells r) 24) := hS
  have O0 : Hid (Only B w w) := Only.refl _ _
  clear hS
  go_enter Try.func22, Try.ntmps22
  obtain ⟨q0, q1, q2, q3⟩ := rt_cells S0.out
  have fs := Sits.frozen S0.out
  (try dsimp only at q0 q1 q2 q3)
  go_upto_region 0 with fail
  refine wp_region_qtail 16 (C := fun w' => Below w.heap.size w w') (by kernel_rfl) (by kernel_rfl) ((Below.refl _ _).drew) ?_
  simp only [List.take_succ_cons, List.take_zero, List.drop_succ_cons, List.drop_zero]
  repeat (first
    | go_big_quiet_skip
    | (go_big_quiet_want
       unfold Oper.quiet
       apply Exists.intro
       refine ⟨fun w' hw' => ?_, ?_⟩
       (obtain ⟨q0, q1, q2, q3⟩ := rt_cells (Sits.below S0.out hw' (Sits.lt S0.out))
        (try dsimp only at q0 q1 q2 q3)
        go_simp
        first
          | (go_at_call 24; refine (rmore_any _ _ _).mono ?_; rintro e w8 ⟨rfl, rfl⟩; (first | rw [hX1] | rw [hX4] | rw [hX2]); exact ⟨rfl, hw'⟩)
          | (go_at_call 21; refine (rless_any _ _ _).mono ?_; rintro e w8 ⟨rfl, rfl⟩; rw [hX]; exact ⟨rfl, hw'⟩)
          | exact rfl)
       simp only [Act.put, List.setIfInBounds_toArray, List.set_cons_zero, List.set_cons_succ]
       go_big_quiet_on))
  refine wpQuiet_nil ?_
  intro w1 hw1
  have S1 : Hid (Sits w1 B (rtCells r) 24) := Sits.below S0.out hw1 (Sits.lt S0.out)
  have O1 : Hid (Only B w w1) := Only.trans O0.out (onlyR hw1)
  clear hw1 S0 O0
  clear q0 q1 q2 q3 fs
  obtain ⟨q0, q1, q2, q3⟩ := rt_cells S1.out
  have fs := Sits.frozen S1.out
  (try dsimp only at q0 q1 q2 q3)
  go_wp2
  first | refine bodyPost_end (v := .tuple #[]) (by first | rfl | simp [results, go_sem] | simp [results, Try.results22, go_sem]) rfl ⟨rfl, ?_, Only.set (O1.out) 3 _⟩ | refine bodyPost_ret (v := .tuple #[]) (by first | rfl | simp [results, go_sem] | simp [results, Try.results22, go_sem]) rfl ⟨rfl, ?_, Only.set (O1.out) 3 _⟩
  first | exact rt_s3 (S1.out) _ | (rw [← HB.out]; exact rt_s3 (S1.out) _)

set_option maxRecDepth 100000 in
set_option maxHeartbeats 4000000 in
theorem l11sample_any (B : Nat) (r : Rt) (us : Int) (hg : r.good = true) (u0 : 0 ≤ us) (u1 : us ≤ 60000000) (w : World) (hS : Sits w B (rtCells r) 24) :
    Calls Try.prog 20 #[.pointer (some ⟨B, 0, none⟩), .int .i64 us] w fun e w' => e = .returned (.tuple #[]) ∧ Sits w' B (rtCells (r.nxt us)) 24 ∧ Only B w w' := by
  obtain ⟨g1, g2, g3, g4, g5, g6, g7⟩ := r.good_iff.1 hg
  obtain ⟨k1, k2, k3, k4, k5⟩ := Rt.smp_bd hg u0 u1
  clear g7
  cases hb : r.hs
  case false =>
    have hsm : r.smp us = Rt.mk true us (us / 2) 0 := by unfold Rt.smp; rw [hb]; rfl
    have e2 := half_up u0 u1
    obtain ⟨X, hX⟩ : ∃ X, rtoF us (us / 2) = X := ⟨_, rfl⟩
    have hv : r.nxt us = Rt.mk true us (us / 2) X := by unfold Rt.nxt; rw [hsm]; dsimp only; rw [hX]
    rw [hv]
    have HB : Hid (r.hs = false) := hb
    clear hv hsm hb k1 k2 k3 k4 k5
    have m2 : 0 ≤ us / 2 := by omega
    have m3 : us / 2 ≤ 60000000 := by omega
    have HX : Hid (rtoF us (us / 2) = X) := hX
    clear hX
    have S0 : Hid (Sits w B (rtCells r) 24) := hS
    have O0 : Hid (Only B w w) := Only.refl _ _
    clear hS
    go_enter Try.func20, Try.ntmps20
    obtain ⟨q0, q1, q2, q3⟩ := rt_cells S0.out
    have fs := Sits.frozen S0.out
    (try dsimp only at q0 q1 q2 q3)
    (try rw [HB.out] at q0)
    go_upto_region 4 with fail
    obtain ⟨w1, hW⟩ : ∃ x, (((w.setCell ⟨B, 0, none⟩ (.bool true)).setCell ⟨B, 1, none⟩ (.int .i64 us)).setCell ⟨B, 2, none⟩ (.int .i64 (us / 2))) = x := ⟨_, rfl⟩
    have S1 : Hid (Sits w1 B (rtCells (Rt.mk true us (us / 2) r.ro)) 24) := by rw [← hW]; exact rt_s2 (rt_s1 (rt_s0 (S0.out) _) _) _
    have O1 : Hid (Only B w w1) := by rw [← hW]; exact Only.set (Only.set (Only.set (O0.out) 0 _) 1 _) 2 _
    rw [hW]
    clear hW S0 O0
    clear q0 q1 q2 q3 fs
    obtain ⟨q0, q1, q2, q3⟩ := rt_cells S1.out
    have fs := Sits.frozen S1.out
    (try dsimp only at q0 q1 q2 q3)
    go_wp2_with (go_at_call 22; refine (l11rto_any B (Rt.mk true us (us / 2) r.ro) u0 u1 m2 m3 _ S1.out).mono ?_; rintro e w9 ⟨rfl, s9, o9⟩; dsimp only at s9; rw [HX.out] at s9; have S9 : Hid (Sits w9 B (rtCells (Rt.mk true us (us / 2) X)) 24) := s9; have O9 : Hid (Only B w w9) := Only.trans O1.out o9; clear s9 o9)
    first | exact bodyPost_end (v := .tuple #[]) (by first | rfl | simp [results, go_sem] | simp [results, Try.results20, go_sem]) rfl ⟨rfl, S9.out, O9.out⟩ | exact bodyPost_ret (v := .tuple #[]) (by first | rfl | simp [results, go_sem] | simp [results, Try.results20, go_sem]) rfl ⟨rfl, S9.out, O9.out⟩
  case true =>
    obtain ⟨d0, d1⟩ := apF_bd u0 u1 g1 g2
    obtain ⟨d, hd⟩ : ∃ d, apF us r.mn = d := ⟨_, rfl⟩
    rw [hd] at d0 d1
    have hsm : r.smp us = Rt.mk true (r.mn + (us - r.mn) / 8) (r.vr + (d - r.vr) / 4) r.ro := by unfold Rt.smp; rw [hb, hd]; rfl
    rw [hsm] at k2 k3 k4 k5
    dsimp only at k2 k3 k4 k5
    obtain ⟨V, hV⟩ : ∃ V, r.vr + (d - r.vr) / 4 = V := ⟨_, rfl⟩
    obtain ⟨M, hM⟩ : ∃ M, r.mn + (us - r.mn) / 8 = M := ⟨_, rfl⟩
    rw [hV] at k4 k5 hsm
    rw [hM] at k2 k3 hsm
    obtain ⟨X, hX⟩ : ∃ X, rtoF M V = X := ⟨_, rfl⟩
    have hv : r.nxt us = Rt.mk true M V X := by unfold Rt.nxt; rw [hsm]; dsimp only; rw [hX]
    rw [hv]
    have HX : Hid (rtoF M V = X) := hX
    have HB : Hid (r.hs = true) := hb
    have HR : Hid (r = Rt.mk true r.mn r.vr r.ro) := by show r = _; rw [← hb]
    have v1 : IntKind.i64.wrap (r.mn - us) = r.mn - us := wrapr (by omega) (by omega)
    have v2 : IntKind.i64.wrap (d - r.vr) = d - r.vr := wrapr (by omega) (by omega)
    have v3 : IntKind.i64.wrap V = V := wrapr (by omega) (by omega)
    have v4 : IntKind.i64.wrap (us - r.mn) = us - r.mn := wrapr (by omega) (by omega)
    have v5 : IntKind.i64.wrap M = M := wrapr (by omega) (by omega)
    clear hX hv hsm hb k1
    have S0 : Hid (Sits w B (rtCells (Rt.mk true r.mn r.vr r.ro)) 24) := by rw [HR.out] at hS; exact hS
    have O0 : Hid (Only B w w) := Only.refl _ _
    clear hS HR
    go_enter Try.func20, Try.ntmps20
    obtain ⟨q0, q1, q2, q3⟩ := rt_cells S0.out
    have fs := Sits.frozen S0.out
    (try dsimp only at q0 q1 q2 q3)
    go_upto_region 5 with fail
    refine wp_region_qtail 21 (C := fun w' => Below w.heap.size w w') (by kernel_rfl) (by kernel_rfl) ((Below.refl _ _).drew) ?_
    simp only [List.take_succ_cons, List.take_zero, List.drop_succ_cons, List.drop_zero]
    repeat (first
      | go_big_quiet_skip
      | (go_big_quiet_want
         unfold Oper.quiet
         apply Exists.intro
         refine ⟨fun w' hw' => ?_, ?_⟩
         (obtain ⟨q0, q1, q2, q3⟩ := rt_cells (Sits.below S0.out hw' (Sits.lt S0.out))
          (try dsimp only at q0 q1 q2 q3)
          go_simp
          first
            | (go_at_call 23; refine (rabs_any us r.mn u0 u1 g1 g2 _).mono ?_; rintro e w8 ⟨rfl, rfl⟩; rw [hd]; exact ⟨rfl, hw'⟩)
            | exact rfl)
         simp only [Act.put, List.setIfInBounds_toArray, List.set_cons_zero, List.set_cons_succ]
         go_big_quiet_on))
    refine wpQuiet_nil ?_
    intro w1 hw1
    have S1 : Hid (Sits w1 B (rtCells (Rt.mk true r.mn r.vr r.ro)) 24) := Sits.below S0.out hw1 (Sits.lt S0.out)
    have O1 : Hid (Only B w w1) := Only.trans O0.out (onlyR hw1)
    clear hw1 S0 O0
    clear q0 q1 q2 q3 fs
    obtain ⟨q0, q1, q2, q3⟩ := rt_cells S1.out
    have fs := Sits.frozen S1.out
    (try dsimp only at q0 q1 q2 q3)
    go_upto_region 6 with fail
    obtain ⟨w2, hW⟩ : ∃ x, (w1.setCell ⟨B, 2, none⟩ (.int .i64 V)) = x := ⟨_, rfl⟩
    have S2 : Hid (Sits w2 B (rtCells (Rt.mk true r.mn V r.ro)) 24) := by rw [← hW]; exact rt_s2 (S1.out) _
    have O2 : Hid (Only B w w2) := by rw [← hW]; exact Only.set (O1.out) 2 _
    rw [hW]
    clear hW S1 O1
    clear q0 q1 q2 q3 fs
    obtain ⟨q0, q1, q2, q3⟩ := rt_cells S2.out
    have fs := Sits.frozen S2.out
    (try dsimp only at q0 q1 q2 q3)
    go_upto_region 6 with fail
    refine wp_region_qtail 15 (C := fun w' => Below w2.heap.size w2 w') (by kernel_rfl) (by kernel_rfl) ((Below.refl _ _).drew) ?_
    simp only [List.take_succ_cons, List.take_zero, List.drop_succ_cons, List.drop_zero]
    repeat (first
      | go_big_quiet_skip
      | (go_big_quiet_want
         unfold Oper.quiet
         apply Exists.intro
         refine ⟨fun w' hw' => ?_, ?_⟩
         (obtain ⟨q0, q1, q2, q3⟩ := rt_cells (Sits.below S2.out hw' (Sits.lt S2.out))
          (try dsimp only at q0 q1 q2 q3)
          go_simp
          first
            | exact rfl)
         simp only [Act.put, List.setIfInBounds_toArray, List.set_cons_zero, List.set_cons_succ]
         go_big_quiet_on))
    refine wpQuiet_nil ?_
    intro w3 hw3
    have S3 : Hid (Sits w3 B (rtCells (Rt.mk true r.mn V r.ro)) 24) := Sits.below S2.out hw3 (Sits.lt S2.out)
    have O3 : Hid (Only B w w3) := Only.trans O2.out (onlyR hw3)
    clear hw3 S2 O2
    clear q0 q1 q2 q3 fs
    obtain ⟨q0, q1, q2, q3⟩ := rt_cells S3.out
    have fs := Sits.frozen S3.out
    (try dsimp only at q0 q1 q2 q3)
    go_upto_region 7 with fail
    obtain ⟨w4, hW⟩ : ∃ x, (w3.setCell ⟨B, 1, none⟩ (.int .i64 M)) = x := ⟨_, rfl⟩
    have S4 : Hid (Sits w4 B (rtCells (Rt.mk true M V r.ro)) 24) := by rw [← hW]; exact rt_s1 (S3.out) _
    have O4 : Hid (Only B w w4) := by rw [← hW]; exact Only.set (O3.out) 1 _
    rw [hW]
    clear hW S3 O3
    clear q0 q1 q2 q3 fs
    obtain ⟨q0, q1, q2, q3⟩ := rt_cells S4.out
    have fs := Sits.frozen S4.out
    (try dsimp only at q0 q1 q2 q3)
    go_wp2_with (go_at_call 22; refine (l11rto_any B (Rt.mk true M V r.ro) k2 k3 k4 k5 _ S4.out).mono ?_; rintro e w9 ⟨rfl, s9, o9⟩; dsimp only at s9; rw [HX.out] at s9; have S9 : Hid (Sits w9 B (rtCells (Rt.mk true M V X)) 24) := s9; have O9 : Hid (Only B w w9) := Only.trans O4.out o9; clear s9 o9)
    first | exact bodyPost_end (v := .tuple #[]) (by first | rfl | simp [results, go_sem] | simp [results, Try.results20, go_sem]) rfl ⟨rfl, S9.out, O9.out⟩ | exact bodyPost_ret (v := .tuple #[]) (by first | rfl | simp [results, go_sem] | simp [results, Try.results20, go_sem]) rfl ⟨rfl, S9.out, O9.out⟩

end Go.Proofs.Ythdlpgehojdhkaf
