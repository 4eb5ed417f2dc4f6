/-
  CubicNew, CubicK, CubicW, Friendly OF BOTH SIDES.
-/
import Derived.Test.YtfflheebjbdnoafDoorCubicB
import Derived.Test.YtfflheebjbdnoafDoorRoots
namespace Go.Proofs.YtfflheebjbdnoafDoor
open Go.RowKit
set_option linter.unusedVariables false

/-- A new one. -/
def cbNew (w : Int) : Cb := ⟨w, 0, 0, 0, 1048576, false⟩
def Cb.orZero (r : Cb) : Cb := if r.good then r else Cb.zero
def kF (m w : Int) : Int := if 0 ≤ m ∧ m ≤ 1048576 ∧ 0 ≤ w ∧ w ≤ 1048576 ∧ w < m then root3F (2500000000 * (m - w)) else 0
def upF (d : Int) : Int := ((d * d * d).tdiv 1000000 * 4).tdiv 10000
def wF (m k t : Int) : Int := if 0 ≤ m ∧ m ≤ 1048576 ∧ 0 ≤ k ∧ k ≤ 200000 ∧ 0 ≤ t ∧ t ≤ 1048576 then m + upF (t - k) else 0
def friF (w a : Int) : Int := if 1 ≤ w ∧ w ≤ 1048576 ∧ 0 ≤ a ∧ a ≤ 1073741824 then w + ((a * 9).tdiv 17).tdiv w else 0

set_option maxRecDepth 20000 in
set_option maxHeartbeats 1000000 in
theorem icubicNew_any (a : Int) (w : World) :
    Calls Tryd.prog 7 #[.int .i64 a] w fun e w' => e = .returned (.tuple #[(cbNew a).orZero.val, .bool (cbNew a).good]) ∧ Below w.heap.size w w' := by
  cases hg : (cbNew a).good
  case false =>
    have hz : (cbNew a).orZero = Cb.zero := by unfold Cb.orZero; simp [hg]
    rw [hz]
    clear hz
    unfold cbNew at hg
    go_enter Tryd.func7, Tryd.ntmps7
    go_wp2_with (go_at_call 8; refine (icubicOk_ex (Cb.mk a 0 0 0 1048576 false) _).mono ?_; rintro e w1 ⟨rfl, rfl⟩; rw [hg])
    refine bodyPost_ret (v := .tuple #[Cb.zero.val, .bool false]) (by simp [results, Tryd.results7, go_sem, Cb.zero]) rfl ⟨rfl, by go_grown⟩
  case true =>
    have hz : (cbNew a).orZero = cbNew a := by unfold Cb.orZero; simp [hg]
    rw [hz]
    clear hz
    unfold cbNew at hg ⊢
    go_enter Tryd.func7, Tryd.ntmps7
    go_wp2_with (go_at_call 8; refine (icubicOk_ex (Cb.mk a 0 0 0 1048576 false) _).mono ?_; rintro e w1 ⟨rfl, rfl⟩; rw [hg])
    refine bodyPost_ret (v := .tuple #[(Cb.mk a 0 0 0 1048576 false).val, .bool true]) (by simp [results, Tryd.results7, go_sem]) rfl ⟨rfl, by go_grown⟩

set_option maxRecDepth 20000 in
set_option maxHeartbeats 1000000 in
theorem scubicNew_any (a : Int) (w : World) :
    Calls Tryd.prog 27 #[.int .i64 a] w fun e w' => e = .returned (.tuple #[(cbNew a).orZero.val, .bool (cbNew a).good]) ∧ Below w.heap.size w w' := by
  cases hg : (cbNew a).good
  case false =>
    have hz : (cbNew a).orZero = Cb.zero := by unfold Cb.orZero; simp [hg]
    rw [hz]
    clear hz
    unfold cbNew at hg
    go_enter Tryd.func27, Tryd.ntmps27
    go_wp2_with (go_at_call 32; refine (scubicOk_ex (Cb.mk a 0 0 0 1048576 false) _).mono ?_; rintro e w1 ⟨rfl, rfl⟩; rw [hg])
    refine bodyPost_ret (v := .tuple #[Cb.zero.val, .bool false]) (by simp [results, Tryd.results27, go_sem, Cb.zero]) rfl ⟨rfl, by go_grown⟩
  case true =>
    have hz : (cbNew a).orZero = cbNew a := by unfold Cb.orZero; simp [hg]
    rw [hz]
    clear hz
    unfold cbNew at hg ⊢
    go_enter Tryd.func27, Tryd.ntmps27
    go_wp2_with (go_at_call 32; refine (scubicOk_ex (Cb.mk a 0 0 0 1048576 false) _).mono ?_; rintro e w1 ⟨rfl, rfl⟩; rw [hg])
    refine bodyPost_ret (v := .tuple #[(Cb.mk a 0 0 0 1048576 false).val, .bool true]) (by simp [results, Tryd.results27, go_sem]) rfl ⟨rfl, by go_grown⟩

theorem tdiv_mono {a b n : Int} (hn : 0 < n) (h : a ≤ b) : a.tdiv n ≤ b.tdiv n := Int.tdiv_le_tdiv hn h
theorem d2_bd {d : Int} (a : -1048576 ≤ d) (b : d ≤ 1048576) : 0 ≤ d * d ∧ d * d ≤ 1099511627776 := by
  have h := Int.mul_nonneg (show 0 ≤ 1048576 - d by omega) (show 0 ≤ 1048576 + d by omega)
  rw [Int.sub_mul, Int.mul_add, Int.mul_add] at h
  constructor
  · by_cases h0 : 0 ≤ d
    · exact Int.mul_nonneg h0 h0
    · have := Int.mul_nonneg (show 0 ≤ -d by omega) (show 0 ≤ -d by omega)
      rwa [Int.neg_mul_neg] at this
  · omega
theorem d3_bd {q d : Int} (a : -1048576 ≤ d) (b : d ≤ 1048576) (h0 : 0 ≤ q) (h1 : q ≤ 1099511627776) : -1152921504606846976 ≤ q * d ∧ q * d ≤ 1152921504606846976 := by
  have k1 := Int.mul_le_mul_of_nonneg_left b h0
  have k2 := Int.mul_le_mul_of_nonneg_left a h0
  omega
theorem td6_bd {c : Int} (a : -1152921504606846976 ≤ c) (b : c ≤ 1152921504606846976) : -1152921504606 ≤ c.tdiv 1000000 ∧ c.tdiv 1000000 ≤ 1152921504606 :=
  ⟨Int.le_trans (by decide) (tdiv_mono (n := 1000000) (by decide) a), Int.le_trans (tdiv_mono (n := 1000000) (by decide) b) (by decide)⟩
theorem td4_bd {c : Int} (a : -4611686018424 ≤ c) (b : c ≤ 4611686018424) : -461168601 ≤ c.tdiv 10000 ∧ c.tdiv 10000 ≤ 461168601 :=
  ⟨Int.le_trans (by decide) (tdiv_mono (n := 10000) (by decide) a), Int.le_trans (tdiv_mono (n := 10000) (by decide) b) (by decide)⟩
theorem upF_bd {d : Int} (a : -1048576 ≤ d) (b : d ≤ 1048576) : -461168601 ≤ upF d ∧ upF d ≤ 461168601 := by
  obtain ⟨q0, q1⟩ := d2_bd a b
  obtain ⟨c0, c1⟩ := d3_bd a b q0 q1
  obtain ⟨u0, u1⟩ := td6_bd c0 c1
  unfold upF
  exact td4_bd (by omega) (by omega)
theorem wF_in {m k t : Int} (h : 0 ≤ m ∧ m ≤ 1048576 ∧ 0 ≤ k ∧ k ≤ 200000 ∧ 0 ≤ t ∧ t ≤ 1048576) : wF m k t = m + upF (t - k) := if_pos h
theorem wF_bd (m k t : Int) : -461168601 ≤ wF m k t ∧ wF m k t ≤ 462217177 := by
  unfold wF
  split
  · rename_i h
    have := upF_bd (d := t - k) (by omega) (by omega)
    omega
  · omega
theorem kF_bd (m w : Int) : 0 ≤ kF m w ∧ kF m w ≤ 200000 := by
  unfold kF
  split
  · rename_i h
    obtain ⟨h0, h1, h2⟩ := root3F_is (n := 2500000000 * (m - w)) (by omega)
    refine ⟨h0, ?_⟩
    by_cases hk : root3F (2500000000 * (m - w)) ≤ 200000
    · exact hk
    · exfalso
      have := (cb_bd (m := 200000) (k := root3F (2500000000 * (m - w))) (by omega) (by omega)).2
      omega
  · omega

set_option maxRecDepth 20000 in
set_option maxHeartbeats 1000000 in
theorem icubicW_any (m k t : Int) (w : World) :
    Calls Tryd.prog 16 #[.int .i64 m, .int .i64 k, .int .i64 t] w fun e w' => e = .returned (.int .i64 (wF m k t)) ∧ w' = w := by
  by_cases h : 0 ≤ m ∧ m ≤ 1048576 ∧ 0 ≤ k ∧ k ≤ 200000 ∧ 0 ≤ t ∧ t ≤ 1048576
  · have b1 : inB m 0 1048576 = true := by simp [inB]; omega
    have b2 : inB k 0 200000 = true := by simp [inB]; omega
    have b3 : inB t 0 1048576 = true := by simp [inB]; omega
    rw [wF_in h]
    obtain ⟨d, hd⟩ : ∃ d, t - k = d := ⟨_, rfl⟩
    have d0 : -1048576 ≤ d := by omega
    have d1 : d ≤ 1048576 := by omega
    rw [hd]
    unfold upF
    obtain ⟨q0, q1⟩ := d2_bd d0 d1
    obtain ⟨q, hq⟩ : ∃ q, d * d = q := ⟨_, rfl⟩
    rw [hq] at q0 q1 ⊢
    obtain ⟨c0, c1⟩ := d3_bd d0 d1 q0 q1
    obtain ⟨c, hc⟩ : ∃ c, q * d = c := ⟨_, rfl⟩
    rw [hc] at c0 c1 ⊢
    obtain ⟨u0, u1⟩ := td6_bd c0 c1
    obtain ⟨u, hu⟩ : ∃ u, c.tdiv 1000000 = u := ⟨_, rfl⟩
    rw [hu] at u0 u1 ⊢
    obtain ⟨x0, x1⟩ := td4_bd (c := u * 4) (by omega) (by omega)
    obtain ⟨x, hx⟩ : ∃ x, (u * 4).tdiv 10000 = x := ⟨_, rfl⟩
    rw [hx] at x0 x1 ⊢
    obtain ⟨m0, m1, h⟩ := h
    clear h
    go_enter Tryd.func16, Tryd.ntmps16
    go_wp2_with (go_at_call 19; refine (within_any _ _ _ _).mono ?_; rintro e w' ⟨rfl, rfl⟩)
    go_ret
    exact ⟨ret_int rfl, rfl⟩
  · have hz : wF m k t = 0 := if_neg h
    rw [hz]
    have H : Hid (¬ (inB m 0 1048576 = true ∧ inB k 0 200000 = true ∧ inB t 0 1048576 = true)) := by
      show ¬ _
      rintro ⟨b1, b2, b3⟩
      simp [inB] at b1 b2 b3
      omega
    clear h hz
    cases b1 : inB m 0 1048576 <;> cases b2 : inB k 0 200000 <;> cases b3 : inB t 0 1048576
    all_goals first
      | (exfalso; refine H.out (And.intro ?_ (And.intro ?_ ?_)) <;> with_reducible assumption)
      | (clear H
         go_enter Tryd.func16, Tryd.ntmps16
         go_wp2_with (go_at_call 19; refine (within_any _ _ _ _).mono ?_; rintro e w' ⟨rfl, rfl⟩)
         go_ret
         exact ⟨ret_int rfl, rfl⟩)

set_option maxRecDepth 20000 in
set_option maxHeartbeats 1000000 in
theorem l10w_any (m k t : Int) (h : 0 ≤ m ∧ m ≤ 1048576 ∧ 0 ≤ k ∧ k ≤ 200000 ∧ 0 ≤ t ∧ t ≤ 1048576) (w : World) :
    Calls Tryd.prog 35 #[.int .i64 m, .int .i64 k, .int .i64 t] w fun e w' => e = .returned (.int .i64 (wF m k t)) ∧ w' = w := by
  rw [wF_in h]
  obtain ⟨d, hd⟩ : ∃ d, t - k = d := ⟨_, rfl⟩
  have d0 : -1048576 ≤ d := by omega
  have d1 : d ≤ 1048576 := by omega
  rw [hd]
  unfold upF
  obtain ⟨q0, q1⟩ := d2_bd d0 d1
  obtain ⟨q, hq⟩ : ∃ q, d * d = q := ⟨_, rfl⟩
  rw [hq] at q0 q1 ⊢
  obtain ⟨c0, c1⟩ := d3_bd d0 d1 q0 q1
  obtain ⟨c, hc⟩ : ∃ c, q * d = c := ⟨_, rfl⟩
  rw [hc] at c0 c1 ⊢
  obtain ⟨u0, u1⟩ := td6_bd c0 c1
  obtain ⟨u, hu⟩ : ∃ u, c.tdiv 1000000 = u := ⟨_, rfl⟩
  rw [hu] at u0 u1 ⊢
  obtain ⟨x0, x1⟩ := td4_bd (c := u * 4) (by omega) (by omega)
  obtain ⟨x, hx⟩ : ∃ x, (u * 4).tdiv 10000 = x := ⟨_, rfl⟩
  rw [hx] at x0 x1 ⊢
  obtain ⟨m0, m1, h⟩ := h
  clear h
  go_enter Tryd.func35, Tryd.ntmps35
  go_wp2
  go_ret
  exact ⟨ret_int rfl, rfl⟩

theorem fri_bd {w a : Int} (h : 1 ≤ w ∧ w ≤ 1048576 ∧ 0 ≤ a ∧ a ≤ 1073741824) : 0 ≤ (a * 9).tdiv 17 ∧ (a * 9).tdiv 17 ≤ 568451554 ∧ 0 ≤ ((a * 9).tdiv 17).tdiv w ∧ ((a * 9).tdiv 17).tdiv w ≤ 568451554 := by
  have e1 : (a * 9).tdiv 17 = a * 9 / 17 := Int.tdiv_eq_ediv_of_nonneg (by omega)
  have h1 : 0 ≤ (a * 9).tdiv 17 ∧ (a * 9).tdiv 17 ≤ 568451554 := by rw [e1]; omega
  obtain ⟨v, hv⟩ : ∃ v, (a * 9).tdiv 17 = v := ⟨_, rfl⟩
  rw [hv] at h1 ⊢
  refine ⟨h1.1, h1.2, ?_⟩
  rw [Int.tdiv_eq_ediv_of_nonneg h1.1]
  exact ⟨Int.ediv_nonneg h1.1 (by omega), Int.le_trans (Int.ediv_le_self _ h1.1) h1.2⟩

set_option maxRecDepth 20000 in
set_option maxHeartbeats 1000000 in
theorem ifriendly_any (a b : Int) (w : World) :
    Calls Tryd.prog 9 #[.int .i64 a, .int .i64 b] w fun e w' => e = .returned (.int .i64 (friF a b)) ∧ w' = w := by
  by_cases h : 1 ≤ a ∧ a ≤ 1048576 ∧ 0 ≤ b ∧ b ≤ 1073741824
  · have hz : friF a b = a + ((b * 9).tdiv 17).tdiv a := if_pos h
    rw [hz]
    obtain ⟨v0, v1, x0, x1⟩ := fri_bd h
    obtain ⟨v, hv⟩ : ∃ v, (b * 9).tdiv 17 = v := ⟨_, rfl⟩
    rw [hv] at v0 v1 x0 x1 ⊢
    obtain ⟨x, hx⟩ : ∃ x, v.tdiv a = x := ⟨_, rfl⟩
    rw [hx] at x0 x1 ⊢
    have b1 : inB a 1 1048576 = true := by simp [inB]; omega
    have b2 : inB b 0 1073741824 = true := by simp [inB]; omega
    have hn : (a == 0) = false := by simp; omega
    obtain ⟨h1, h2, h3, h4⟩ := h
    go_enter Tryd.func9, Tryd.ntmps9
    go_wp2_with (go_at_call 19; refine (within_any _ _ _ _).mono ?_; rintro e w' ⟨rfl, rfl⟩)
    go_ret
    exact ⟨ret_int rfl, rfl⟩
  · have hz : friF a b = 0 := if_neg h
    rw [hz]
    have H : Hid (¬ (1 ≤ a ∧ a ≤ 1048576 ∧ 0 ≤ b ∧ b ≤ 1073741824)) := h
    have hq : (inB a 1 1048576 && inB b 0 1073741824) = false := by
      cases hx : (inB a 1 1048576 && inB b 0 1073741824)
      · rfl
      · simp [inB] at hx; omega
    have HQ : Hid _ := hq
    clear hz h hq
    cases b1 : inB a 1 1048576 <;> cases b2 : inB b 0 1073741824
    all_goals
      (go_enter Tryd.func9, Tryd.ntmps9
       go_wp2_with (go_at_call 19; refine (within_any _ _ _ _).mono ?_; rintro e w' ⟨rfl, rfl⟩)
       all_goals first
         | (exfalso; have := H.out; omega)
         | (exfalso; have := HQ.out; rw [b1, b2] at this; cases this; done)
         | (go_ret
            exact ⟨ret_int rfl, rfl⟩))

set_option maxRecDepth 20000 in
set_option maxHeartbeats 1000000 in
theorem icubicK_any (m v : Int) (w : World) :
    Calls Tryd.prog 24 #[.int .i64 m, .int .i64 v] w fun e w' => e = .returned (.int .i64 (kF m v)) ∧ Kept w w' := by
  by_cases h : 0 ≤ m ∧ m ≤ 1048576 ∧ 0 ≤ v ∧ v ≤ 1048576 ∧ v < m
  · have hz : kF m v = root3F (2500000000 * (m - v)) := if_pos h
    rw [hz]
    have b1 : inB m 0 1048576 = true := by simp [inB]; omega
    have b2 : inB v 0 1048576 = true := by simp [inB]; omega
    obtain ⟨h1, h2, h3, h4, h5⟩ := h
    clear hz
    go_enter Tryd.func24, Tryd.ntmps24
    go_wp2_with (first | (go_at_call 19; refine (within_any _ _ _ _).mono ?_; rintro e w' ⟨rfl, rfl⟩) | (go_at_call 31; refine (root3_impl _ (by omega) (by omega) _).mono ?_; rintro e w' ⟨rfl, hk⟩))
    go_ret
    exact ⟨ret_int rfl, hk⟩
  · have hz : kF m v = 0 := if_neg h
    rw [hz]
    have H : Hid (¬ (inB m 0 1048576 = true ∧ inB v 0 1048576 = true ∧ v < m)) := by
      show ¬ _
      rintro ⟨b1, b2, b3⟩
      simp [inB] at b1 b2
      omega
    clear h hz
    cases b1 : inB m 0 1048576 <;> cases b2 : inB v 0 1048576 <;> by_cases b3 : v < m
    all_goals first
      | (exfalso; refine H.out (And.intro ?_ (And.intro ?_ ?_)) <;> with_reducible assumption)
      | (clear H
         go_enter Tryd.func24, Tryd.ntmps24
         go_wp2_with (go_at_call 19; refine (within_any _ _ _ _).mono ?_; rintro e w' ⟨rfl, rfl⟩)
         go_ret
         exact ⟨ret_int rfl, Kept.refl _⟩)

set_option maxRecDepth 20000 in
set_option maxHeartbeats 1000000 in
theorem l10k_any (m v : Int) (h1 : 0 ≤ m) (h2 : m ≤ 1048576) (h3 : 0 ≤ v) (h4 : v ≤ 1048576) (w : World) :
    Calls Tryd.prog 34 #[.int .i64 m, .int .i64 v] w fun e w' => e = .returned (.int .i64 (kF m v)) ∧ w' = w := by
  by_cases h : v < m
  · have hz : kF m v = root3F ((m - v) * 2500000000) := by unfold kF; rw [if_pos (by omega), Int.mul_comm]
    rw [hz]
    clear hz
    go_enter Tryd.func34, Tryd.ntmps34
    go_wp2_with (go_at_call 38; refine (root3_spec _ (by omega) (by omega) _).mono ?_; rintro e w' ⟨rfl, rfl⟩)
    go_ret
    exact ⟨ret_int rfl, rfl⟩
  · have hz : kF m v = 0 := if_neg (by omega)
    rw [hz]
    clear hz
    go_enter Tryd.func34, Tryd.ntmps34
    go_wp2
    go_ret
    exact ⟨ret_int rfl, rfl⟩

end Go.Proofs.YtfflheebjbdnoafDoor
