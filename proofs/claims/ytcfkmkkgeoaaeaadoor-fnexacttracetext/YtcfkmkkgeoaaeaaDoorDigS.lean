/-
  A NUMBER'S DIGITS, AS THE SPECIFICATION WRITES THEM: l12digits.
-/
import Derived.Test.YtcfkmkkgeoaaeaaDoorAppByN
namespace Go.Proofs.YtcfkmkkgeoaaeaaDoor
open Go.RowKit
set_option linter.unusedVariables false

/-- How many digits n has. -/
def digN (n : Nat) : Nat := if n < 10 then 1 else digN (n / 10) + 1
termination_by n
decreasing_by omega
/-- The digits of n, the first one first. -/
def digF (n : Nat) (i : Nat) : Int := if n < 10 then 48 + (n : Int) else if i = digN (n / 10) then 48 + ((n % 10 : Nat) : Int) else digF (n / 10) i
termination_by n
decreasing_by omega
theorem digN_lo {n : Nat} (h : n < 10) : digN n = 1 := by rw [digN, if_pos h]
theorem digN_hi {n : Nat} (h : ¬ n < 10) : digN n = digN (n / 10) + 1 := by rw [digN, if_neg h]
theorem digF_lo {n : Nat} (h : n < 10) (i : Nat) : digF n i = 48 + (n : Int) := by rw [digF, if_pos h]
theorem digF_hi {n : Nat} (h : ¬ n < 10) (i : Nat) : digF n i = if i = digN (n / 10) then 48 + ((n % 10 : Nat) : Int) else digF (n / 10) i := by rw [digF, if_neg h]
theorem digN_le (k : Nat) : ∀ n : Nat, n < 10 ^ (k + 1) → digN n ≤ k + 1 := by
  induction k with
  | zero => intro n h; rw [digN_lo (by omega)]; omega
  | succ k ih =>
    intro n h
    by_cases hn : n < 10
    · rw [digN_lo hn]; omega
    · rw [digN_hi hn]
      have := ih (n / 10) (by rw [Nat.pow_succ] at h; omega)
      omega
theorem digN_bd {n : Nat} (h : n ≤ 9223372036854775807) : digN n ≤ 19 := digN_le 18 n (by omega)
theorem BO.one (w : World) (v : Int) : BO w.heap.size (w.alloc (.cells #[.int .u8 v] 5)) (some ⟨w.heap.size, 0, none⟩) 1 1 (fun _ => v) :=
  ⟨by simp [byL], .inr ⟨w.heap.size, 1, #[.int .u8 v], rfl, Nat.le_refl _, Sits.new w _ _, Nat.le_refl _, by unfold maxLen; omega, by simp, by simp [byL]⟩⟩

set_option maxHeartbeats 2000000 in
theorem sdigits_any (m : Nat) : ∀ (n : Nat) (w : World), n < m → n ≤ 9223372036854775807 →
    Calls Tryd.prog 27 #[.int .i64 (n : Int)] w fun e w' => ∃ (x : Option Addr) (cap : Nat), e = .returned (.slice x (digN n) cap) ∧ BO w.heap.size w' x (digN n) cap (digF n) ∧ Below w.heap.size w w' := by
  induction m with
  | zero => intro n w h; omega
  | succ m ih =>
    intro n w hm hn
    by_cases h10 : n < 10
    · have hi : (n : Int) < 10 := by omega
      have hw : IntKind.i64.wrap (48 + (n : Int)) = 48 + (n : Int) := by rw [IntKind.wrap_i64]; omega
      have hu : IntKind.u8.wrap (48 + (n : Int)) = 48 + (n : Int) := by rw [IntKind.wrap_u8]; omega
      have HE : Hid (digN n = 1) := digN_lo h10
      have HF : Hid (∀ i, digF n i = 48 + (n : Int)) := digF_lo h10
      clear ih hm hn h10
      go_enter Tryd.func27, Tryd.ntmps27
      go_wp2
      go_ret
      rw [HE.out]
      exact ⟨_, 1, rfl, (BO.one w _).congr fun i _ => (HF.out i).symm, (Below.refl _ _).alloc (Nat.le_refl _) _⟩
    · have hi : ¬ (n : Int) < 10 := by omega
      have HI : Hid (∀ (V : World) (z : Int), z = ((n / 10 : Nat) : Int) → Calls Tryd.prog 27 #[.int .i64 z] V fun e w' => ∃ (x : Option Addr) (cap : Nat), e = .returned (.slice x (digN (n / 10)) cap) ∧ BO V.heap.size w' x (digN (n / 10)) cap (digF (n / 10)) ∧ Below V.heap.size V w') := fun V z hz => by
        rw [hz]
        exact ih (n / 10) V (by omega) (by omega)
      obtain ⟨t, ht⟩ : ∃ t : Int, (n : Int) / 10 = t := ⟨_, rfl⟩
      have htn : t = ((n / 10 : Nat) : Int) := by omega
      have HT : Hid (t = ((n / 10 : Nat) : Int)) := htn
      have hq : wrap64 t = t := by unfold wrap64; omega
      obtain ⟨d, hd⟩ : ∃ d : Int, (n : Int) % 10 = d := ⟨_, rfl⟩
      have hdn : d = ((n % 10 : Nat) : Int) := by omega
      have hdl : d < 10 := by omega
      have hd0 : 0 ≤ d := by omega
      have hr : wrap64 d = d := by unfold wrap64; omega
      have hw : wrap64 (48 + d) = 48 + d := by unfold wrap64; omega
      have hu : IntKind.u8.wrap (48 + d) = 48 + d := by rw [IntKind.wrap_u8]; omega
      have HE : Hid (digN n = digN (n / 10) + 1) := digN_hi h10
      have HF : Hid (∀ i, digF n i = if i = digN (n / 10) then 48 + d else digF (n / 10) i) := fun i => by rw [hdn]; exact digF_hi h10 i
      have HM : Hid (digN (n / 10) ≤ 19) := digN_bd (by omega)
      clear ih hm hn h10 hdn htn
      go_enter Tryd.func27, Tryd.ntmps27
      go_wp2_with (first
        | (go_at_call 27; refine (HI.out _ _ HT.out).mono ?_; rintro e w1 ⟨x, cap, rfl, hbo, hb1⟩; have HO : Hid (BO w.heap.size w1 x (digN (n / 10)) cap (digF (n / 10))) := hbo; have HB1 : Hid (Below w.heap.size w w1) := hb1; clear hbo hb1)
        | (at_builtin; refine wpList_plain rfl fun _ hK => wp_append_by1 _ _ rfl w.heap.size x (digN (n / 10)) cap (digF (n / 10)) rfl (BO.alloc HO.out _) w1.heap.size (48 + d) rfl (by simp) (Nat.le_trans HM.out (by omega)) (by have := (HB1.out).size; simp; omega) ?_; intro g cap2 w2 hbo hgr hg1 hg2; refine hK _ _ ?_))
      go_ret
      rw [HE.out]
      exact ⟨_, cap2, rfl, hbo.congr fun i _ => (HF.out i).symm, Below.grown (B := w.heap.size) (a := w) ((HB1.out).alloc (HB1.out).size _) hgr (by have := (HB1.out).size; simp; omega) (fun k e => ((BO.own_lt HO.out) k e).1)⟩

end Go.Proofs.YtcfkmkkgeoaaeaaDoor
