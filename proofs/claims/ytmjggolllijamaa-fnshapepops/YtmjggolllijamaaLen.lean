/-
  WHAT math/bits.LeadingZeros64 ANSWERS: by how many bits a number above 0 can be shifted until it has all 64.
-/
import Derived.Test.YtmjggolllijamaaBase
import Derived.Lib.BitFns
namespace Go.Proofs.Ytmjggolllijamaa
open Go.RowKit
set_option linter.unusedVariables false

theorem len_is : ∀ (k x : Nat), x < 2 ^ k → k ≤ 64 → x < 2 ^ Lib.bitLen x ∧ (x ≠ 0 → 1 ≤ Lib.bitLen x ∧ 2 ^ (Lib.bitLen x - 1) ≤ x)
  | 0, x, h, _ => by
    have e : x = 0 := by simpa using h
    subst e
    exact ⟨by decide, fun h => absurd rfl h⟩
  | k + 1, x, h, hk => by
    by_cases h0 : x = 0
    · subst h0
      exact ⟨by decide, fun h => absurd rfl h⟩
    have hw : x < 2 ^ 64 := Nat.lt_of_lt_of_le h (Nat.pow_le_pow_right (by decide) hk)
    have ih := len_is k (x / 2) (by rw [Nat.pow_succ] at h; omega) (by omega)
    have e := Lib.bitLen_half x h0 hw
    rw [e, Nat.add_comm 1, Nat.pow_succ]
    refine ⟨by omega, fun _ => ⟨by omega, ?_⟩⟩
    simp only [Nat.add_sub_cancel]
    by_cases h1 : x / 2 = 0
    · rw [h1]; show 2 ^ Lib.bitLen 0 ≤ x
      have : Lib.bitLen 0 = 0 := by decide
      rw [this]; omega
    · have := ih.2 h1
      have p : 2 ^ Lib.bitLen (x / 2) = 2 ^ (Lib.bitLen (x / 2) - 1) * 2 := by rw [← Nat.pow_succ]; congr 1; omega
      omega

set_option maxRecDepth 100000 in
theorem tab_size : Lib.len8tab.size = 256 := by decide
theorem tab_get (n : Nat) (h : n < Lib.len8tab.size) : ((Lib.len8tab[n]'h).toNat : Int) = (Lib.bitLen n : Int) := by
  have h' : n < 256 := by have := tab_size; omega
  have e := Lib.len8_of (n : Int) (by omega) (by omega)
  unfold Lib.len8 at e
  simp only [Int.toNat_natCast] at e
  rw [getElem?_pos Lib.len8tab n h] at e
  exact e
theorem len_end (x y : Int) (k : Nat) (hk : k ≤ 56) (y0 : 0 ≤ y) (y1 : y ≤ 255) (x0 : 0 ≤ x) (x1 : x ≤ 18446744073709551615) (h : (2 : Int) ^ k ≤ x) (e : y = x / 2 ^ k) :
    wrap64 ((k : Int) + wrap64 (Lib.bitLen y.toNat : Int)) = (Lib.bitLen x.toNat : Int) := by
  obtain ⟨n, rfl⟩ := Int.eq_ofNat_of_zero_le x0
  have hp : ((2 : Int) ^ k) = ((2 ^ k : Nat) : Int) := by simp
  rw [hp] at h e
  have ey : y.toNat = n / 2 ^ k := by rw [e, ← Int.natCast_ediv]; exact Int.toNat_natCast _
  have := Lib.bitLen_shift k n (Int.ofNat_le.1 h) (show n < 18446744073709551616 by clear h e hp; omega)
  have b8 := Lib.bitLen_le8' y y0 y1
  rw [ey] at b8
  rw [Int.toNat_natCast, ey, this]
  clear this ey h e hp
  generalize Lib.bitLen (n / 2 ^ k) = b at *
  unfold wrap64
  omega

set_option maxHeartbeats 1000000 in
set_option maxRecDepth 100000 in
theorem len64_any (x : Int) (h0 : 1 ≤ x) (h1 : x ≤ 18446744073709551615) (w : World) :
    Calls Try.prog 112 #[.int .u64 x] w fun e w' => e = .returned (.int .i64 (Lib.bitLen x.toNat)) ∧ w' = w := by
  have hs := tab_size
  have hg := tab_get
  go_enter Try.func112, Try.ntmps112
  go_wp2
  all_goals (go_ret; refine ⟨ret_int ?_, rfl⟩)
  all_goals clear hs hg
  · exact len_end x _ 56 (by omega) (by omega) (by omega) (by omega) h1 (by omega) (by omega)
  · exact len_end x _ 48 (by omega) (by omega) (by omega) (by omega) h1 (by omega) (by omega)
  · exact len_end x _ 40 (by omega) (by omega) (by omega) (by omega) h1 (by omega) (by omega)
  · exact len_end x _ 32 (by omega) (by omega) (by omega) (by omega) h1 (by omega) (by omega)
  · exact len_end x _ 24 (by omega) (by omega) (by omega) (by omega) h1 (by omega) (by omega)
  · exact len_end x _ 16 (by omega) (by omega) (by omega) (by omega) h1 (by omega) (by omega)
  · exact len_end x _ 8 (by omega) (by omega) (by omega) (by omega) h1 (by omega) (by omega)
  · have := len_end x _ 0 (by omega) (by omega) (by omega) (by omega) h1 (by omega) (show x = x / 2 ^ 0 by simp)
    simpa using this

/-- The number of bits that y is shifted by, and what it is then. -/
theorem zeros_any (x : Int) (h0 : 1 ≤ x) (h1 : x ≤ 18446744073709551615) (w : World) :
    Calls Try.prog 115 #[.int .u64 x] w fun e w' => ∃ s : Nat, e = .returned (.int .i64 (s : Int)) ∧ w' = w ∧ s ≤ 63 ∧ Hid (9223372036854775808 ≤ x * 2 ^ s ∧ x * 2 ^ s < 18446744073709551616) := by
  obtain ⟨n, rfl⟩ := Int.eq_ofNat_of_zero_le (show 0 ≤ x by omega)
  have hl := len_is 64 n (by omega) (by omega)
  have hb := Lib.bitLen_le n 64 (by omega) (by omega)
  obtain ⟨g1, g2⟩ := hl.2 (by omega)
  have g0 := hl.1
  have HX : Hid (9223372036854775808 ≤ (n : Int) * 2 ^ (64 - Lib.bitLen n) ∧ (n : Int) * 2 ^ (64 - Lib.bitLen n) < 18446744073709551616) := by
    show _ ∧ _
    have a := Nat.mul_le_mul_right (2 ^ (64 - Lib.bitLen n)) g2
    have b := Nat.mul_lt_mul_of_pos_right g0 (Nat.two_pow_pos (64 - Lib.bitLen n))
    rw [← Nat.pow_add, show Lib.bitLen n - 1 + (64 - Lib.bitLen n) = 63 by omega] at a
    rw [← Nat.pow_add, show Lib.bitLen n + (64 - Lib.bitLen n) = 64 by omega] at b
    have e : (n : Int) * 2 ^ (64 - Lib.bitLen n) = ((n * 2 ^ (64 - Lib.bitLen n) : Nat) : Int) := by simp
    rw [e]
    omega
  clear hl g0 g2
  go_enter Try.func115, Try.ntmps115
  go_wp2_with (go_at_call 112; refine (len64_any _ (by omega) (by omega) _).mono ?_; rintro e w' ⟨rfl, rfl⟩)
  go_ret
  exact ⟨64 - Lib.bitLen n, ret_int (by omega), rfl, by omega, HX⟩

end Go.Proofs.Ytmjggolllijamaa
