/-
  PLAIN ROOTS: the greatest number whose square (cube) is not above. No Go in sight.
-/
namespace Go.Proofs.Ytlhiadehohikdaa

def isq : Nat → Nat
  | 0 => 0
  | n + 1 => if (isq n + 1) * (isq n + 1) ≤ n + 1 then isq n + 1 else isq n
def icb : Nat → Nat
  | 0 => 0
  | n + 1 => if (icb n + 1) * (icb n + 1) * (icb n + 1) ≤ n + 1 then icb n + 1 else icb n

theorem sq_lt {a b : Nat} (h : a < b) : a * a < b * b := Nat.mul_lt_mul'' h h
theorem cb_lt {a b : Nat} (h : a < b) : a * a * a < b * b * b := Nat.mul_lt_mul'' (sq_lt h) h

theorem isq_is (n : Nat) : isq n * isq n ≤ n ∧ n < (isq n + 1) * (isq n + 1) := by
  induction n with
  | zero => simp [isq]
  | succ n ih =>
    rw [isq]
    split
    · rename_i h
      refine ⟨h, ?_⟩
      have := sq_lt (show isq n + 1 < isq n + 1 + 1 by omega)
      omega
    · rename_i h
      exact ⟨by omega, by omega⟩
theorem icb_is (n : Nat) : icb n * icb n * icb n ≤ n ∧ n < (icb n + 1) * (icb n + 1) * (icb n + 1) := by
  induction n with
  | zero => simp [icb]
  | succ n ih =>
    rw [icb]
    split
    · rename_i h
      refine ⟨h, ?_⟩
      have := cb_lt (show icb n + 1 < icb n + 1 + 1 by omega)
      omega
    · rename_i h
      exact ⟨by omega, by omega⟩

def root2F (n : Int) : Int := (isq n.toNat : Int)
def root3F (n : Int) : Int := (icb n.toNat : Int)

theorem root2F_neg {n : Int} (h : n ≤ 0) : root2F n = 0 := by
  unfold root2F
  rw [show n.toNat = 0 by omega]; rfl
theorem root3F_neg {n : Int} (h : n ≤ 0) : root3F n = 0 := by
  unfold root3F
  rw [show n.toNat = 0 by omega]; rfl
theorem root2F_is {n : Int} (h : 0 ≤ n) : 0 ≤ root2F n ∧ root2F n * root2F n ≤ n ∧ n < (root2F n + 1) * (root2F n + 1) := by
  obtain ⟨k, rfl⟩ := Int.eq_ofNat_of_zero_le h
  have := isq_is k
  unfold root2F
  refine ⟨by omega, ?_, ?_⟩
  · rw [Int.toNat_natCast, ← Int.natCast_mul]; omega
  · rw [Int.toNat_natCast, show ((isq k : Int) + 1) = ((isq k + 1 : Nat) : Int) by omega, ← Int.natCast_mul]; omega
theorem root3F_is {n : Int} (h : 0 ≤ n) : 0 ≤ root3F n ∧ root3F n * root3F n * root3F n ≤ n ∧ n < (root3F n + 1) * (root3F n + 1) * (root3F n + 1) := by
  obtain ⟨k, rfl⟩ := Int.eq_ofNat_of_zero_le h
  have := icb_is k
  unfold root3F
  refine ⟨by omega, ?_, ?_⟩
  · rw [Int.toNat_natCast, ← Int.natCast_mul, ← Int.natCast_mul]; omega
  · rw [Int.toNat_natCast, show ((icb k : Int) + 1) = ((icb k + 1 : Nat) : Int) by omega, ← Int.natCast_mul, ← Int.natCast_mul]; omega
theorem isq_only {n r : Nat} (h1 : r * r ≤ n) (h2 : n < (r + 1) * (r + 1)) : r = isq n := by
  have := isq_is n
  rcases Nat.lt_trichotomy r (isq n) with h | h | h
  · have := Nat.mul_le_mul (show r + 1 ≤ isq n from h) (show r + 1 ≤ isq n from h); omega
  · exact h
  · have := Nat.mul_le_mul (show isq n + 1 ≤ r from h) (show isq n + 1 ≤ r from h); omega
theorem icb_only {n r : Nat} (h1 : r * r * r ≤ n) (h2 : n < (r + 1) * (r + 1) * (r + 1)) : r = icb n := by
  have := icb_is n
  rcases Nat.lt_trichotomy r (icb n) with h | h | h
  · have k : r + 1 ≤ icb n := h
    have := Nat.mul_le_mul (Nat.mul_le_mul k k) k; omega
  · exact h
  · have k : icb n + 1 ≤ r := h
    have := Nat.mul_le_mul (Nat.mul_le_mul k k) k; omega
theorem root2F_only {n r : Int} (h0 : 0 ≤ r) (h1 : r * r ≤ n) (h2 : n < (r + 1) * (r + 1)) : r = root2F n := by
  obtain ⟨k, rfl⟩ := Int.eq_ofNat_of_zero_le h0
  have hn : 0 ≤ n := Int.le_trans (Int.mul_nonneg h0 h0) h1
  obtain ⟨m, rfl⟩ := Int.eq_ofNat_of_zero_le hn
  unfold root2F
  rw [Int.toNat_natCast]
  rw [← Int.natCast_mul] at h1
  rw [show ((k : Int) + 1) = ((k + 1 : Nat) : Int) by omega, ← Int.natCast_mul] at h2
  have := isq_only (n := m) (r := k) (by omega) (by omega)
  omega
theorem root3F_only {n r : Int} (h0 : 0 ≤ r) (h1 : r * r * r ≤ n) (h2 : n < (r + 1) * (r + 1) * (r + 1)) : r = root3F n := by
  obtain ⟨k, rfl⟩ := Int.eq_ofNat_of_zero_le h0
  have hn : 0 ≤ n := Int.le_trans (Int.mul_nonneg (Int.mul_nonneg h0 h0) h0) h1
  obtain ⟨m, rfl⟩ := Int.eq_ofNat_of_zero_le hn
  unfold root3F
  rw [Int.toNat_natCast]
  rw [← Int.natCast_mul, ← Int.natCast_mul] at h1
  rw [show ((k : Int) + 1) = ((k + 1 : Nat) : Int) by omega, ← Int.natCast_mul, ← Int.natCast_mul] at h2
  have := icb_only (n := m) (r := k) (by omega) (by omega)
  omega
theorem isq_le {n b : Nat} (h : n < (b + 1) * (b + 1)) : isq n ≤ b := by
  have := isq_is n
  rcases Nat.lt_or_ge b (isq n) with h' | h'
  · have k : b + 1 ≤ isq n := h'
    have := Nat.mul_le_mul k k; omega
  · exact h'
theorem icb_le {n b : Nat} (h : n < (b + 1) * (b + 1) * (b + 1)) : icb n ≤ b := by
  have := icb_is n
  rcases Nat.lt_or_ge b (icb n) with h' | h'
  · have k : b + 1 ≤ icb n := h'
    have := Nat.mul_le_mul (Nat.mul_le_mul k k) k; omega
  · exact h'
theorem root2F_le {n : Int} (h : n ≤ 9223372036854775807) : 0 ≤ root2F n ∧ root2F n ≤ 3037000499 := by
  have := isq_le (n := n.toNat) (b := 3037000499) (by omega)
  unfold root2F; omega
theorem root3F_le {n : Int} (h : n ≤ 9223372036854775807) : 0 ≤ root3F n ∧ root3F n ≤ 2097151 := by
  have := icb_le (n := n.toNat) (b := 2097151) (by omega)
  unfold root3F; omega

end Go.Proofs.Ytlhiadehohikdaa
