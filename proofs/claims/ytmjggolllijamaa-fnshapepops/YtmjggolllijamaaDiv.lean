/-
  PLAIN ARITHMETIC OF LONG DIVISION BY HALVES: what one half of math/bits.Div64 reckons is the quotient and the rest. No Go in sight.
-/
namespace Go.Proofs.Ytmjggolllijamaa

/-- The test says yes: what is tried is too great. -/
theorem div_over (y1 y0 u u1 q r : Int) (h : u = q * y1 + r) (ht : r * 4294967296 + u1 < q * y0) : u * 4294967296 + u1 < q * (y1 * 4294967296 + y0) := by
  have a : q * (y1 * 4294967296 + y0) = q * y1 * 4294967296 + q * y0 := by rw [Int.mul_add, Int.mul_assoc]
  have b : u * 4294967296 = q * y1 * 4294967296 + r * 4294967296 := by rw [h, Int.add_mul]
  omega

/-- The test says no: what is tried is not too great. -/
theorem div_under (y1 y0 u u1 q r : Int) (h : u = q * y1 + r) (ht : q * y0 ≤ r * 4294967296 + u1) : q * (y1 * 4294967296 + y0) ≤ u * 4294967296 + u1 := by
  have a : q * (y1 * 4294967296 + y0) = q * y1 * 4294967296 + q * y0 := by rw [Int.mul_add, Int.mul_assoc]
  have b : u * 4294967296 = q * y1 * 4294967296 + r * 4294967296 := by rw [h, Int.add_mul]
  omega

/-- What is above 32 bits is too great. -/
theorem div_wide (y u u1 q : Int) (hu : u < y) (h1 : u1 < 4294967296) (hy : 0 ≤ y) (hq : 4294967296 ≤ q) : u * 4294967296 + u1 < q * y := by
  have := Int.mul_le_mul_of_nonneg_right hq hy
  omega

/-- The first guess is not too small. -/
theorem div_first (y1 y0 u u1 : Int) (hy : 0 < y1) (h0 : 0 ≤ y0) (hu : 0 ≤ u) (h1 : u1 < 4294967296) : u * 4294967296 + u1 < (u / y1 + 1) * (y1 * 4294967296 + y0) := by
  have a : (u / y1 + 1) * (y1 * 4294967296 + y0) = (u / y1 + 1) * y1 * 4294967296 + (u / y1 + 1) * y0 := by rw [Int.mul_add, Int.mul_assoc]
  have b : u < (u / y1 + 1) * y1 := by
    have := Int.mul_ediv_add_emod u y1
    have := Int.emod_lt_of_pos u hy
    rw [Int.add_mul, Int.mul_comm (u / y1) y1]; omega
  have c : 0 ≤ (u / y1 + 1) * y0 := Int.mul_nonneg (by have := Int.ediv_nonneg hu (Int.le_of_lt hy); omega) h0
  omega

/-- .. nor is it much too great. -/
theorem div_first_le (y1 y0 u : Int) (hy : 2147483648 ≤ y1) (h0 : y0 < 4294967296) (hu : u < y1 * 4294967296 + y0) : u / y1 ≤ 4294967297 := by
  have : u / y1 < 4294967298 := by
    rw [Int.ediv_lt_iff_lt_mul (by omega)]
    omega
  omega

/-- Between both it is the quotient, and what is left is the rest. -/
theorem div_is (n y q : Int) (hy : 0 < y) (h1 : q * y ≤ n) (h2 : n < (q + 1) * y) : n / y = q ∧ n % y = n - q * y := by
  have e : n / y = q := by
    have a : q ≤ n / y := (Int.le_ediv_iff_mul_le hy).2 h1
    have b : n / y < q + 1 := (Int.ediv_lt_iff_lt_mul hy).2 h2
    omega
  refine ⟨e, ?_⟩
  have := Int.mul_ediv_add_emod n y
  rw [e, Int.mul_comm] at this
  omega

/-- Behind the break: what is tried is not too great. -/
theorem div_break (y1 y0 u u1 q r : Int) (h : u = q * y1 + r) (hr : 4294967296 ≤ r) (hq : q ≤ 4294967296) (h0 : 0 ≤ y0) (hy : y0 < 4294967296) (h1 : 0 ≤ u1) : q * (y1 * 4294967296 + y0) ≤ u * 4294967296 + u1 := by
  refine div_under y1 y0 u u1 q r h ?_
  have := Int.mul_le_mul_of_nonneg_right hq h0
  omega

/-- Two halves make a whole. -/
theorem div_two (y u u1 u0 : Int) (hy : 0 < y) :
    (u * 18446744073709551616 + (u1 * 4294967296 + u0)) / y = (u * 4294967296 + u1) / y * 4294967296 + ((u * 4294967296 + u1) % y * 4294967296 + u0) / y ∧
    (u * 18446744073709551616 + (u1 * 4294967296 + u0)) % y = ((u * 4294967296 + u1) % y * 4294967296 + u0) % y := by
  have e : u * 18446744073709551616 + (u1 * 4294967296 + u0) = (u * 4294967296 + u1) % y * 4294967296 + u0 + y * ((u * 4294967296 + u1) / y * 4294967296) := by
    have := Int.mul_ediv_add_emod (u * 4294967296 + u1) y
    have : y * ((u * 4294967296 + u1) / y * 4294967296) = y * ((u * 4294967296 + u1) / y) * 4294967296 := by rw [Int.mul_assoc]
    omega
  rw [e]
  constructor
  · rw [Int.add_mul_ediv_left _ _ (by omega)]; omega
  · rw [Int.add_mul_emod_self_left]

/-- What both are made greater by the same power falls out. -/
theorem div_scale (n y p : Int) (hp : 0 < p) : n * p / (y * p) = n / y ∧ n * p % (y * p) / p = n % y := by
  refine ⟨Int.mul_ediv_mul_of_pos_left n y hp, ?_⟩
  rw [Int.mul_comm n p, Int.mul_comm y p, Int.mul_emod_mul_of_pos n y hp]
  exact Int.mul_ediv_cancel_left _ (by omega)

end Go.Proofs.Ytmjggolllijamaa
