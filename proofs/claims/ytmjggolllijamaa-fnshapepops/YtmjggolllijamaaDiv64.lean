/-
  WHAT math/bits.Div64 ANSWERS: for hi below y the quotient and the rest of hi times 2^64 and lo by y; nothing that was there has turned.
-/
import Derived.Test.YtmjggolllijamaaLen
import Derived.Test.YtmjggolllijamaaDiv
namespace Go.Proofs.Ytmjggolllijamaa
open Go.RowKit
set_option linter.unusedVariables false

theorem Kept.drew (w : World) : Kept w w.drew := ⟨(Below.refl _ _).drew, (Grown.refl _).drew⟩

theorem div64_low (lo y : Int) (l0 : 0 ≤ lo) (l1 : lo ≤ 18446744073709551615) (y0 : 1 ≤ y) (y1 : y ≤ 18446744073709551615) (w : World) :
    Calls Try.prog 98 #[.int .u64 0, .int .u64 lo, .int .u64 y] w fun e w' => e = .returned (.tuple #[.int .u64 (lo / y), .int .u64 (lo % y)]) ∧ Kept w w' := by
  have hy : (y == 0) = false := by simp; omega
  have hz : ¬ y ≤ 0 := by omega
  go_enter Try.func98, Try.ntmps98
  go_wp2
  go_region
  all_goals (go_wp2; go_ret2; exact ⟨rfl, Kept.drew _⟩)

theorem in_u64 (n : Int) (h0 : 0 ≤ n) (h1 : n < 2 ^ 64) : IntKind.u64.wrap n = n := by rw [IntKind.wrap_u64]; omega
theorem and_32u (x : Int) (h0 : 0 ≤ x) (h1 : x ≤ 18446744073709551615) : bits .and .u64 x 4294967295 = x % 4294967296 := by
  obtain ⟨a, rfl⟩ := Int.eq_ofNat_of_zero_le h0
  rw [show (4294967295 : Int) = ((4294967295 : Nat) : Int) from rfl, bits_and_u64_nat a 4294967295 (by omega) (by omega)]
  rw [show a &&& 4294967295 = a % 4294967296 from Nat.and_two_pow_sub_one_eq_mod a 32]
  omega

/-- What stands in the frame ahead of both halves, by plain names. -/
theorem div_setup (hi lo y : Int) (s : Nat) (i0 : 1 ≤ hi) (i1 : hi < y) (l0 : 0 ≤ lo) (l1 : lo ≤ 18446744073709551615) (s1 : s ≤ 63) (hs : 9223372036854775808 ≤ y * 2 ^ s ∧ y * 2 ^ s < 18446744073709551616) :
    ∃ Y y1 y0 H L u v u1 u0 : Int, y * 2 ^ s = Y ∧ 9223372036854775808 ≤ Y ∧ Y ≤ 18446744073709551615 ∧ Y / 4294967296 = y1 ∧ bits .and .u64 Y 4294967295 = y0 ∧ Hid (Y = y1 * 4294967296 + y0) ∧ 2147483648 ≤ y1 ∧ y1 ≤ 4294967295 ∧ 0 ≤ y0 ∧ y0 ≤ 4294967295 ∧
      hi * 2 ^ s = H ∧ 0 ≤ H ∧ H ≤ 18446744073709551615 ∧ lo / 2 ^ (64 - s) = L ∧ bits .or .u64 H L = u ∧ 0 ≤ u ∧ u < Y ∧ IntKind.u64.wrap (lo * 2 ^ s) = v ∧ v / 4294967296 = u1 ∧ bits .and .u64 v 4294967295 = u0 ∧ 0 ≤ u1 ∧ u1 ≤ 4294967295 ∧ 0 ≤ u0 ∧ u0 ≤ 4294967295 ∧
      Hid ((hi * 18446744073709551616 + lo) * 2 ^ s = u * 18446744073709551616 + (u1 * 4294967296 + u0)) := by
  have hp : (0 : Int) < 2 ^ s := Int.pow_pos (by decide)
  have hp' : (0 : Int) < 2 ^ (64 - s) := Int.pow_pos (by decide)
  have e64 : (18446744073709551616 : Int) = 2 ^ (64 - s) * 2 ^ s := by rw [← Int.pow_add, show 64 - s + s = 64 by omega]; decide
  have hH : hi * 2 ^ s < y * 2 ^ s := Int.mul_lt_mul_of_pos_right i1 hp
  have hH0 : 0 ≤ hi * 2 ^ s := Int.mul_nonneg (by omega) (by omega)
  have eL : lo * 2 ^ s / 18446744073709551616 = lo / 2 ^ (64 - s) := by
    rw [e64]; exact Int.mul_ediv_mul_of_pos_left lo _ hp
  have hL0 : 0 ≤ lo / 2 ^ (64 - s) := Int.ediv_nonneg l0 (by omega)
  have hL1 : lo / 2 ^ (64 - s) < 2 ^ s := by
    rw [Int.ediv_lt_iff_lt_mul hp', Int.mul_comm, ← e64]; omega
  have hv0 : 0 ≤ lo * 2 ^ s := Int.mul_nonneg l0 (by omega)
  have hp64 : (2 : Int) ^ s ≤ 9223372036854775808 := by
    have : (2 : Nat) ^ s ≤ 2 ^ 63 := Nat.pow_le_pow_right (by decide) s1
    have e : ((2 : Int) ^ s) = ((2 ^ s : Nat) : Int) := by simp
    rw [e]; omega
  have eu : bits .or .u64 (hi * 2 ^ s) (lo / 2 ^ (64 - s)) = hi * 2 ^ s + lo / 2 ^ (64 - s) :=
    bits_join .u64 64 (by decide) in_u64 s _ _ hH0 (Int.mul_emod_left hi (2 ^ s)) (by omega) hL0 hL1 (by omega)
  have eU : (hi * 18446744073709551616 + lo) * 2 ^ s = (hi * 2 ^ s + lo / 2 ^ (64 - s)) * 18446744073709551616 + lo * 2 ^ s % 18446744073709551616 := by
    have a : (hi * 18446744073709551616 + lo) * 2 ^ s = hi * 2 ^ s * 18446744073709551616 + lo * 2 ^ s := by rw [Int.add_mul, Int.mul_right_comm]
    rw [a, ← eL]; omega
  have hN : (hi * 18446744073709551616 + lo) * 2 ^ s < y * 18446744073709551616 * 2 ^ s := Int.mul_lt_mul_of_pos_right (by omega) hp
  have hN' : y * 18446744073709551616 * 2 ^ s = y * 2 ^ s * 18446744073709551616 := by rw [Int.mul_right_comm]
  have ew : IntKind.u64.wrap (lo * 2 ^ s) = lo * 2 ^ s % 18446744073709551616 := IntKind.wrap_u64 _
  have m1 := and_32u (y * 2 ^ s) (by omega) (by omega)
  have m2 := and_32u (lo * 2 ^ s % 18446744073709551616) (by omega) (by omega)
  refine ⟨_, _, _, _, _, _, _, _, _, rfl, by omega, by omega, rfl, m1, ?_, by omega, by omega, by omega, by omega, rfl, hH0, by omega, rfl, eu, by omega, ?_, ew, rfl, m2, by omega, by omega, by omega, by omega, ?_⟩
  · show _ = _; omega
  · rw [eU, hN'] at hN; omega
  · show _ = _; rw [eU]; omega

/-- The first guess of one half. -/
theorem guess (u u1 y1 y0 : Int) (hu : 0 ≤ u) (hu1 : 0 ≤ u1) (hu2 : u1 ≤ 4294967295) (hy : 2147483648 ≤ y1) (h0 : 0 ≤ y0) (h1 : y0 ≤ 4294967295) (hY : u < y1 * 4294967296 + y0) :
    0 ≤ u / y1 ∧ u / y1 ≤ 4294967297 ∧ 0 ≤ u / y1 * y1 ∧ u / y1 * y1 ≤ u ∧ u - u / y1 * y1 < y1 ∧ Hid (u * 4294967296 + u1 < (u / y1 + 1) * (y1 * 4294967296 + y0)) := by
  have a : 0 ≤ u / y1 := Int.ediv_nonneg hu (by omega)
  have b := div_first_le y1 y0 u hy (by omega) hY
  have c := Int.mul_ediv_add_emod u y1
  have d := Int.emod_nonneg u (show y1 ≠ 0 by omega)
  have e := Int.emod_lt_of_pos u (show 0 < y1 by omega)
  rw [Int.mul_comm] at c
  exact ⟨a, b, Int.mul_nonneg a (by omega), by omega, by omega, div_first y1 y0 u u1 (by omega) h0 hu (by omega)⟩
/-- Behind a half: the quotient, and what the text makes of the rest. -/
theorem half_end (u u1 Y q : Int) (h0 : 0 ≤ u) (hu1 : 0 ≤ u1) (hu2 : u1 ≤ 4294967295) (hu : u < Y) (hY : Y ≤ 18446744073709551615) (lo : q * Y ≤ u * 4294967296 + u1) (hi : u * 4294967296 + u1 < (q + 1) * Y) :
    q = (u * 4294967296 + u1) / Y ∧ 0 ≤ q ∧ q ≤ 4294967295 ∧ 0 ≤ (u * 4294967296 + u1) % Y ∧ (u * 4294967296 + u1) % Y < Y ∧ IntKind.u64.wrap (IntKind.u64.wrap (IntKind.u64.wrap (u * 4294967296) + u1) - IntKind.u64.wrap (q * Y)) = (u * 4294967296 + u1) % Y := by
  obtain ⟨a, b⟩ := div_is (u * 4294967296 + u1) Y q (by omega) lo hi
  have m0 := Int.emod_nonneg (u * 4294967296 + u1) (show Y ≠ 0 by omega)
  have m1 := Int.emod_lt_of_pos (u * 4294967296 + u1) (show 0 < Y by omega)
  have q0 : 0 ≤ (u * 4294967296 + u1) / Y := Int.ediv_nonneg (by omega) (by omega)
  have q1 : (u * 4294967296 + u1) / Y < 4294967296 := by
    rw [Int.ediv_lt_iff_lt_mul (by omega)]; omega
  refine ⟨a.symm, by omega, by omega, m0, m1, ?_⟩
  rw [b] at m0 m1 ⊢
  generalize q * Y = p at *
  simp only [IntKind.wrap_u64]
  omega

theorem ret_pair {k : IntKind} {a b c d : Int} (h : a = c) (g : b = d) : Ending.returned (.tuple #[.int k a, .int k b]) = .returned (.tuple #[.int k c, .int k d]) := by rw [h, g]

/-- Both halves together are the whole's quotient and rest. -/
theorem div_fin (hi lo y : Int) (s : Nat) (Y u u1 u0 x V z R : Int) (hp : (0 : Int) < 2 ^ s) (eY : y * 2 ^ s = Y) (hY : 0 < Y) (HU : (hi * 18446744073709551616 + lo) * 2 ^ s = u * 18446744073709551616 + (u1 * 4294967296 + u0))
    (ex : x = (u * 4294967296 + u1) / Y) (eV : (u * 4294967296 + u1) % Y = V) (ez : z = (V * 4294967296 + u0) / Y) (eR : (V * 4294967296 + u0) % Y = R) :
    x * 4294967296 + z = (hi * 18446744073709551616 + lo) / y ∧ R / 2 ^ s = (hi * 18446744073709551616 + lo) % y := by
  obtain ⟨a, b⟩ := div_two Y u u1 u0 hY
  obtain ⟨c, d⟩ := div_scale (hi * 18446744073709551616 + lo) y (2 ^ s) hp
  rw [HU, eY] at c d
  rw [eV] at a b
  rw [← c, ← d, a, b, ← ex, ← ez, eR]
  exact ⟨rfl, rfl⟩

set_option maxHeartbeats 4000000 in
theorem div64_high (hi lo y : Int) (i0 : 1 ≤ hi) (i1 : hi < y) (l0 : 0 ≤ lo) (l1 : lo ≤ 18446744073709551615) (y1 : y ≤ 18446744073709551615) (w : World) :
    Calls Try.prog 98 #[.int .u64 hi, .int .u64 lo, .int .u64 y] w fun e w' => e = .returned (.tuple #[.int .u64 ((hi * 18446744073709551616 + lo) / y), .int .u64 ((hi * 18446744073709551616 + lo) % y)]) ∧ Kept w w' := by
  have hy : (y == 0) = false := by simp; omega
  have hh : (hi == 0) = false := by simp; omega
  have hz : ¬ y ≤ hi := by omega
  go_enter Try.func98, Try.ntmps98
  go_wp2_with (go_at_call 115; refine (zeros_any _ (by omega) (by omega) _).mono ?_; rintro e w' ⟨s, rfl, rfl, s1, HS⟩; obtain ⟨Y, y1, y0, H, L, u, v, u1, u0, eY, Y0, Y1, ey1, ey0, HY, y1a, y1b, y0a, y0b, eH, H0, H1, eL, eu, ua, ub, ev, eu1, eu0, u1a, u1b, u0a, u0b, HU⟩ := div_setup hi lo y s i0 i1 l0 l1 s1 HS.out; obtain ⟨ga, gb, gc, gd, ge, GF⟩ := guess u u1 y1 y0 ua u1a u1b y1a y0a y0b (by have := HY.out; omega); have hp : (0 : Int) < 2 ^ s := Int.pow_pos (by decide))
  go_loop [15, 16] (fun a b => ∃ q r : Int, 0 ≤ q ∧ q ≤ 4294967297 ∧ 0 ≤ r ∧ r ≤ 4294967295 ∧ Hid (u = q * y1 + r) ∧ Hid (u * 4294967296 + u1 < (q + 1) * Y) ∧ a = .int .u64 q ∧ b = .int .u64 r) (fun a _ => (intOf a).toNat)
  case atStart => exact ⟨u / y1, u - u / y1 * y1, ga, gb, by omega, by omega, by show _ = _; omega, by have := GF.out; rw [← HY.out] at this; exact this, rfl, rfl⟩
  case round =>
    clear ga gb gc gd ge GF
    obtain ⟨q, r, q0, q1, r0, r1, HE, HF, rfl, rfl⟩ := hrel
    by_cases t1 : 4294967296 ≤ q
    · have HO : Hid (u * 4294967296 + u1 < q * Y) := div_wide Y u u1 q ub (by omega) (by omega) t1
      by_cases rb : 4294967296 ≤ r + y1
      · obtain ⟨x, hx'⟩ : ∃ x, q - 1 = x := ⟨_, rfl⟩
        have XH : Hid (u * 4294967296 + u1 < (x + 1) * Y) := by show _ < _; rw [← hx', Int.sub_add_cancel]; exact HO.out
        have XL : Hid (x * Y ≤ u * 4294967296 + u1) := by show _ ≤ _; rw [HY.out]; exact div_break y1 y0 u u1 x (r + y1) (by rw [← hx', Int.sub_mul]; have := HE.out; omega) rb (by omega) y0a (by omega) u1a
        clear HE HF
        obtain ⟨E1, x0, x1, m0, m1, eW⟩ := half_end u u1 Y x ua u1a u1b ub Y1 XL.out XH.out
        have E2 : Hid (x = (u * 4294967296 + u1) / Y) := E1
        clear E1
        obtain ⟨V, hV⟩ : ∃ V, (u * 4294967296 + u1) % Y = V := ⟨_, rfl⟩
        rw [hV] at m0 m1 eW
        have V2 : Hid ((u * 4294967296 + u1) % Y = V) := hV
        clear hV
        obtain ⟨ja, jb, jc, jd, je, JF⟩ := guess V u0 y1 y0 m0 u0a u0b y1a y0a y0b (by have := HY.out; omega)
        go_wp2
        go_loop [18, 16] (fun a b => ∃ q r : Int, 0 ≤ q ∧ q ≤ 4294967297 ∧ 0 ≤ r ∧ r ≤ 4294967295 ∧ Hid (V = q * y1 + r) ∧ Hid (V * 4294967296 + u0 < (q + 1) * Y) ∧ a = .int .u64 q ∧ b = .int .u64 r) (fun a _ => (intOf a).toNat)
        case atStart => exact ⟨V / y1, V - V / y1 * y1, ja, jb, by omega, by omega, by show _ = _; omega, by have := JF.out; rw [← HY.out] at this; exact this, rfl, rfl⟩
        case round =>
          clear ja jb jc jd je JF
          obtain ⟨q, r, q0, q1, r0, r1, HE, HF, rfl, rfl⟩ := hrel
          by_cases t1 : 4294967296 ≤ q
          · have HO : Hid (V * 4294967296 + u0 < q * Y) := div_wide Y V u0 q m1 (by omega) (by omega) t1
            by_cases rb : 4294967296 ≤ r + y1
            · obtain ⟨z, hz'⟩ : ∃ z, q - 1 = z := ⟨_, rfl⟩
              have ZH : Hid (V * 4294967296 + u0 < (z + 1) * Y) := by show _ < _; rw [← hz', Int.sub_add_cancel]; exact HO.out
              have ZL : Hid (z * Y ≤ V * 4294967296 + u0) := by show _ ≤ _; rw [HY.out]; exact div_break y1 y0 V u0 z (r + y1) (by rw [← hz', Int.sub_mul]; have := HE.out; omega) rb (by omega) y0a (by omega) u0a
              obtain ⟨F1, p0, p1, n0, n1, fW⟩ := half_end V u0 Y z (by omega) u0a u0b (by omega) Y1 ZL.out ZH.out
              have F2 : Hid (z = (V * 4294967296 + u0) / Y) := F1
              clear F1
              obtain ⟨R, hR⟩ : ∃ R, (V * 4294967296 + u0) % Y = R := ⟨_, rfl⟩
              rw [hR] at n0 n1 fW
              have R2 : Hid ((V * 4294967296 + u0) % Y = R) := hR
              clear hR
              have hfin := div_fin hi lo y s Y u u1 u0 x V z R hp eY (by omega) HU.out E2.out V2.out F2.out R2.out
              obtain ⟨f1, f2⟩ := hfin
              have f1' : Hid _ := f1
              have f2' : Hid _ := f2
              clear f1 f2
              go_wp2
              go_ret2
              exact ⟨ret_pair f1'.out f2'.out, Kept.refl _⟩
            · go_wp2
              go_round
              case rel => exact ⟨q - 1, r + y1, by omega, by omega, by omega, by omega, by show _ = _; rw [Int.sub_mul]; have := HE.out; omega, by show _ < _; rw [Int.sub_add_cancel]; exact HO.out, rfl, rfl⟩
              case measure => simp [intOf]; omega
          · have qy : 0 ≤ q * y0 ∧ q * y0 ≤ 18446744065119617025 := ⟨Int.mul_nonneg q0 y0a, Int.mul_le_mul (show q ≤ 4294967295 by omega) y0b y0a (by omega)⟩
            by_cases t2 : 4294967296 * r + u0 < q * y0
            · have HO : Hid (V * 4294967296 + u0 < q * Y) := by show _ < _; rw [HY.out]; exact div_over y1 y0 V u0 q r HE.out (by omega)
              have q2 : 1 ≤ q := by
                rcases (show q = 0 ∨ 1 ≤ q by omega) with h | h
                · rw [h] at t2; omega
                · exact h
              by_cases rb : 4294967296 ≤ r + y1
              · obtain ⟨z, hz'⟩ : ∃ z, q - 1 = z := ⟨_, rfl⟩
                have ZH : Hid (V * 4294967296 + u0 < (z + 1) * Y) := by show _ < _; rw [← hz', Int.sub_add_cancel]; exact HO.out
                have ZL : Hid (z * Y ≤ V * 4294967296 + u0) := by show _ ≤ _; rw [HY.out]; exact div_break y1 y0 V u0 z (r + y1) (by rw [← hz', Int.sub_mul]; have := HE.out; omega) rb (by omega) y0a (by omega) u0a
                obtain ⟨F1, p0, p1, n0, n1, fW⟩ := half_end V u0 Y z (by omega) u0a u0b (by omega) Y1 ZL.out ZH.out
                have F2 : Hid (z = (V * 4294967296 + u0) / Y) := F1
                clear F1
                obtain ⟨R, hR⟩ : ∃ R, (V * 4294967296 + u0) % Y = R := ⟨_, rfl⟩
                rw [hR] at n0 n1 fW
                have R2 : Hid ((V * 4294967296 + u0) % Y = R) := hR
                clear hR
                have hfin := div_fin hi lo y s Y u u1 u0 x V z R hp eY (by omega) HU.out E2.out V2.out F2.out R2.out
                obtain ⟨f1, f2⟩ := hfin
                have f1' : Hid _ := f1
                have f2' : Hid _ := f2
                clear f1 f2
                go_wp2
                go_ret2
                exact ⟨ret_pair f1'.out f2'.out, Kept.refl _⟩
              · go_wp2
                go_round
                case rel => exact ⟨q - 1, r + y1, by omega, by omega, by omega, by omega, by show _ = _; rw [Int.sub_mul]; have := HE.out; omega, by show _ < _; rw [Int.sub_add_cancel]; exact HO.out, rfl, rfl⟩
                case measure => simp [intOf]; omega
            · obtain ⟨z, rfl⟩ : ∃ z, q = z := ⟨_, rfl⟩
              have ZH : Hid (V * 4294967296 + u0 < (q + 1) * Y) := HF
              have ZL : Hid (q * Y ≤ V * 4294967296 + u0) := by show _ ≤ _; rw [HY.out]; exact div_under y1 y0 V u0 q r HE.out (by omega)
              obtain ⟨F1, p0, p1, n0, n1, fW⟩ := half_end V u0 Y q (by omega) u0a u0b (by omega) Y1 ZL.out ZH.out
              have F2 : Hid (q = (V * 4294967296 + u0) / Y) := F1
              clear F1
              obtain ⟨R, hR⟩ : ∃ R, (V * 4294967296 + u0) % Y = R := ⟨_, rfl⟩
              rw [hR] at n0 n1 fW
              have R2 : Hid ((V * 4294967296 + u0) % Y = R) := hR
              clear hR
              have hfin := div_fin hi lo y s Y u u1 u0 x V q R hp eY (by omega) HU.out E2.out V2.out F2.out R2.out
              obtain ⟨f1, f2⟩ := hfin
              have f1' : Hid _ := f1
              have f2' : Hid _ := f2
              clear f1 f2
              go_wp2
              go_ret2
              exact ⟨ret_pair f1'.out f2'.out, Kept.refl _⟩
      · go_wp2
        go_round
        case rel => exact ⟨q - 1, r + y1, by omega, by omega, by omega, by omega, by show _ = _; rw [Int.sub_mul]; have := HE.out; omega, by show _ < _; rw [Int.sub_add_cancel]; exact HO.out, rfl, rfl⟩
        case measure => simp [intOf]; omega
    · have qy : 0 ≤ q * y0 ∧ q * y0 ≤ 18446744065119617025 := ⟨Int.mul_nonneg q0 y0a, Int.mul_le_mul (show q ≤ 4294967295 by omega) y0b y0a (by omega)⟩
      by_cases t2 : 4294967296 * r + u1 < q * y0
      · have HO : Hid (u * 4294967296 + u1 < q * Y) := by show _ < _; rw [HY.out]; exact div_over y1 y0 u u1 q r HE.out (by omega)
        have q2 : 1 ≤ q := by
          rcases (show q = 0 ∨ 1 ≤ q by omega) with h | h
          · rw [h] at t2; omega
          · exact h
        by_cases rb : 4294967296 ≤ r + y1
        · obtain ⟨x, hx'⟩ : ∃ x, q - 1 = x := ⟨_, rfl⟩
          have XH : Hid (u * 4294967296 + u1 < (x + 1) * Y) := by show _ < _; rw [← hx', Int.sub_add_cancel]; exact HO.out
          have XL : Hid (x * Y ≤ u * 4294967296 + u1) := by show _ ≤ _; rw [HY.out]; exact div_break y1 y0 u u1 x (r + y1) (by rw [← hx', Int.sub_mul]; have := HE.out; omega) rb (by omega) y0a (by omega) u1a
          clear HE HF
          obtain ⟨E1, x0, x1, m0, m1, eW⟩ := half_end u u1 Y x ua u1a u1b ub Y1 XL.out XH.out
          have E2 : Hid (x = (u * 4294967296 + u1) / Y) := E1
          clear E1
          obtain ⟨V, hV⟩ : ∃ V, (u * 4294967296 + u1) % Y = V := ⟨_, rfl⟩
          rw [hV] at m0 m1 eW
          have V2 : Hid ((u * 4294967296 + u1) % Y = V) := hV
          clear hV
          obtain ⟨ja, jb, jc, jd, je, JF⟩ := guess V u0 y1 y0 m0 u0a u0b y1a y0a y0b (by have := HY.out; omega)
          go_wp2
          go_loop [18, 16] (fun a b => ∃ q r : Int, 0 ≤ q ∧ q ≤ 4294967297 ∧ 0 ≤ r ∧ r ≤ 4294967295 ∧ Hid (V = q * y1 + r) ∧ Hid (V * 4294967296 + u0 < (q + 1) * Y) ∧ a = .int .u64 q ∧ b = .int .u64 r) (fun a _ => (intOf a).toNat)
          case atStart => exact ⟨V / y1, V - V / y1 * y1, ja, jb, by omega, by omega, by show _ = _; omega, by have := JF.out; rw [← HY.out] at this; exact this, rfl, rfl⟩
          case round =>
            clear ja jb jc jd je JF
            obtain ⟨q, r, q0, q1, r0, r1, HE, HF, rfl, rfl⟩ := hrel
            by_cases t1 : 4294967296 ≤ q
            · have HO : Hid (V * 4294967296 + u0 < q * Y) := div_wide Y V u0 q m1 (by omega) (by omega) t1
              by_cases rb : 4294967296 ≤ r + y1
              · obtain ⟨z, hz'⟩ : ∃ z, q - 1 = z := ⟨_, rfl⟩
                have ZH : Hid (V * 4294967296 + u0 < (z + 1) * Y) := by show _ < _; rw [← hz', Int.sub_add_cancel]; exact HO.out
                have ZL : Hid (z * Y ≤ V * 4294967296 + u0) := by show _ ≤ _; rw [HY.out]; exact div_break y1 y0 V u0 z (r + y1) (by rw [← hz', Int.sub_mul]; have := HE.out; omega) rb (by omega) y0a (by omega) u0a
                obtain ⟨F1, p0, p1, n0, n1, fW⟩ := half_end V u0 Y z (by omega) u0a u0b (by omega) Y1 ZL.out ZH.out
                have F2 : Hid (z = (V * 4294967296 + u0) / Y) := F1
                clear F1
                obtain ⟨R, hR⟩ : ∃ R, (V * 4294967296 + u0) % Y = R := ⟨_, rfl⟩
                rw [hR] at n0 n1 fW
                have R2 : Hid ((V * 4294967296 + u0) % Y = R) := hR
                clear hR
                have hfin := div_fin hi lo y s Y u u1 u0 x V z R hp eY (by omega) HU.out E2.out V2.out F2.out R2.out
                obtain ⟨f1, f2⟩ := hfin
                have f1' : Hid _ := f1
                have f2' : Hid _ := f2
                clear f1 f2
                go_wp2
                go_ret2
                exact ⟨ret_pair f1'.out f2'.out, Kept.refl _⟩
              · go_wp2
                go_round
                case rel => exact ⟨q - 1, r + y1, by omega, by omega, by omega, by omega, by show _ = _; rw [Int.sub_mul]; have := HE.out; omega, by show _ < _; rw [Int.sub_add_cancel]; exact HO.out, rfl, rfl⟩
                case measure => simp [intOf]; omega
            · have qy : 0 ≤ q * y0 ∧ q * y0 ≤ 18446744065119617025 := ⟨Int.mul_nonneg q0 y0a, Int.mul_le_mul (show q ≤ 4294967295 by omega) y0b y0a (by omega)⟩
              by_cases t2 : 4294967296 * r + u0 < q * y0
              · have HO : Hid (V * 4294967296 + u0 < q * Y) := by show _ < _; rw [HY.out]; exact div_over y1 y0 V u0 q r HE.out (by omega)
                have q2 : 1 ≤ q := by
                  rcases (show q = 0 ∨ 1 ≤ q by omega) with h | h
                  · rw [h] at t2; omega
                  · exact h
                by_cases rb : 4294967296 ≤ r + y1
                · obtain ⟨z, hz'⟩ : ∃ z, q - 1 = z := ⟨_, rfl⟩
                  have ZH : Hid (V * 4294967296 + u0 < (z + 1) * Y) := by show _ < _; rw [← hz', Int.sub_add_cancel]; exact HO.out
                  have ZL : Hid (z * Y ≤ V * 4294967296 + u0) := by show _ ≤ _; rw [HY.out]; exact div_break y1 y0 V u0 z (r + y1) (by rw [← hz', Int.sub_mul]; have := HE.out; omega) rb (by omega) y0a (by omega) u0a
                  obtain ⟨F1, p0, p1, n0, n1, fW⟩ := half_end V u0 Y z (by omega) u0a u0b (by omega) Y1 ZL.out ZH.out
                  have F2 : Hid (z = (V * 4294967296 + u0) / Y) := F1
                  clear F1
                  obtain ⟨R, hR⟩ : ∃ R, (V * 4294967296 + u0) % Y = R := ⟨_, rfl⟩
                  rw [hR] at n0 n1 fW
                  have R2 : Hid ((V * 4294967296 + u0) % Y = R) := hR
                  clear hR
                  have hfin := div_fin hi lo y s Y u u1 u0 x V z R hp eY (by omega) HU.out E2.out V2.out F2.out R2.out
                  obtain ⟨f1, f2⟩ := hfin
                  have f1' : Hid _ := f1
                  have f2' : Hid _ := f2
                  clear f1 f2
                  go_wp2
                  go_ret2
                  exact ⟨ret_pair f1'.out f2'.out, Kept.refl _⟩
                · go_wp2
                  go_round
                  case rel => exact ⟨q - 1, r + y1, by omega, by omega, by omega, by omega, by show _ = _; rw [Int.sub_mul]; have := HE.out; omega, by show _ < _; rw [Int.sub_add_cancel]; exact HO.out, rfl, rfl⟩
                  case measure => simp [intOf]; omega
              · obtain ⟨z, rfl⟩ : ∃ z, q = z := ⟨_, rfl⟩
                have ZH : Hid (V * 4294967296 + u0 < (q + 1) * Y) := HF
                have ZL : Hid (q * Y ≤ V * 4294967296 + u0) := by show _ ≤ _; rw [HY.out]; exact div_under y1 y0 V u0 q r HE.out (by omega)
                obtain ⟨F1, p0, p1, n0, n1, fW⟩ := half_end V u0 Y q (by omega) u0a u0b (by omega) Y1 ZL.out ZH.out
                have F2 : Hid (q = (V * 4294967296 + u0) / Y) := F1
                clear F1
                obtain ⟨R, hR⟩ : ∃ R, (V * 4294967296 + u0) % Y = R := ⟨_, rfl⟩
                rw [hR] at n0 n1 fW
                have R2 : Hid ((V * 4294967296 + u0) % Y = R) := hR
                clear hR
                have hfin := div_fin hi lo y s Y u u1 u0 x V q R hp eY (by omega) HU.out E2.out V2.out F2.out R2.out
                obtain ⟨f1, f2⟩ := hfin
                have f1' : Hid _ := f1
                have f2' : Hid _ := f2
                clear f1 f2
                go_wp2
                go_ret2
                exact ⟨ret_pair f1'.out f2'.out, Kept.refl _⟩
        · go_wp2
          go_round
          case rel => exact ⟨q - 1, r + y1, by omega, by omega, by omega, by omega, by show _ = _; rw [Int.sub_mul]; have := HE.out; omega, by show _ < _; rw [Int.sub_add_cancel]; exact HO.out, rfl, rfl⟩
          case measure => simp [intOf]; omega
      · obtain ⟨x, rfl⟩ : ∃ x, x = q := ⟨_, rfl⟩
        have XH : Hid (u * 4294967296 + u1 < (x + 1) * Y) := HF
        have XL : Hid (x * Y ≤ u * 4294967296 + u1) := by show _ ≤ _; rw [HY.out]; exact div_under y1 y0 u u1 x r HE.out (by omega)
        clear HE HF
        obtain ⟨E1, x0, x1, m0, m1, eW⟩ := half_end u u1 Y x ua u1a u1b ub Y1 XL.out XH.out
        have E2 : Hid (x = (u * 4294967296 + u1) / Y) := E1
        clear E1
        obtain ⟨V, hV⟩ : ∃ V, (u * 4294967296 + u1) % Y = V := ⟨_, rfl⟩
        rw [hV] at m0 m1 eW
        have V2 : Hid ((u * 4294967296 + u1) % Y = V) := hV
        clear hV
        obtain ⟨ja, jb, jc, jd, je, JF⟩ := guess V u0 y1 y0 m0 u0a u0b y1a y0a y0b (by have := HY.out; omega)
        go_wp2
        go_loop [18, 16] (fun a b => ∃ q r : Int, 0 ≤ q ∧ q ≤ 4294967297 ∧ 0 ≤ r ∧ r ≤ 4294967295 ∧ Hid (V = q * y1 + r) ∧ Hid (V * 4294967296 + u0 < (q + 1) * Y) ∧ a = .int .u64 q ∧ b = .int .u64 r) (fun a _ => (intOf a).toNat)
        case atStart => exact ⟨V / y1, V - V / y1 * y1, ja, jb, by omega, by omega, by show _ = _; omega, by have := JF.out; rw [← HY.out] at this; exact this, rfl, rfl⟩
        case round =>
          clear ja jb jc jd je JF
          obtain ⟨q, r, q0, q1, r0, r1, HE, HF, rfl, rfl⟩ := hrel
          by_cases t1 : 4294967296 ≤ q
          · have HO : Hid (V * 4294967296 + u0 < q * Y) := div_wide Y V u0 q m1 (by omega) (by omega) t1
            by_cases rb : 4294967296 ≤ r + y1
            · obtain ⟨z, hz'⟩ : ∃ z, q - 1 = z := ⟨_, rfl⟩
              have ZH : Hid (V * 4294967296 + u0 < (z + 1) * Y) := by show _ < _; rw [← hz', Int.sub_add_cancel]; exact HO.out
              have ZL : Hid (z * Y ≤ V * 4294967296 + u0) := by show _ ≤ _; rw [HY.out]; exact div_break y1 y0 V u0 z (r + y1) (by rw [← hz', Int.sub_mul]; have := HE.out; omega) rb (by omega) y0a (by omega) u0a
              obtain ⟨F1, p0, p1, n0, n1, fW⟩ := half_end V u0 Y z (by omega) u0a u0b (by omega) Y1 ZL.out ZH.out
              have F2 : Hid (z = (V * 4294967296 + u0) / Y) := F1
              clear F1
              obtain ⟨R, hR⟩ : ∃ R, (V * 4294967296 + u0) % Y = R := ⟨_, rfl⟩
              rw [hR] at n0 n1 fW
              have R2 : Hid ((V * 4294967296 + u0) % Y = R) := hR
              clear hR
              have hfin := div_fin hi lo y s Y u u1 u0 x V z R hp eY (by omega) HU.out E2.out V2.out F2.out R2.out
              obtain ⟨f1, f2⟩ := hfin
              have f1' : Hid _ := f1
              have f2' : Hid _ := f2
              clear f1 f2
              go_wp2
              go_ret2
              exact ⟨ret_pair f1'.out f2'.out, Kept.refl _⟩
            · go_wp2
              go_round
              case rel => exact ⟨q - 1, r + y1, by omega, by omega, by omega, by omega, by show _ = _; rw [Int.sub_mul]; have := HE.out; omega, by show _ < _; rw [Int.sub_add_cancel]; exact HO.out, rfl, rfl⟩
              case measure => simp [intOf]; omega
          · have qy : 0 ≤ q * y0 ∧ q * y0 ≤ 18446744065119617025 := ⟨Int.mul_nonneg q0 y0a, Int.mul_le_mul (show q ≤ 4294967295 by omega) y0b y0a (by omega)⟩
            by_cases t2 : 4294967296 * r + u0 < q * y0
            · have HO : Hid (V * 4294967296 + u0 < q * Y) := by show _ < _; rw [HY.out]; exact div_over y1 y0 V u0 q r HE.out (by omega)
              have q2 : 1 ≤ q := by
                rcases (show q = 0 ∨ 1 ≤ q by omega) with h | h
                · rw [h] at t2; omega
                · exact h
              by_cases rb : 4294967296 ≤ r + y1
              · obtain ⟨z, hz'⟩ : ∃ z, q - 1 = z := ⟨_, rfl⟩
                have ZH : Hid (V * 4294967296 + u0 < (z + 1) * Y) := by show _ < _; rw [← hz', Int.sub_add_cancel]; exact HO.out
                have ZL : Hid (z * Y ≤ V * 4294967296 + u0) := by show _ ≤ _; rw [HY.out]; exact div_break y1 y0 V u0 z (r + y1) (by rw [← hz', Int.sub_mul]; have := HE.out; omega) rb (by omega) y0a (by omega) u0a
                obtain ⟨F1, p0, p1, n0, n1, fW⟩ := half_end V u0 Y z (by omega) u0a u0b (by omega) Y1 ZL.out ZH.out
                have F2 : Hid (z = (V * 4294967296 + u0) / Y) := F1
                clear F1
                obtain ⟨R, hR⟩ : ∃ R, (V * 4294967296 + u0) % Y = R := ⟨_, rfl⟩
                rw [hR] at n0 n1 fW
                have R2 : Hid ((V * 4294967296 + u0) % Y = R) := hR
                clear hR
                have hfin := div_fin hi lo y s Y u u1 u0 x V z R hp eY (by omega) HU.out E2.out V2.out F2.out R2.out
                obtain ⟨f1, f2⟩ := hfin
                have f1' : Hid _ := f1
                have f2' : Hid _ := f2
                clear f1 f2
                go_wp2
                go_ret2
                exact ⟨ret_pair f1'.out f2'.out, Kept.refl _⟩
              · go_wp2
                go_round
                case rel => exact ⟨q - 1, r + y1, by omega, by omega, by omega, by omega, by show _ = _; rw [Int.sub_mul]; have := HE.out; omega, by show _ < _; rw [Int.sub_add_cancel]; exact HO.out, rfl, rfl⟩
                case measure => simp [intOf]; omega
            · obtain ⟨z, rfl⟩ : ∃ z, q = z := ⟨_, rfl⟩
              have ZH : Hid (V * 4294967296 + u0 < (q + 1) * Y) := HF
              have ZL : Hid (q * Y ≤ V * 4294967296 + u0) := by show _ ≤ _; rw [HY.out]; exact div_under y1 y0 V u0 q r HE.out (by omega)
              obtain ⟨F1, p0, p1, n0, n1, fW⟩ := half_end V u0 Y q (by omega) u0a u0b (by omega) Y1 ZL.out ZH.out
              have F2 : Hid (q = (V * 4294967296 + u0) / Y) := F1
              clear F1
              obtain ⟨R, hR⟩ : ∃ R, (V * 4294967296 + u0) % Y = R := ⟨_, rfl⟩
              rw [hR] at n0 n1 fW
              have R2 : Hid ((V * 4294967296 + u0) % Y = R) := hR
              clear hR
              have hfin := div_fin hi lo y s Y u u1 u0 x V q R hp eY (by omega) HU.out E2.out V2.out F2.out R2.out
              obtain ⟨f1, f2⟩ := hfin
              have f1' : Hid _ := f1
              have f2' : Hid _ := f2
              clear f1 f2
              go_wp2
              go_ret2
              exact ⟨ret_pair f1'.out f2'.out, Kept.refl _⟩

end Go.Proofs.Ytmjggolllijamaa
