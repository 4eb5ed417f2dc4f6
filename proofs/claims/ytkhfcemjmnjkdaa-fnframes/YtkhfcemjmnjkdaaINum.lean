/-
  WHAT THE PROGRAM's numberOf AND codeOf ANSWER.
-/
import Derived.Test.YtkhfcemjmnjkdaaISum
import Derived.Test.YtkhfcemjmnjkdaaParse
namespace Go.Proofs.Ytkhfcemjmnjkdaa
open Go.RowKit
set_option linter.unusedVariables false

theorem numF_up (f : Nat → Int) (n : Nat) (hf : Byt n f) : ∀ k, k ≤ n → k ≤ 4 → 0 ≤ numF f 0 k ∧ numF f 0 k ≤ 4294967295 := by
  intro k h1 h2
  have hh : ∀ j, j < k → 0 ≤ f (0 + j) ∧ f (0 + j) ≤ 255 := fun j hj => by rw [Nat.zero_add]; exact hf j (by omega)
  rcases (by omega : k = 0 ∨ k = 1 ∨ k = 2 ∨ k = 3 ∨ k = 4) with rfl | rfl | rfl | rfl | rfl <;> simp only [numF]
  · omega
  · have := hh 0 (by omega); omega
  · have := hh 0 (by omega); have := hh 1 (by omega); omega
  · have := hh 0 (by omega); have := hh 1 (by omega); have := hh 2 (by omega); omega
  · have := hh 0 (by omega); have := hh 1 (by omega); have := hh 2 (by omega); have := hh 3 (by omega); omega

theorem number_any (a : Option Addr) (n cap : Nat) (f : Nat → Int) (w : World) (hr : Row .u8 w a n f) (hf : Byt n f) (hn : n ≤ 4) :
    Calls Try.prog 21 #[.slice a n cap] w fun e w' => e = .returned (.int .i64 (numF f 0 n)) ∧ w' = w := by
  have HR : Hid _ := hr
  have HF : Hid (Byt n f) := hf
  clear hr hf
  go_enter Try.func21, Try.ntmps21
  go_wp2
  go_loop [3, 8] (fun s i => ∃ k : Nat, k ≤ n ∧ i = .int .i64 (k : Int) ∧ s = .int .i64 (numF f 0 k)) (fun _ i => n - (intOf i).toNat)
  case atStart => exact ⟨0, by omega, rfl, rfl⟩
  case round =>
    obtain ⟨k, hk, rfl, rfl⟩ := hrel
    have pb := numF_up f n HF.out k hk (by omega)
    by_cases hlt : k < n
    · obtain ⟨b, off, rfl, hb, hc⟩ := Row.at HR.out hlt
      have c1 := hc k hlt
      have f1 := HF.out k hlt
      have HP : Hid (numF f 0 (k + 1) = numF f 0 k * 256 + f k) := by show _ = _; rw [numF, Nat.zero_add]
      clear hc
      go_wp2
      go_round
      case rel => exact ⟨k + 1, by omega, by go_num, by rw [HP.out]⟩
      case measure => simp [intOf]; omega
    · obtain rfl : k = n := by omega
      go_wp2
      go_ret
      exact ⟨rfl, rfl⟩

theorem Row.from {k : IntKind} {w : World} {b off n i m : Nat} {f : Nat → Int} (h : Row k w (some ⟨b, off, none⟩) n f) (hi : i + m ≤ n) : Row k w (some ⟨b, off + i, none⟩) m (fun j => f (i + j)) := by
  rcases h with h | ⟨b', off', ha, hlt, hc⟩
  · exact .inl (by omega)
  · simp only [Option.some.injEq, Addr.mk.injEq] at ha
    obtain ⟨rfl, rfl, _⟩ := ha
    exact .inr ⟨b, off + i, rfl, hlt, fun j hj => by rw [Nat.add_assoc]; exact hc (i + j) (by omega)⟩

theorem numF_at (f : Nat → Int) (i : Nat) : ∀ m, numF (fun j => f (i + j)) 0 m = numF f i m
  | 0 => rfl
  | m + 1 => by rw [numF, numF, numF_at f i m, Nat.zero_add]
theorem numF_2 (f : Nat → Int) (i : Nat) : numF f i 2 = get16F f i := by simp [numF, get16F]
theorem numF_4 (f : Nat → Int) (i : Nat) : numF f i 4 = get16F f i * 65536 + get16F f (i + 2) := by simp only [numF, get16F, Nat.add_zero, Nat.add_assoc, Nat.reduceAdd]; omega

theorem number_m (b off n c i m : Nat) (f : Nat → Int) (w : World) (hr : Row .u8 w (some ⟨b, off, none⟩) n f) (hf : Byt n f) (hi : i + m ≤ n) (hm : m ≤ 4) :
    Calls Try.prog 21 #[.slice (some ⟨b, off + i, none⟩) m c] w fun e w' => e = .returned (.int .i64 (numF f i m)) ∧ w' = w := by
  refine (number_any _ m c (fun j => f (i + j)) w (hr.from hi) (fun j hj => hf (i + j) (by omega)) hm).mono ?_
  rintro e w' ⟨rfl, rfl⟩
  exact ⟨ret_int (numF_at f i m), rfl⟩

theorem number2 (b off n c i : Nat) (f : Nat → Int) (w : World) (hr : Row .u8 w (some ⟨b, off, none⟩) n f) (hf : Byt n f) (hi : i + 2 ≤ n) :
    Calls Try.prog 21 #[.slice (some ⟨b, off + i, none⟩) 2 c] w fun e w' => e = .returned (.int .i64 (get16F f i)) ∧ w' = w := by
  refine (number_any _ 2 c (fun j => f (i + j)) w (hr.from hi) (fun j hj => hf (i + j) (by omega)) (by omega)).mono ?_
  rintro e w' ⟨rfl, rfl⟩
  exact ⟨ret_int (by simp [numF, get16F]), rfl⟩

theorem number4 (b off n c i : Nat) (f : Nat → Int) (w : World) (hr : Row .u8 w (some ⟨b, off, none⟩) n f) (hf : Byt n f) (hi : i + 4 ≤ n) :
    Calls Try.prog 21 #[.slice (some ⟨b, off + i, none⟩) 4 c] w fun e w' => e = .returned (.int .i64 (get16F f i * 65536 + get16F f (i + 2))) ∧ w' = w := by
  refine (number_any _ 4 c (fun j => f (i + j)) w (hr.from hi) (fun j hj => hf (i + j) (by omega)) (by omega)).mono ?_
  rintro e w' ⟨rfl, rfl⟩
  exact ⟨ret_int (by simp only [numF, get16F, Nat.zero_add, Nat.add_zero, Nat.add_assoc, Nat.reduceAdd]; omega), rfl⟩

theorem sumF_bd (f : Nat → Int) (n : Nat) (hf : Byt n f) : 0 ≤ sumF f n ∧ sumF f n ≤ 65535 :=
  foldF_bd (pairsF f n ((n + 1) / 2)) (pairsF_bd f n hf _ (by omega)).1

set_option maxHeartbeats 1000000 in
theorem codeOf_any (a : Option Addr) (n cap : Nat) (f : Nat → Int) (w : World) (hr : Row .u8 w a n f) (hf : Byt n f) (hn : n ≤ 1048576) (hcap : n ≤ cap) :
    Calls Try.prog 20 #[.slice a n cap] w fun e w' => e = .returned (.int .i64 (codeF f n)) ∧ w' = w := by
  by_cases h : n < 24
  · have HE : Hid (1 = codeF f n) := by show _ = _; unfold codeF; rw [if_pos h]
    go_enter Try.func20, Try.ntmps20
    go_wp2
    go_ret
    exact ⟨ret_int HE.out, rfl⟩
  · have HF : Hid (Byt n f) := hf
    obtain ⟨b, off, rfl, hb, hc⟩ := Row.at hr (j := 0) (by omega)
    have HR : Hid (Row .u8 w (some ⟨b, off, none⟩) n f) := hr
    have c0 : w.cell? ⟨b, off, none⟩ = some (.int .u8 (f 0)) := hc 0 (by omega)
    have f0 := hf 0 (by omega)
    have g2 := get16F_bd f n 2 hf (by omega)
    have g6 := get16F_bd f n 6 hf (by omega)
    have g10 := get16F_bd f n 10 hf (by omega)
    have gs := sumF_bd f 20 (fun i hi => hf i (by omega))
    clear hr hf hc
    by_cases h0 : f 0 = 69
    · by_cases h6 : get16F f 6 = 0
      · by_cases h2 : get16F f 2 = n
        · by_cases hL : 100 < (n : Int)
          · have HE : Hid (3 = codeF f n) := by show _ = _; unfold codeF; rw [if_neg (by omega), if_neg (by simp [h0, h6]), if_pos (Or.inr (by omega))]
            go_enter Try.func20, Try.ntmps20
            go_wp2_with (go_at_call 21; refine (number2 b off n _ _ f _ HR.out HF.out (by omega)).mono ?_; rintro e w' ⟨rfl, rfl⟩)
            go_ret
            exact ⟨ret_int HE.out, rfl⟩
          · by_cases hs : sumF f 20 = 65535
            · by_cases h10 : get16F f 10 = 65535
              · have HE : Hid (4 = codeF f n) := by show _ = _; unfold codeF; rw [if_neg (by omega), if_neg (by simp [h0, h6]), if_neg (by simp [h2]; omega), if_pos (Or.inr h10)]
                go_enter Try.func20, Try.ntmps20
                go_wp2_with (first | (go_at_call 21; refine (number2 b off n _ _ f _ HR.out HF.out (by omega)).mono ?_; rintro e w' ⟨rfl, rfl⟩) | (go_at_call 10; refine (isum_any _ 20 _ f _ (Row.take HR.out (by omega)) (fun i hi => HF.out i (by omega)) (by omega)).mono ?_; rintro e w' ⟨rfl, rfl⟩))
                go_ret
                exact ⟨ret_int HE.out, rfl⟩
              · have h10' : (get16F f 10 == 65535) = false := by simpa using h10
                have HE : Hid (0 = codeF f n) := by show _ = _; unfold codeF; rw [if_neg (by omega), if_neg (by simp [h0, h6]), if_neg (by simp [h2]; omega), if_neg (by simp [hs, h10])]
                go_enter Try.func20, Try.ntmps20
                go_wp2_with (first | (go_at_call 21; refine (number2 b off n _ _ f _ HR.out HF.out (by omega)).mono ?_; rintro e w' ⟨rfl, rfl⟩) | (go_at_call 10; refine (isum_any _ 20 _ f _ (Row.take HR.out (by omega)) (fun i hi => HF.out i (by omega)) (by omega)).mono ?_; rintro e w' ⟨rfl, rfl⟩))
                go_ret
                exact ⟨ret_int HE.out, rfl⟩
            · have hs' : (65535 - sumF f 20 == 0) = false := by simp; omega
              have HE : Hid (4 = codeF f n) := by show _ = _; unfold codeF; rw [if_neg (by omega), if_neg (by simp [h0, h6]), if_neg (by simp [h2]; omega), if_pos (Or.inl hs)]
              go_enter Try.func20, Try.ntmps20
              go_wp2_with (first | (go_at_call 21; refine (number2 b off n _ _ f _ HR.out HF.out (by omega)).mono ?_; rintro e w' ⟨rfl, rfl⟩) | (go_at_call 10; refine (isum_any _ 20 _ f _ (Row.take HR.out (by omega)) (fun i hi => HF.out i (by omega)) (by omega)).mono ?_; rintro e w' ⟨rfl, rfl⟩))
              go_ret
              exact ⟨ret_int HE.out, rfl⟩
        · have h2' : (get16F f 2 == (n : Int)) = false := by simpa using h2
          have HE : Hid (3 = codeF f n) := by show _ = _; unfold codeF; rw [if_neg (by omega), if_neg (by simp [h0, h6]), if_pos (Or.inl h2)]
          go_enter Try.func20, Try.ntmps20
          go_wp2_with (go_at_call 21; refine (number2 b off n _ _ f _ HR.out HF.out (by omega)).mono ?_; rintro e w' ⟨rfl, rfl⟩)
          go_ret
          exact ⟨ret_int HE.out, rfl⟩
      · have h6' : (get16F f 6 == 0) = false := by simpa using h6
        have HE : Hid (2 = codeF f n) := by show _ = _; unfold codeF; rw [if_neg (by omega), if_pos (Or.inr h6)]
        go_enter Try.func20, Try.ntmps20
        go_wp2_with (go_at_call 21; refine (number2 b off n _ _ f _ HR.out HF.out (by omega)).mono ?_; rintro e w' ⟨rfl, rfl⟩)
        go_ret
        exact ⟨ret_int HE.out, rfl⟩
    · have h0' : (f 0 == 69) = false := by simpa using h0
      have HE : Hid (2 = codeF f n) := by show _ = _; unfold codeF; rw [if_neg (by omega), if_pos (Or.inl h0)]
      go_enter Try.func20, Try.ntmps20
      go_wp2_with (go_at_call 21; refine (number2 b off n _ _ f _ HR.out HF.out (by omega)).mono ?_; rintro e w' ⟨rfl, rfl⟩)
      go_ret
      exact ⟨ret_int HE.out, rfl⟩

end Go.Proofs.Ytkhfcemjmnjkdaa
