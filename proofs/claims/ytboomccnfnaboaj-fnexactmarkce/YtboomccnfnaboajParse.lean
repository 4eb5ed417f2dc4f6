/-
  WHAT THE SPECIFICATION's READER OF FRAMES ANSWERS (l2parse, EcnOf).
-/
import Derived.Test.YtboomccnfnaboajWire
import Derived.Deep.Cut
import Derived.Deep.RegionHeld3
import Derived.Deep.AppendLies
import Derived.WalkSpells
namespace Go.Proofs.Ytboomccnfnaboaj
open Go.RowKit
set_option linter.unusedVariables false

def noFrame : Value := .agg #[.int .i64 0, .int .i64 0, .int .i64 0, .int .i64 0, .int .i64 0, .int .i64 0, .int .i64 0, .int .i64 0, .int .i64 0, .slice none 0 0]
/-- Why n bytes are no frame: 0: they are one. -/
def codeF (f : Nat → Int) (n : Nat) : Int :=
  if n < 24 then 1 else if f 0 ≠ 69 ∨ get16F f 6 ≠ 0 then 2 else if get16F f 2 ≠ n ∨ 100 < n then 3 else if sumF f 20 ≠ 65535 ∨ get16F f 10 = 65535 then 4 else 0

theorem parse_short (a : Option Addr) (n cap : Nat) (f : Nat → Int) (w : World) (h : n < 24) :
    Calls Try.prog 34 #[.slice a n cap] w fun e w' => e = .returned (.tuple #[noFrame, .int .i64 1]) ∧ Below w.heap.size w w' := by
  go_enter Try.func34, Try.ntmps34
  go_wp2
  exact bodyPost_ret (v := .tuple #[noFrame, .int .i64 1]) (by simp [results, Try.results34, go_sem, noFrame]) rfl ⟨rfl, (Below.refl _ _).alloc (Nat.le_refl _) _⟩

theorem get16_at (a : Option Addr) (n cap : Nat) (f : Nat → Int) (j : Int) (w : World) (hr : Row .u8 w a n f) (hf : Byt n f) (hj : 0 ≤ j) (hi : j + 1 < n) (hn : n ≤ 9223372036854775807) :
    Calls Try.prog 55 #[.slice a n cap, .int .i64 j] w fun e w' => e = .returned (.int .i64 (get16F f j.toNat)) ∧ w' = w.drew := by
  obtain ⟨i, rfl⟩ := Int.eq_ofNat_of_zero_le hj
  exact get16_any a n cap f i w hr hf (by omega) hn
theorem get16F_bd (f : Nat → Int) (n i : Nat) (hf : Byt n f) (hi : i + 1 < n) : 0 ≤ get16F f i ∧ get16F f i ≤ 65535 := by
  have a := hf i (by omega)
  have b := hf (i + 1) hi
  unfold get16F; omega
theorem Row.take {k : IntKind} {w : World} {a : Option Addr} {n m : Nat} {f : Nat → Int} (h : Row k w a n f) (hm : m ≤ n) : Row k w a m f := by
  rcases h with h | ⟨b, off, ha, hlt, hc⟩
  · exact .inl (by omega)
  · exact .inr ⟨b, off, ha, hlt, fun i hi => hc i (by omega)⟩

set_option maxHeartbeats 1000000 in
theorem parse_bad (a : Option Addr) (n cap : Nat) (f : Nat → Int) (w : World) (hr : Row .u8 w a n f) (hf : Byt n f) (hn : n ≤ 1048576) (hcap : n ≤ cap) (h : 24 ≤ n) (c : Int) (hcode : codeF f n = c) (hc0 : c ≠ 0) :
    Calls Try.prog 34 #[.slice a n cap] w fun e w' => e = .returned (.tuple #[noFrame, .int .i64 c]) ∧ Below w.heap.size w w' := by
  have HF : Hid (Byt n f) := hf
  obtain ⟨b, off, rfl, hb, hc⟩ := Row.at hr (j := 0) (by omega)
  have HR : Hid (Row .u8 w (some ⟨b, off, none⟩) n f) := hr
  have c0 : w.cell? ⟨b, off, none⟩ = some (.int .u8 (f 0)) := hc 0 (by omega)
  have f0 := hf 0 (by omega)
  have g2 := get16F_bd f n 2 hf (by omega)
  have g6 := get16F_bd f n 6 hf (by omega)
  have g10 := get16F_bd f n 10 hf (by omega)
  clear hr hf hc
  by_cases h0 : f 0 = 69
  · by_cases h6 : get16F f 6 = 0
    · by_cases h2 : get16F f 2 = n
      · by_cases hL : 100 < (n : Int)
        · have HE : Hid (c = 3) := by show _ = _; rw [← hcode]; unfold codeF; rw [if_neg (by omega), if_neg (by simp [h0, h6]), if_pos (Or.inr (by omega))]
          clear hcode
          go_enter Try.func34, Try.ntmps34
          go_wp2_with (go_at_call 55; refine (get16_at _ n cap f _ _ (Row.below HR.out (by go_grown)) HF.out (by omega) (by omega) (by omega)).mono ?_; rintro e w' ⟨rfl, rfl⟩)
          rw [HE.out]
          exact bodyPost_ret (v := .tuple #[noFrame, .int .i64 3]) (by simp [results, Try.results34, go_sem, noFrame]) rfl ⟨rfl, by go_grown⟩
        · by_cases hs : sumF f 20 = 65535
          · have h10 : get16F f 10 = 65535 := by
              refine Classical.byContradiction fun k => hc0 ?_
              rw [← hcode]; unfold codeF; rw [if_neg (by omega), if_neg (by simp [h0, h6]), if_neg (by simp [h2]; omega), if_neg (by simp [hs, k])]
            have HE : Hid (c = 4) := by show _ = _; rw [← hcode]; unfold codeF; rw [if_neg (by omega), if_neg (by simp [h0, h6]), if_neg (by simp [h2]; omega), if_pos (Or.inr h10)]
            clear hcode
            go_enter Try.func34, Try.ntmps34
            go_wp2_with (first | (go_at_call 55; refine (get16_at _ n cap f _ _ (Row.below HR.out (by go_grown)) HF.out (by omega) (by omega) (by omega)).mono ?_; rintro e w' ⟨rfl, rfl⟩) | (go_at_call 56; refine (sum_any _ 20 _ f _ (Row.take (Row.below HR.out (by go_grown)) (by omega)) (fun i hi => HF.out i (by omega)) (by omega)).mono ?_; rintro e w' ⟨rfl, rfl⟩))
            rw [HE.out]
            exact bodyPost_ret (v := .tuple #[noFrame, .int .i64 4]) (by simp [results, Try.results34, go_sem, noFrame]) rfl ⟨rfl, by go_grown⟩
          · have hs' : (sumF f 20 == 65535) = false := by simpa using hs
            have HE : Hid (c = 4) := by show _ = _; rw [← hcode]; unfold codeF; rw [if_neg (by omega), if_neg (by simp [h0, h6]), if_neg (by simp [h2]; omega), if_pos (Or.inl hs)]
            clear hcode
            go_enter Try.func34, Try.ntmps34
            go_wp2_with (first | (go_at_call 55; refine (get16_at _ n cap f _ _ (Row.below HR.out (by go_grown)) HF.out (by omega) (by omega) (by omega)).mono ?_; rintro e w' ⟨rfl, rfl⟩) | (go_at_call 56; refine (sum_any _ 20 _ f _ (Row.take (Row.below HR.out (by go_grown)) (by omega)) (fun i hi => HF.out i (by omega)) (by omega)).mono ?_; rintro e w' ⟨rfl, rfl⟩))
            rw [HE.out]
            exact bodyPost_ret (v := .tuple #[noFrame, .int .i64 4]) (by simp [results, Try.results34, go_sem, noFrame]) rfl ⟨rfl, by go_grown⟩
      · have h2' : (get16F f 2 == (n : Int)) = false := by simpa using h2
        have HE : Hid (c = 3) := by show _ = _; rw [← hcode]; unfold codeF; rw [if_neg (by omega), if_neg (by simp [h0, h6]), if_pos (Or.inl h2)]
        clear hcode
        go_enter Try.func34, Try.ntmps34
        go_wp2_with (first | (go_at_call 55; refine (get16_at _ n cap f _ _ (Row.below HR.out (by go_grown)) HF.out (by omega) (by omega) (by omega)).mono ?_; rintro e w' ⟨rfl, rfl⟩) | (go_at_call 56; refine (sum_any _ 20 _ f _ (Row.take (Row.below HR.out (by go_grown)) (by omega)) (fun i hi => HF.out i (by omega)) (by omega)).mono ?_; rintro e w' ⟨rfl, rfl⟩))
        rw [HE.out]
        exact bodyPost_ret (v := .tuple #[noFrame, .int .i64 3]) (by simp [results, Try.results34, go_sem, noFrame]) rfl ⟨rfl, by go_grown⟩
    · have h6' : (get16F f 6 == 0) = false := by simpa using h6
      have HE : Hid (c = 2) := by show _ = _; rw [← hcode]; unfold codeF; rw [if_neg (by omega), if_pos (Or.inr h6)]
      clear hcode
      go_enter Try.func34, Try.ntmps34
      go_wp2_with (first | (go_at_call 55; refine (get16_at _ n cap f _ _ (Row.below HR.out (by go_grown)) HF.out (by omega) (by omega) (by omega)).mono ?_; rintro e w' ⟨rfl, rfl⟩) | (go_at_call 56; refine (sum_any _ 20 _ f _ (Row.take (Row.below HR.out (by go_grown)) (by omega)) (fun i hi => HF.out i (by omega)) (by omega)).mono ?_; rintro e w' ⟨rfl, rfl⟩))
      rw [HE.out]
      exact bodyPost_ret (v := .tuple #[noFrame, .int .i64 2]) (by simp [results, Try.results34, go_sem, noFrame]) rfl ⟨rfl, by go_grown⟩
  · have h0' : (f 0 == 69) = false := by simpa using h0
    have HE : Hid (c = 2) := by show _ = _; rw [← hcode]; unfold codeF; rw [if_neg (by omega), if_pos (Or.inl h0)]
    clear hcode
    go_enter Try.func34, Try.ntmps34
    go_wp2_with (first | (go_at_call 55; refine (get16_at _ n cap f _ _ (Row.below HR.out (by go_grown)) HF.out (by omega) (by omega) (by omega)).mono ?_; rintro e w' ⟨rfl, rfl⟩) | (go_at_call 56; refine (sum_any _ 20 _ f _ (Row.take (Row.below HR.out (by go_grown)) (by omega)) (fun i hi => HF.out i (by omega)) (by omega)).mono ?_; rintro e w' ⟨rfl, rfl⟩))
    rw [HE.out]
    exact bodyPost_ret (v := .tuple #[noFrame, .int .i64 2]) (by simp [results, Try.results34, go_sem, noFrame]) rfl ⟨rfl, by go_grown⟩

end Go.Proofs.Ytboomccnfnaboaj
