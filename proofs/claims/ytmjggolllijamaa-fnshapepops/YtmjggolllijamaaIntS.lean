/-
  LISTS OF NUMBERS AS THE LAWS HANDLE THEM: eqIntS, markIntS, heldIntS.
-/
import Derived.Test.YtmjggolllijamaaOfQ
namespace Go.Proofs.Ytmjggolllijamaa
open Go.RowKit
set_option linter.unusedVariables false

set_option maxHeartbeats 400000 in
theorem eqIntS_yes (a b : Option Addr) (n ca cb : Nat) (f : Nat → Int) (w : World) (ha : Row .i64 w a n f) (hb : Row .i64 w b n f) (hn : n ≤ 9223372036854775807) :
    Calls Try.prog 37 #[.slice a n ca, .slice b n cb] w fun e w' => e = .returned (.bool true) ∧ Below w.heap.size w w' := by
  have HA : Hid _ := ha
  have HB : Hid _ := hb
  clear ha hb
  go_enter Try.func37, Try.ntmps37
  go_wp2
  go_loopw [5] (fun i wr => ∃ k : Nat, k ≤ n ∧ i = .int .i64 k ∧ Kept w wr) (fun i _ => n - (intOf i).toNat)
  case atStart => exact ⟨0, Nat.zero_le _, rfl, Kept.refl _⟩
  case round =>
    obtain ⟨k, hk, rfl, hkept⟩ := hrel
    by_cases hlt : k < n
    · obtain ⟨b1, o1, rfl, l1, c1⟩ := Row.at HA.out hlt
      obtain ⟨b2, o2, rfl, l2, c2⟩ := Row.at HB.out hlt
      have d1 : wr.cell? ⟨b1, o1 + k, none⟩ = some (.int .i64 (f k)) := (hkept.1.cell (p := ⟨b1, o1 + k, none⟩) l1).trans (c1 k hlt)
      have d2 : wr.cell? ⟨b2, o2 + k, none⟩ = some (.int .i64 (f k)) := (hkept.1.cell (p := ⟨b2, o2 + k, none⟩) l2).trans (c2 k hlt)
      clear c1 c2
      go_wp2
      go_region
      go_wp2
      go_roundw
      case rel => exact ⟨k + 1, by omega, by go_num, hkept.drew'⟩
      case measure => simp [intOf]; omega
    · obtain rfl : k = n := by omega
      go_wp2
      go_ret
      exact ⟨rfl, hkept.1⟩

set_option maxHeartbeats 400000 in
theorem markIntS_zi (L U : Nat) (a : Option Addr) (n ca : Nat) (g : Nat → Int) (k0 : Int) (w : World) (ho : ZI L U w a n g) (hn : n ≤ 1048576) (h0 : 0 ≤ k0) (h1 : k0 ≤ 1099511627776) :
    Calls Try.prog 39 #[.slice a n ca, .int .i64 k0] w fun e w' => e = .returned (.int .i64 (k0 + n)) ∧ ZI L U w' a n (fun i => k0 + i) ∧ Chg L U w w' := by
  rcases ho with rfl | ⟨B, rfl, hL, hU, ho⟩
  · go_enter Try.func39, Try.ntmps39
    go_wp2
    go_loop [1, 5] (fun c i => i = .int .i64 0 ∧ c = .int .i64 k0) (fun _ i => 0)
    case atStart => exact ⟨rfl, rfl⟩
    case round =>
      obtain ⟨rfl, rfl⟩ := hrel
      go_wp2
      go_ret
      exact ⟨ret_int (by omega), .inl rfl, Chg.refl _ _ _⟩
  · have HO : Hid _ := ho
    clear ho
    go_enter Try.func39, Try.ntmps39
    go_wp2
    go_loopw [1, 5] (fun c i wr => ∃ k : Nat, k ≤ n ∧ i = .int .i64 k ∧ c = .int .i64 (k0 + k) ∧ Chg L U w wr ∧ Own .i64 wr B n (fun j => if j < k then k0 + j else g j)) (fun _ i _ => n - (intOf i).toNat)
    case atStart => exact ⟨0, Nat.zero_le _, rfl, by simp, Chg.refl _ _ _, Own.congr HO.out fun i _ => by simp⟩
    case round =>
      obtain ⟨k, hk, rfl, rfl, hb, ho⟩ := hrel
      have HO : Hid (Own .i64 wr B n (fun j => if j < k then k0 + j else g j)) := ho
      have HB : Hid (Chg L U w wr) := hb
      have hB := ho.1
      by_cases hlt : k < n
      · obtain ⟨c2, c3⟩ := ho.2 k hlt
        clear ho hb
        go_wp2
        go_roundw
        case rel =>
          refine ⟨k + 1, by omega, by go_num, by go_num, chg_set HB.out hL hU _ _, (Own.set HO.out k hlt (k0 + k)).congr fun i hi => ?_⟩
          by_cases e : i = k <;> simp [e] <;> split <;> first | rfl | omega
        case measure => simp [intOf]; omega
      · obtain rfl : k = n := by omega
        clear ho hb
        go_wp2
        go_ret
        exact ⟨rfl, .inr ⟨B, rfl, hL, hU, Own.congr HO.out fun i hi => by simp [hi]⟩, HB.out⟩

set_option maxHeartbeats 400000 in
theorem heldIntS_any (a : Option Addr) (n ca : Nat) (k0 : Int) (w : World) (ha : Row .i64 w a n (fun i => k0 + i)) (hn : n ≤ 1048576) (h0 : 0 ≤ k0) (h1 : k0 ≤ 1099511627776) :
    Calls Try.prog 41 #[.slice a n ca, .int .i64 k0] w fun e w' => e = .returned (.int .i64 (k0 + n)) ∧ Below w.heap.size w w' := by
  have HA : Hid _ := ha
  clear ha
  go_enter Try.func41, Try.ntmps41
  go_wp2
  go_loop [1, 5] (fun c i => ∃ k : Nat, k ≤ n ∧ i = .int .i64 k ∧ c = .int .i64 (k0 + k)) (fun _ i => n - (intOf i).toNat)
  case atStart => exact ⟨0, Nat.zero_le _, rfl, by simp⟩
  case round =>
    obtain ⟨k, hk, rfl, rfl⟩ := hrel
    by_cases hlt : k < n
    · obtain ⟨b1, o1, rfl, l1, c1⟩ := Row.at HA.out hlt
      have d1 := c1 k hlt
      clear c1
      go_wp2
      go_round
      case rel => exact ⟨k + 1, by omega, by go_num, by go_num⟩
      case measure => simp [intOf]; omega
    · obtain rfl : k = n := by omega
      go_wp2
      go_ret
      exact ⟨rfl, Below.refl _ _⟩

end Go.Proofs.Ytmjggolllijamaa
