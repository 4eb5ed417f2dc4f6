/-
  LISTS OF NUMBERS AS THE LAWS HANDLE THEM: eqIntS, markIntS, heldIntS.
-/
import Derived.Test.YtdhdigjghchdjaaOfQ
namespace Go.Proofs.Ytdhdigjghchdjaa
open Go.RowKit
set_option linter.unusedVariables false

set_option maxHeartbeats 400000 in
theorem eqIntS_yes (a b : Option Addr) (n ca cb : Nat) (f : Nat → Int) (w : World) (ha : Row .i64 w a n f) (hb : Row .i64 w b n f) (hn : n ≤ 9223372036854775807) :
    Calls Try.prog 19 #[.slice a n ca, .slice b n cb] w fun e w' => e = .returned (.bool true) ∧ Below w.heap.size w w' := by
  have HA : Hid _ := ha
  have HB : Hid _ := hb
  clear ha hb
  go_enter Try.func19, Try.ntmps19
  go_wp2
  go_loopw [5] (fun i wr => ∃ k : Nat, k ≤ n ∧ i = .int .i64 k ∧ Kept w wr) (fun i _ => n - (intOf i).toNat)
  case atStart => exact ⟨0, Nat.zero_le _, rfl, Kept.refl _⟩
  case round =>
    obtain ⟨k, hk, rfl, hkept⟩ := hrel
    by_cases hlt : k < n
    · obtain ⟨b1, o1, rfl, l1, c1⟩ := Row.at HA.out hlt
      obtain ⟨b2, o2, rfl, l2, c2⟩ := Row.at HB.out hlt
      have d1 : wr.cell? ⟨b1, o1 + k, none⟩ = some (.int .i64 (f k)) := (hkept.1.cell (p := ⟨b1, o1 + k, none⟩) l1).trans (c1 k hlt)
      have d2 : wr.cell? ⟨b2, o2 + k, none⟩ = some (.int .i64 (f k)) := (hkept.1.cell (p := ⟨b2, o2 + k, none⟩) l2).trans (c2 k hlt)
      clear c1 c2
      go_wp2
      go_region
      go_wp2
      go_roundw
      case rel => exact ⟨k + 1, by omega, by go_num, hkept.drew'⟩
      case measure => simp [intOf]; omega
    · obtain rfl : k = n := by omega
      go_wp2
      go_ret
      exact ⟨rfl, hkept.1⟩

end Go.Proofs.Ytdhdigjghchdjaa
