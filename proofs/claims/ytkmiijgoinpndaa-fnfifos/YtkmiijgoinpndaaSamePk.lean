/-
  THE LAWS' samePkts: two lists of the same packets are the same.
-/
import Derived.Test.YtkmiijgoinpndaaTold
import Derived.Test.YtkmiijgoinpndaaBys
namespace Go.Proofs.Ytkmiijgoinpndaa
open Go.RowKit
set_option linter.unusedVariables false

set_option maxHeartbeats 1000000 in
theorem samePkts_yes (a b : Option Addr) (n ca cb : Nat) (f g : Nat → Pk) (w : World) (hn : n ≤ 1048576) (ha : PR w.heap.size w a n f) (hb : PR w.heap.size w b n g) (hfg : ∀ i, i < n → f i = g i) :
    Calls Try.prog 9 #[.slice a n ca, .slice b n cb] w fun e w' => e = .returned (.bool true) ∧ Kept w w' ∧ w'.heap = w.heap := by
  have HA : Hid (PR w.heap.size w a n f) := ha
  have HB : Hid (PR w.heap.size w b n g) := hb
  have HF : Hid (∀ i, i < n → f i = g i) := hfg
  clear ha hb hfg
  go_enter Try.func9, Try.ntmps9
  go_wp2
  go_loopw [5] (fun i wr => ∃ k : Nat, k ≤ n ∧ i = .int .i64 k ∧ Kept w wr ∧ wr.heap = w.heap) (fun i _ => n - (intOf i).toNat)
  case atStart => exact ⟨0, Nat.zero_le _, rfl, Kept.refl _, rfl⟩
  case round =>
    obtain ⟨k, hk, rfl, hkept, hhp⟩ := hrel
    by_cases hlt : k < n
    · obtain ⟨b1, o1, rfl, l1, h1⟩ := PR.at HA.out hlt
      obtain ⟨b2, o2, rfl, l2, h2⟩ := PR.at HB.out hlt
      obtain ⟨c0, c1, c2, c3, c4, c5⟩ := (h1 k hlt).below hkept.1 l1
      obtain ⟨d0, d1, d2, d3, d4, d5⟩ := (h2 k hlt).below hkept.1 l2
      rw [← HF.out k hlt] at d0 d1 d2 d3 d4 d5
      clear h1 h2
      go_wp2
      go_region
      go_wp2
      go_roundw
      case rel => exact ⟨k + 1, by omega, by go_num, hkept.drew', hhp⟩
      case measure => simp [intOf]; omega
    · obtain rfl : k = n := by omega
      go_wp2
      go_ret
      exact ⟨rfl, hkept, hhp⟩

end Go.Proofs.Ytkmiijgoinpndaa
