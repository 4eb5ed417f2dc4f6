/-
  A NUMBER OUT OF THE CODE: the laws' at.
-/
import Derived.Test.YtobdnhldodknaaaDoorBys
namespace Go.Proofs.YtobdnhldodknaaaDoor
open Go.RowKit
set_option linter.unusedVariables false

def atF (zf : Nat → Int) (len : Nat) (i : Nat) : Int := if len = 0 then 0 else zf (i % len)
theorem atF_bd {zf : Nat → Int} {len i : Nat} (h : ∀ j, j < len → 0 ≤ zf j ∧ zf j ≤ 255) : 0 ≤ atF zf len i ∧ atF zf len i ≤ 255 := by
  unfold atF
  split
  · omega
  · exact h _ (Nat.mod_lt _ (by omega))

theorem at_any (a : Option Addr) (len cap : Nat) (zf : Nat → Int) (i : Nat) (w : World) (hr : Row .u8 w a len zf) (hz : ∀ j, j < len → 0 ≤ zf j ∧ zf j ≤ 255) (hl : (len : Int) ≤ 9223372036854775807) (hi : (i : Int) ≤ 100) :
    Calls Tryd.prog 11 #[.slice a len cap, .int .i64 (i : Int)] w fun e w' => e = .returned (.int .i64 (atF zf len i)) ∧ w' = w := by
  by_cases h0 : len = 0
  · subst h0
    go_enter Tryd.func11, Tryd.ntmps11
    go_wp2
    go_ret
    exact ⟨by simp [atF], rfl⟩
  · have h0' : ((len : Int) == 0) = false := by simp; omega
    have hm : i % len < len := Nat.mod_lt _ (by omega)
    obtain ⟨b, off, rfl, hbl, hc⟩ := Row.at hr hm
    have c0 := hc _ hm
    have hb := hz _ hm
    have hrem : Int.tmod (i : Int) (len : Int) = ((i % len : Nat) : Int) := by rw [Int.tmod_eq_emod_of_nonneg (by omega)]; simp
    obtain ⟨m, hmm⟩ : ∃ m, i % len = m := ⟨_, rfl⟩
    have HE : Hid (zf m = atF zf len i) := by show _ = _; unfold atF; rw [if_neg h0, hmm]
    rw [hmm] at hm c0 hb hrem
    have hrem2 : (i : Int) % (len : Int) = (m : Int) := by rw [← hmm]; simp
    clear hmm hc hr hz
    go_enter Tryd.func11, Tryd.ntmps11
    go_wp2
    go_ret
    exact ⟨ret_int HE.out, rfl⟩

end Go.Proofs.YtobdnhldodknaaaDoor
