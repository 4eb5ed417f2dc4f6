/-
  WHEN THE LAST ONE CAME: l3last.
-/
import Derived.Test.YtkmiijgoinpndaaBentQ
namespace Go.Proofs.Ytkmiijgoinpndaa
open Go.RowKit
set_option linter.unusedVariables false

def lastF (g : Nat → Pk) (n : Nat) : Int := if n = 0 then 0 else (g (n - 1)).tm
theorem lastF_bd {g : Nat → Pk} {n : Nat} (h : ∀ j, j < n → (g j).small) : 0 ≤ lastF g n ∧ lastF g n ≤ 1000000000000 := by
  unfold lastF
  split
  · omega
  · have := (h (n - 1) (by omega)).2.1; omega

set_option maxHeartbeats 1000000 in
theorem l3last_any (a : Option Addr) (n cap : Nat) (g : Nat → Pk) (lim : Int) (w : World) (hn : n ≤ 1048576) (hP : PR w.heap.size w a n g) :
    Calls Try.prog 18 #[.agg #[.slice a n cap, .int .i64 lim]] w fun e w' => e = .returned (.int .i64 (lastF g n)) ∧ w' = w.alloc (.cells #[.slice a n cap, .int .i64 lim] 25) := by
  rcases (show n = 0 ∨ 0 < n by omega) with hz | hz
  · subst hz
    go_enter Try.func18, Try.ntmps18
    go_wp2
    go_ret
    exact ⟨rfl, rfl⟩
  · have hz' : ((n : Int) == 0) = false := by simp; omega
    obtain ⟨b, off, rfl, hbl, hcs⟩ := PR.at hP hz
    obtain ⟨m, hm⟩ : ∃ m, n - 1 = m := ⟨_, rfl⟩
    have q4 := (hcs m (by omega)).2.2.2.2.1
    clear hcs hP
    have hmi : (n : Int) - 1 = (m : Int) := by omega
    have hmw : IntKind.i64.wrap (m : Int) = (m : Int) := by rw [IntKind.wrap_i64]; omega
    have hml : (m : Int) < (n : Int) := by omega
    have HE : Hid ((g m).tm = lastF g n) := by show _ = _; unfold lastF; rw [if_neg (by omega), hm]
    have hne : ¬ w.heap.size = b := by omega
    clear hm
    go_enter Try.func18, Try.ntmps18
    go_wp2
    go_ret
    exact ⟨ret_int HE.out, rfl⟩

end Go.Proofs.Ytkmiijgoinpndaa
