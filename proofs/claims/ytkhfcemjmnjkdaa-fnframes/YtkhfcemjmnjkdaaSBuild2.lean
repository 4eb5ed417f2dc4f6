/-
  Build OF BOTH SIDES, in one sentence each.
-/
import Derived.Test.YtkhfcemjmnjkdaaSBuild
import Derived.Test.YtkhfcemjmnjkdaaZone
namespace Go.Proofs.Ytkhfcemjmnjkdaa
open Go.RowKit
set_option linter.unusedVariables false

def blen (r : Fr) (n : Nat) : Nat := if r.good n = true then 24 + n else 0
theorem blen_bd (r : Fr) (n : Nat) : blen r n ≤ 100 := by
  unfold blen
  split
  · next h => have := (good_bd h).2.2.2.2.2.2.2.2.2; omega
  · omega
theorem BO.zn {base : Nat} {w : World} {x : Option Addr} {m cap : Nat} {f : Nat → Int} (h : BO base w x m cap f) : Zn base w.heap.size w x m f := by
  rcases h.fresh with h1 | ⟨g, rfl, hg, ho⟩
  · exact .inl h1
  · exact .inr ⟨g, rfl, hg, ho.1, ho⟩

set_option maxHeartbeats 1000000 in
theorem ibuild_any (r : Fr) (a : Option Addr) (n c : Nat) (g : Nat → Int) (w : World) (hr : r.In) (hn : (n : Int) ≤ 9223372036854775807) (hd : Row .u8 w a n g) :
    Calls Try.prog 5 #[r.val a n c] w fun e w' => ∃ (x : Option Addr) (cx : Nat), e = .returned (.tuple #[.slice x (blen r n) cx, .bool (r.good n)]) ∧ Zn w.heap.size w'.heap.size w' x (blen r n) (buildF r n g) ∧ Below w.heap.size w w' := by
  cases hg : r.good n
  case true =>
    refine (ibuild_yes r a n c g w hr hn hg hd).mono ?_
    rintro e w' ⟨x, cx, rfl, ho, hb⟩
    have hl : blen r n = 24 + n := by unfold blen; rw [if_pos hg]
    rw [hl]
    exact ⟨x, cx, rfl, ho.zn, hb⟩
  case false =>
    have hl : blen r n = 0 := by unfold blen; simp [hg]
    rw [hl]
    have HG : Hid (r.good n = false) := hg
    have HI : Hid r.In := hr
    clear hl hg hr hd
    obtain ⟨d, e, i, t, p, s, q, sp, dp⟩ := r
    go_enter Try.func5, Try.ntmps5
    go_wp2_with (go_at_call 7; refine (iframeOk_any ⟨d, e, i, t, p, s, q, sp, dp⟩ a n c _ HI.out hn).mono ?_; rintro o w1 ⟨rfl, b1⟩; rw [HG.out])
    go_ret2
    exact ⟨none, 0, rfl, .inl rfl, Below.trans (by go_grown) (b1.mono (by simp))⟩

end Go.Proofs.Ytkhfcemjmnjkdaa
