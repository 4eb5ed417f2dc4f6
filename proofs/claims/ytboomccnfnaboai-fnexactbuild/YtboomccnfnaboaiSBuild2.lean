/-
  Build OF BOTH SIDES, in one sentence each.
-/
import Derived.Test.YtboomccnfnaboaiSBuild
import Derived.Test.YtboomccnfnaboaiZone
namespace Go.Proofs.Ytboomccnfnaboai
open Go.RowKit
set_option linter.unusedVariables false

def blen (r : Fr) (n : Nat) : Nat := if r.good n = true then 24 + n else 0
theorem blen_bd (r : Fr) (n : Nat) : blen r n ≤ 100 := by
  unfold blen
  split
  · next h => have := (good_bd h).2.2.2.2.2.2.2.2.2; omega
  · omega
theorem BO.zn {base : Nat} {w : World} {x : Option Addr} {m cap : Nat} {f : Nat → Int} (h : BO base w x m cap f) : Zn base w.heap.size w x m f := by
  rcases h.fresh with h1 | ⟨g, rfl, hg, ho⟩
  · exact .inl h1
  · exact .inr ⟨g, rfl, hg, ho.1, ho⟩

set_option maxHeartbeats 1000000 in
theorem ibuild_any (r : Fr) (a : Option Addr) (n c : Nat) (g : Nat → Int) (w : World) (hr : r.In) (hn : (n : Int) ≤ 9223372036854775807) (hd : Row .u8 w a n g) :
    Calls Try.prog 23 #[r.val a n c] w fun e w' => ∃ (x : Option Addr) (cx : Nat), e = .returned (.tuple #[.slice x (blen r n) cx, .bool (r.good n)]) ∧ Zn w.heap.size w'.heap.size w' x (blen r n) (buildF r n g) ∧ Below w.heap.size w w' := by
  cases hg : r.good n
  case true =>
    refine (ibuild_yes r a n c g w hr hn hg hd).mono ?_
    rintro e w' ⟨x, cx, rfl, ho, hb⟩
    have hl : blen r n = 24 + n := by unfold blen; rw [if_pos hg]
    rw [hl]
    exact ⟨x, cx, rfl, ho.zn, hb⟩
  case false =>
    have hl : blen r n = 0 := by unfold blen; simp [hg]
    rw [hl]
    have HG : Hid (r.good n = false) := hg
    have HI : Hid r.In := hr
    clear hl hg hr hd
    obtain ⟨d, e, i, t, p, s, q, sp, dp⟩ := r
    go_enter Try.func23, Try.ntmps23
    go_wp2_with (go_at_call 20; refine (iframeOk_any ⟨d, e, i, t, p, s, q, sp, dp⟩ a n c _ HI.out hn).mono ?_; rintro o w1 ⟨rfl, b1⟩; rw [HG.out])
    go_ret2
    exact ⟨none, 0, rfl, .inl rfl, Below.trans (by go_grown) (b1.mono (by simp))⟩

set_option maxHeartbeats 1000000 in
theorem sbuild_any (r : Fr) (a : Option Addr) (n c : Nat) (g : Nat → Int) (w : World) (hr : r.In) (hn : (n : Int) ≤ 9223372036854775807) (hd : Row .u8 w a n g) :
    Calls Try.prog 22 #[r.val a n c] w fun e w' => ∃ (x : Option Addr) (cx : Nat), e = .returned (.tuple #[.slice x (blen r n) cx, .bool (r.good n)]) ∧ Zn w.heap.size w'.heap.size w' x (blen r n) (buildF r n g) ∧ Below w.heap.size w w' := by
  have HI : Hid r.In := hr
  have HD : Hid (Row .u8 w a n g) := hd
  cases hg : r.good n
  case true =>
    have hl : blen r n = 24 + n := by unfold blen; rw [if_pos hg]
    rw [hl]
    have HG : Hid (r.good n = true) := hg
    obtain ⟨bf, hbf⟩ : ∃ bf, buildF r n g = bf := ⟨_, rfl⟩
    have HF : Hid (buildF r n g = bf) := hbf
    rw [hbf]
    clear hl hg hr hd hbf
    obtain ⟨d, e, i, t, p, s, q, sp, dp⟩ := r
    obtain ⟨W, hW⟩ : ∃ W, w.alloc (.cells #[.int .i64 d, .int .i64 e, .int .i64 i, .int .i64 t, .int .i64 p, .int .i64 s, .int .i64 q, .int .i64 sp, .int .i64 dp, .slice a n c] 38) = W := ⟨_, rfl⟩
    have B : Below w.heap.size w W := by rw [← hW]; exact (Below.refl _ _).alloc (Nat.le_refl _) _
    have sF : Sits W w.heap.size #[.int .i64 d, .int .i64 e, .int .i64 i, .int .i64 t, .int .i64 p, .int .i64 s, .int .i64 q, .int .i64 sp, .int .i64 dp, .slice a n c] 38 := by rw [← hW]; exact Sits.new _ _ _
    obtain ⟨f0, f1, f2, f3, f4, f5, f6, f7, f8, f9⟩ := fr_cells sF
    go_enter Try.func22, Try.ntmps22
    go_wp2_with fail
    clear hW
    refine (sframeOk_any ⟨d, e, i, t, p, s, q, sp, dp⟩ a n c _ HI.out hn).mono ?_
    rintro o w1 ⟨rfl, b1⟩
    rw [HG.out]
    have s1 := sF.below b1 sF.lt
    replace B := B.trans (b1.mono B.size)
    clear f0 f1 f2 f3 f4 f5 f6 f7 f8 f9 sF b1
    obtain ⟨f0, f1, f2, f3, f4, f5, f6, f7, f8, f9⟩ := fr_cells s1
    go_wp2_with (go_at_call 41; refine (l2build_any ⟨d, e, i, t, p, s, q, sp, dp⟩ a n c g _ hn HG.out (Row.below HD.out B)).mono ?_; rintro o w2 ⟨x, cx, rfl, ho, b2⟩; rw [HF.out] at ho)
    go_ret2
    exact ⟨x, cx, rfl, (ho.mono B.size).zn, B.trans (b2.mono B.size)⟩
  case false =>
    have hl : blen r n = 0 := by unfold blen; simp [hg]
    rw [hl]
    have HG : Hid (r.good n = false) := hg
    clear hl hg hr hd
    obtain ⟨d, e, i, t, p, s, q, sp, dp⟩ := r
    go_enter Try.func22, Try.ntmps22
    go_wp2_with (go_at_call 18; refine (sframeOk_any ⟨d, e, i, t, p, s, q, sp, dp⟩ a n c _ HI.out hn).mono ?_; rintro o w1 ⟨rfl, b1⟩; rw [HG.out])
    go_ret2
    exact ⟨none, 0, rfl, .inl rfl, Below.trans (by go_grown) (b1.mono (by simp))⟩

end Go.Proofs.Ytboomccnfnaboai
