/-
  THE FATTEST LINE, AS THE SPECIFICATION SAYS: Fattest.
-/
import Derived.Test.YtdhdigjghchdjaaFatS
namespace Go.Proofs.Ytdhdigjghchdjaa
open Go.RowKit
set_option linter.unusedVariables false

set_option maxHeartbeats 1000000 in
theorem sfattest_any (q lim : Int) (a : Option Addr) (N ca : Nat) (b : Option Addr) (nn cb : Nat) (c : Option Addr) (no cc : Nat) (L : Nat → Ln) (nw od : Nat → Int) (w : World)
    (hN : N ≤ 1048576) (hcn : cntF L N ≤ 1048576) (hnn : nn + no ≤ 1048576) (hP : LR w.heap.size w a N L) (hb : Row .i64 w b nn nw) (hc : Row .i64 w c no od) :
    Calls Try.prog 5 #[faVal q lim a N ca b nn cb c no cc] w fun e w' => e = .returned (.int .i64 (fatF q lim N L (lst nn nw no od))) ∧ Below w.heap.size w w' := by
  have HP : Hid (LR w.heap.size w a N L) := hP
  have HRB : Hid (Row .i64 w b nn nw) := hb
  have HRC : Hid (Row .i64 w c no od) := hc
  have HN : Hid (N ≤ 1048576) := hN
  have HCN : Hid (cntF L N ≤ 1048576) := hcn
  have HNN : Hid (nn + no ≤ 1048576) := hnn
  clear hP hb hc hN hcn hnn
  obtain ⟨W0, hW0⟩ : ∃ W, w.alloc (.cells (faCells q lim a N ca b nn cb c no cc) 30) = W := ⟨_, rfl⟩
  have s0 : Sits W0 w.heap.size (faCells q lim a N ca b nn cb c no cc) 30 := by rw [← hW0]; exact Sits.new _ _ _
  have b0 : Below w.heap.size w W0 := by rw [← hW0]; exact (Below.refl _ w).alloc (Nat.le_refl _) _
  have HW0 : Hid (w.alloc (.cells (faCells q lim a N ca b nn cb c no cc) 30) = W0) := hW0
  have HB0 : Hid (Below w.heap.size w W0) := b0
  have HS0 : Hid (Sits W0 w.heap.size (faCells q lim a N ca b nn cb c no cc) 30) := s0
  have x0 := s0.cell 0
  have x1 := s0.cell 1
  have x2 := s0.cell 2
  have x3 := s0.cell 3
  have x4 := s0.cell 4
  clear s0 b0 hW0
  cases hf : fairB q lim N L (lst nn nw no od)
  case false =>
    have HE : Hid (-1 = fatF q lim N L (lst nn nw no od)) := by show _ = _; unfold fatF; rw [hf]; rfl
    go_enter Try.func5, Try.ntmps5
    go_upto_region 1 with fail
    rw [HW0.out]
    go_wp2_with (go_at_call 11; refine (sfairOk_any q lim a N ca b nn cb c no cc L nw od _ HN.out HCN.out HNN.out (LR.go HP.out HB0.out (HB0.out).size) (Row.below HRB.out HB0.out) (Row.below HRC.out HB0.out)).mono ?_; rintro e w1 ⟨rfl, b1⟩; rw [hf])
    go_ret
    exact ⟨ret_int HE.out, (HB0.out).trans (b1.mono (HB0.out).size)⟩
  case true =>
    have HSZ : Hid (sizesOk L N) := sizes_of_fair hf
    have HE : Hid ((fatS L N).1 = fatF q lim N L (lst nn nw no od)) := by show _ = _; unfold fatF; rw [hf]; rfl
    go_enter Try.func5, Try.ntmps5
    go_upto_region 1 with fail
    rw [HW0.out]
    go_wp2_with (first | (go_at_call 11; refine (sfairOk_any q lim a N ca b nn cb c no cc L nw od _ HN.out HCN.out HNN.out (LR.go HP.out HB0.out (HB0.out).size) (Row.below HRB.out HB0.out) (Row.below HRC.out HB0.out)).mono ?_; rintro e w1 ⟨rfl, b1⟩; rw [hf]; have B1 := (HB0.out).trans (b1.mono (HB0.out).size); have s1 := Sits.below HS0.out b1 (Sits.lt HS0.out); have z0 := s1.cell 0; have z1 := s1.cell 1; have z2 := s1.cell 2; have z3 := s1.cell 3; have z4 := s1.cell 4; clear s1) | (go_at_call 12; refine (l7fattest_any q lim a N ca b nn cb c no cc L _ HN.out HSZ.out (LR.go HP.out B1 B1.size)).mono ?_; rintro e w2 ⟨rfl, b2⟩))
    go_ret
    exact ⟨ret_int HE.out, B1.trans (b2.mono B1.size)⟩

end Go.Proofs.Ytdhdigjghchdjaa
