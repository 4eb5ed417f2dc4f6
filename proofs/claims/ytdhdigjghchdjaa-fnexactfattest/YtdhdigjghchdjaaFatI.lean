/-
  THE FATTEST LINE, AS THE PROGRAM SAYS: Fattest.
-/
import Derived.Test.YtdhdigjghchdjaaFatV
import Derived.Test.YtdhdigjghchdjaaFairI3
namespace Go.Proofs.Ytdhdigjghchdjaa
open Go.RowKit
set_option linter.unusedVariables false

set_option maxHeartbeats 1000000 in
theorem ifattest_any (q lim : Int) (a : Option Addr) (N ca : Nat) (b : Option Addr) (nn cb : Nat) (c : Option Addr) (no cc : Nat) (L : Nat → Ln) (nw od : Nat → Int) (w : World)
    (hN : N ≤ 1048576) (hcn : cntF L N ≤ 1048576) (hnn : nn + no ≤ 1048576) (hP : LR w.heap.size w a N L) (hb : Row .i64 w b nn nw) (hc : Row .i64 w c no od) :
    Calls Try.prog 7 #[faVal q lim a N ca b nn cb c no cc] w fun e w' => e = .returned (.int .i64 (fatF q lim N L (lst nn nw no od))) ∧ Below w.heap.size w w' := by
  have HP : Hid (LR w.heap.size w a N L) := hP
  have HRB : Hid (Row .i64 w b nn nw) := hb
  have HRC : Hid (Row .i64 w c no od) := hc
  have HN : Hid (N ≤ 1048576) := hN
  have HCN : Hid (cntF L N ≤ 1048576) := hcn
  have HNN : Hid (nn + no ≤ 1048576) := hnn
  clear hP hb hc hN hcn hnn
  obtain ⟨W0, hW0⟩ : ∃ W, w.alloc (.cells (faCells q lim a N ca b nn cb c no cc) 30) = W := ⟨_, rfl⟩
  have s0 : Sits W0 w.heap.size (faCells q lim a N ca b nn cb c no cc) 30 := by rw [← hW0]; exact Sits.new _ _ _
  have b0 : Below w.heap.size w W0 := by rw [← hW0]; exact (Below.refl _ w).alloc (Nat.le_refl _) _
  have HW0 : Hid (w.alloc (.cells (faCells q lim a N ca b nn cb c no cc) 30) = W0) := hW0
  have HB0 : Hid (Below w.heap.size w W0) := b0
  have HS0 : Hid (Sits W0 w.heap.size (faCells q lim a N ca b nn cb c no cc) 30) := s0
  have x0 := s0.cell 0
  have x1 := s0.cell 1
  have x2 := s0.cell 2
  have x3 := s0.cell 3
  have x4 := s0.cell 4
  clear s0 b0 hW0
  cases hf : fairB q lim N L (lst nn nw no od)
  case false =>
    have HE : Hid (-1 = fatF q lim N L (lst nn nw no od)) := by show _ = _; unfold fatF; rw [hf]; rfl
    go_enter Try.func7, Try.ntmps7
    go_upto_region 1 with fail
    rw [HW0.out]
    go_wp2_with (go_at_call 15; refine (ifairOk_any q lim a N ca b nn cb c no cc L nw od _ HN.out HCN.out HNN.out (LR.go HP.out HB0.out (HB0.out).size) (Row.below HRB.out HB0.out) (Row.below HRC.out HB0.out)).mono ?_; rintro e w1 ⟨rfl, b1⟩; rw [hf])
    go_ret
    exact ⟨ret_int HE.out, (HB0.out).trans (b1.mono (HB0.out).size)⟩
  case true =>
    obtain ⟨hN16, hnn', hno', hL'⟩ : N = 16 ∧ nn ≤ 1048576 ∧ no ≤ 1048576 ∧ ∀ i, i < 16 → (L i).n ≤ 1048576 := by
      have hp : fairP q lim N L (lst nn nw no od) := by have h := hf; unfold fairB at h; simpa using h
      have hsz := sizes_of_fair hf
      obtain ⟨_, _, h16, _, _, _⟩ := hp
      have := HNN.out
      subst h16
      exact ⟨rfl, by omega, by omega, fun i hi => (hsz i hi).1⟩
    have HZ16 : Hid (sizesOk L 16) := hN16 ▸ sizes_of_fair hf
    have HSV : Hid (∀ V, Below w.heap.size w V → Calls Try.prog 16 #[.agg #[.int .i64 q, .int .i64 lim, .slice a N ca, .slice b nn cb, .slice c no cc]] V fun e w' => ∃ (B : Nat) (vs : Array Value) (X : Nat → Option Addr) (C : Nat → Nat), e = .returned (.pointer (some ⟨B, 0, none⟩)) ∧ Sits w' B vs 78 ∧ (∀ i, i < 16 → NV vs (2 + i * 9) (X i) (C i) (L i)) ∧ (∀ i, i < 16 → PR w'.heap.size w' (X i) (L i).n (L i).f) ∧ Below V.heap.size V w') := fun V hV => by
      have hP' := LR.go HP.out hV hV.size
      rw [hN16] at hP' ⊢
      exact iserviceOf_any q lim a ca b nn cb c no cc L nw od V hnn' hno' hL' hP' (Row.below HRB.out hV) (Row.below HRC.out hV)
    have HE : Hid ((fatS L 16).1 = fatF q lim N L (lst nn nw no od)) := by show _ = _; unfold fatF; rw [hf, hN16]; rfl
    clear hN16 hnn' hno' hL'
    go_enter Try.func7, Try.ntmps7
    go_upto_region 1 with fail
    rw [HW0.out]
    go_wp2_with (first | (go_at_call 15; refine (ifairOk_any q lim a N ca b nn cb c no cc L nw od _ HN.out HCN.out HNN.out (LR.go HP.out HB0.out (HB0.out).size) (Row.below HRB.out HB0.out) (Row.below HRC.out HB0.out)).mono ?_; rintro e w1 ⟨rfl, b1⟩; rw [hf]; have B1 := (HB0.out).trans (b1.mono (HB0.out).size); have s1 := Sits.below HS0.out b1 (Sits.lt HS0.out); have z0 := s1.cell 0; have z1 := s1.cell 1; have z2 := s1.cell 2; have z3 := s1.cell 3; have z4 := s1.cell 4; clear s1) | (go_at_call 16; refine ((HSV.out) _ B1).mono ?_; rintro e w2 ⟨B, vs, X, C, rfl, hS, hnv, hpr, b2⟩; have HS2 : Hid (Sits w2 B vs 78) := hS; have HNV : Hid (∀ i, i < 16 → NV vs (2 + i * 9) (X i) (C i) (L i)) := hnv; have HPR : Hid (∀ i, i < 16 → PR w2.heap.size w2 (X i) (L i).n (L i).f) := hpr; have B2 := B1.trans (b2.mono B1.size); clear hS hnv hpr) | (go_at_call 17; refine (lanesFattest_any B vs _ X C L _ HS2.out HNV.out HPR.out HZ16.out).mono ?_; rintro e w3 ⟨rfl, b3⟩))
    go_ret
    exact ⟨ret_int HE.out, B2.trans (b3.mono B2.size)⟩

end Go.Proofs.Ytdhdigjghchdjaa
