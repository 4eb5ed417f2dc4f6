/-
  THE SPECIFICATION's l2mark.
-/
import Derived.Test.YtboomccnfnaboajMark0
import Derived.Test.YtboomccnfnaboajAppByS
namespace Go.Proofs.Ytboomccnfnaboaj
open Go.RowKit
set_option linter.unusedVariables false

theorem or3_all : ∀ k : Fin 256, bits .or .u8 ((k.1 : Nat) : Int) 3 = or3 ((k.1 : Nat) : Int) := by decide +kernel
theorem or_3u8 (x : Int) (h : 0 ≤ x ∧ x ≤ 255) : bits .or .u8 x 3 = or3 x := by
  obtain ⟨k, rfl⟩ := Int.eq_ofNat_of_zero_le h.1
  exact or3_all ⟨k, by omega⟩
theorem by_empty (w : World) (base : Nat) (hb : base ≤ w.heap.size) (f : Nat → Int) : BO base (w.alloc (.cells #[] 5)) (some ⟨w.heap.size, 0, none⟩) 0 0 f :=
  ⟨by simp [byL], .inr ⟨w.heap.size, 0, #[], rfl, hb, Sits.new _ _ _, Nat.le_refl _, by unfold maxLen; omega, by simp, by simp [byL]⟩⟩

set_option maxRecDepth 100000 in
set_option maxHeartbeats 2000000 in
theorem l2mark_any (a : Option Addr) (n : Nat) (f : Nat → Int) (w : World) (hr : Row .u8 w a n f) (hf : Byt n f) (h24 : 24 ≤ n) (h100 : n ≤ 100) :
    Calls Try.prog 36 #[.slice a n n] w fun e w' => ∃ (x : Option Addr) (c : Nat), e = .returned (.slice x n c) ∧ BO w.heap.size w' x n c (markF f) ∧ Below w.heap.size w w' := by
  have HR : Hid (Row .u8 w a n f) := hr
  have HF : Hid (Byt n f) := hf
  have c0 := get16F_bd f n 0 hf (by omega)
  have c10 := get16F_bd f n 10 hf (by omega)
  have b0 := hf 0 (by omega)
  have b1 := hf 1 (by omega)
  have hor := or_3u8 (f 1) b1
  have bo : 0 ≤ or3 (f 1) ∧ or3 (f 1) ≤ 255 := by unfold or3; omega
  clear hr hf
  go_enter Try.func36, Try.ntmps36
  go_wp2_with (at_builtin; refine wpList_append_byN rfl _ _ rfl w.heap.size (some ⟨w.heap.size, 0, none⟩) 0 0 f rfl (by_empty w _ (Nat.le_refl _) f) a n n f rfl (Row.below HR.out ((Below.refl _ _).alloc (Nat.le_refl _) _)) (by omega) (by simp) ?_; intro x c w1 hbo hgr; rw [Nat.zero_add] at hbo ⊢)
  have B : Below w.heap.size w w1 := ((Below.refl _ _).alloc (Nat.le_refl _) _).trans ((Below.refl w.heap.size _).grown hgr (by simp) (fun k ek => by simp [Value.ownBlock] at ek; omega))
  replace hbo : BO w.heap.size w1 x n c f := hbo.congr fun i hi => by unfold joinF; rw [if_neg (by omega), Nat.sub_zero]
  clear hgr
  refine (get16_at a n n f 0 w1 (Row.below HR.out B) HF.out (by omega) (by omega) (by omega)).mono ?_
  rintro e w2 ⟨rfl, rfl⟩
  obtain ⟨g, rfl, hg, lg, hcell⟩ := hbo.at (by omega)
  obtain ⟨k1, z1⟩ := hcell 1 (by omega)
  have OX : Hid (BO w.heap.size w1 (some ⟨g, 0, none⟩) n c f) := hbo
  have iN : (1 : Int) < (n : Int) := by omega
  have iM : (10 : Int) < (n : Int) := by omega
  have iO : (11 : Int) < (n : Int) := by omega
  clear hbo hcell
  go_wp2_with fail
  obtain ⟨Z, hZ⟩ : ∃ Z, (w1.setCell ⟨g, 1, none⟩ (.int .u8 (or3 (f 1)))).drew = Z := ⟨_, rfl⟩
  have oz : BO w.heap.size Z (some ⟨g, 0, none⟩) n c (fun i => if i = 1 then or3 (f 1) else f i) := by rw [← hZ]; exact (BO.set OX.out 1 (by omega) _).drew
  have bz : Below w.heap.size w Z := by rw [← hZ]; exact (B.setCell hg _).drew
  rw [hZ]
  have zf : Byt n (fun i => if i = 1 then or3 (f 1) else f i) := by
    intro i hi
    dsimp only
    split
    · exact bo
    · exact HF.out i hi
  refine (get16_at a n n f 10 Z (Row.below HR.out bz) HF.out (by omega) (by omega) (by omega)).mono ?_
  rintro e w3 ⟨rfl, rfl⟩
  have OZ : Hid (BO w.heap.size Z (some ⟨g, 0, none⟩) n c (fun i => if i = 1 then or3 (f 1) else f i)) := oz
  have c10' : 0 ≤ get16F f 10 ∧ get16F f 10 ≤ 65535 := c10
  have lz := bz.size
  clear hZ oz OX k1 z1 B
  go_wp2_with fail
  refine (get16_at (some ⟨g, 0, none⟩) n c (fun i => if i = 1 then or3 (f 1) else f i) 0 Z.drew (BO.fresh (BO.drew OZ.out)).row zf (by omega) (by omega) (by omega)).mono ?_
  rintro e w4 ⟨rfl, rfl⟩
  have e0 : get16F (fun i => if i = 1 then or3 (f 1) else f i) (0 : Int).toNat = f 0 * 256 + or3 (f 1) := by simp [get16F]
  rw [e0]
  clear e0
  obtain ⟨M, hM⟩ : ∃ M, 65535 - get16F f 10 + 65535 - get16F f 0 + (f 0 * 256 + or3 (f 1)) = M := ⟨_, rfl⟩
  have hM0 : 0 ≤ M ∧ M ≤ 1000000 := by omega
  obtain ⟨S, hS⟩ : ∃ S, 65535 - foldF M = S := ⟨_, rfl⟩
  have hfb := foldF_bd M hM0.1
  have HS : Hid (msumF f = S) := by show _ = _; unfold msumF; rw [hM, hS]
  obtain ⟨g', hg', hgb, lgb, hcell⟩ := BO.at OZ.out (show 0 < n by omega)
  obtain rfl : g' = g := by simpa using hg'.symm
  have k10 : Z.cell? ⟨g', 10, none⟩ = some (.int .u8 (f 10)) := (hcell 10 (by omega)).1
  have z10 := (hcell 10 (by omega)).2
  have k11 : Z.cell? ⟨g', 11, none⟩ = some (.int .u8 (f 11)) := (hcell 11 (by omega)).1
  have z11 := (hcell 11 (by omega)).2
  clear hcell hg'
  have wrap8 := u8_wrap
  go_wp2_with (go_at_call 59; refine (fold_any M _ hM0.1 (by omega)).mono ?_; rintro e w5 ⟨rfl, rfl⟩)
  go_ret
  refine ⟨_, _, rfl, ?_, ?_⟩
  · refine (BO.congr (((BO.set OZ.out 10 (by omega) (S / 256 % 256)).set 11 (by omega) (S % 256))) fun i hi => ?_)
    simp only [markF, HS.out]
  · exact (bz.setCell hgb _).setCell hgb _ |>.drew.drew

end Go.Proofs.Ytboomccnfnaboaj
