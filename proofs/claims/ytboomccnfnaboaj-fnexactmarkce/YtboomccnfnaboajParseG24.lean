/-
  WHAT THE SPECIFICATION's READER OF FRAMES ANSWERS WHERE THE BYTES ARE A FRAME WITHOUT DATA, AND IN ALL.
-/
import Derived.Test.YtboomccnfnaboajParseGood
import Derived.Test.YtboomccnfnaboajIParse
namespace Go.Proofs.Ytboomccnfnaboaj
open Go.RowKit
set_option linter.unusedVariables false

set_option maxRecDepth 100000 in
set_option maxHeartbeats 2000000 in
theorem parse_good24 (a : Option Addr) (f : Nat → Int) (w : World) (hr : Row .u8 w a 24 f) (hf : Byt 24 f) (h0 : f 0 = 69) (h6 : get16F f 6 = 0) (h2 : get16F f 2 = 24) (hs : sumF f 20 = 65535) (h10 : get16F f 10 ≠ 65535) :
    Calls Try.prog 34 #[.slice a 24 24] w fun e w' => ∃ (d : Option Addr) (cd : Nat), e = .returned (.tuple #[frameV f d 0 cd, .int .i64 0]) ∧ Below w.heap.size w w' := by
  have HF : Hid (Byt 24 f) := hf
  obtain ⟨b, off, rfl, hb, hc⟩ := Row.at hr (j := 0) (by omega)
  have HR : Hid (Row .u8 w (some ⟨b, off, none⟩) 24 f) := hr
  have HC : Hid _ := hc
  have g12 := get16F_bd f 24 12 hf (by omega)
  have g14 := get16F_bd f 24 14 hf (by omega)
  have g16 := get16F_bd f 24 16 hf (by omega)
  have g18 := get16F_bd f 24 18 hf (by omega)
  have f1 := hf 1 (by omega)
  have f4 := hf 4 (by omega)
  have f5 := hf 5 (by omega)
  have f8 := hf 8 (by omega)
  have f9 := hf 9 (by omega)
  have f20 := hf 20 (by omega)
  have f21 := hf 21 (by omega)
  have f22 := hf 22 (by omega)
  have f23 := hf 23 (by omega)
  have hne : w.heap.size ≠ b := World.new_ne w _ (hc 1 (by omega))
  clear hr hf hc
  go_enter Try.func34, Try.ntmps34
  have c0 : w.cell? ⟨b, off, none⟩ = some (.int .u8 (f 0)) := HC.out 0 (by omega)
  have h10' : (get16F f 10 == 65535) = false := by simpa using h10
  go_upto_region 9 with (first | (go_at_call 55; refine (get16_at _ 24 24 f _ _ (Row.below HR.out (by go_grown)) HF.out (by omega) (by omega) (by omega)).mono ?_; rintro e w' ⟨rfl, rfl⟩) | (go_at_call 56; refine (sum_any _ 20 _ f _ (Row.take (Row.below HR.out (by go_grown)) (by omega)) (fun i hi => HF.out i (by omega)) (by omega)).mono ?_; rintro e w' ⟨rfl, rfl⟩))
  go_cut [4] from 40 (fun s wx => s = .pointer (some ⟨w.heap.size + 1, 0, none⟩) ∧ wx = (((((((w.alloc (.cells #[.int .i64 0, .int .i64 0, .int .i64 0, .int .i64 0, .int .i64 0, .int .i64 0, .int .i64 0, .int .i64 0, .int .i64 0, .slice none 0 0] 42)).alloc (.cells #[.int .i64 (f 1 / 4), .int .i64 (f 1 % 4), .int .i64 (f 4 * 256 + f 5), .int .i64 (f 8), .int .i64 (f 9), .int .i64 0, .int .i64 0] 40)).drew).drew).drew).drew).drew))
  case first =>
    have c1 := HC.out 1 (by omega)
    have c4 := HC.out 4 (by omega)
    have c5 := HC.out 5 (by omega)
    have c8 := HC.out 8 (by omega)
    have c9 := HC.out 9 (by omega)
    have a3 := and_3u8 (f 1) f1
    go_region_held3 (fun w' => w'.cell? ⟨b, off + 1, none⟩ = some (.int .u8 (f 1)) ∧ w'.cell? ⟨b, off + 4, none⟩ = some (.int .u8 (f 4)) ∧ w'.cell? ⟨b, off + 5, none⟩ = some (.int .u8 (f 5)) ∧ w'.cell? ⟨b, off + 8, none⟩ = some (.int .u8 (f 8)) ∧ w'.cell? ⟨b, off + 9, none⟩ = some (.int .u8 (f 9))) (go_keep) (first | (go_at_call 55; refine (get16_cells b off 24 24 4 (f 4) (f 5) _ (by omega) (by omega) f4 f5 ?_ ?_).mono ?_; (simp [*]); (simp [*]); rintro e w' ⟨rfl, rfl⟩))
    all_goals
      go_wp2_with fail
      go_meet
      case rel => exact ⟨rfl, by simp (disch := omega) only [IntWalk.i64_in]⟩
  case rest =>
    obtain ⟨rfl, rfl⟩ := hcut
    clear h10' c0 h0 h6 h2 hs h10
    go_upto_region 12 with (first | (go_at_call 55; refine (get16_at _ 24 24 f _ _ (Row.below HR.out (by go_grown)) HF.out (by omega) (by omega) (by omega)).mono ?_; rintro e w' ⟨rfl, rfl⟩))
    go_region_held3 (fun w' => w'.cell? ⟨w.heap.size + 1, 0, none⟩ = some (.int .i64 (f 1 / 4)) ∧ w'.cell? ⟨w.heap.size + 1, 1, none⟩ = some (.int .i64 (f 1 % 4)) ∧ w'.cell? ⟨w.heap.size + 1, 2, none⟩ = some (.int .i64 (f 4 * 256 + f 5)) ∧ w'.cell? ⟨w.heap.size + 1, 3, none⟩ = some (.int .i64 (f 8)) ∧ w'.cell? ⟨w.heap.size + 1, 4, none⟩ = some (.int .i64 (f 9)) ∧ w'.cell? ⟨w.heap.size + 1, 5, none⟩ = some (.int .i64 (get16F f 12 * 65536 + get16F f 14)) ∧ w'.cell? ⟨w.heap.size + 1, 6, none⟩ = some (.int .i64 (get16F f 16 * 65536 + get16F f 18))) (first | go_keep | (go_split_ands; refine ⟨?_, ?_, ?_, ?_, ?_, ?_, ?_⟩ <;> (rw [hgrow.cell_far _ (by simp) (by simp)]; assumption)))
      (first | (go_at_call 55; refine (get16_at _ 24 24 f _ _ (Row.below HR.out (by go_grown)) HF.out (by omega) (by omega) (by omega)).mono ?_; rintro e w' ⟨rfl, rfl⟩) | (refine step_append_any (by rfl) _ _ (by rfl) (w.heap.size + 2) (.slice (some ⟨w.heap.size + 2, 0, none⟩) 0 0) (by rfl) (ownEmpty _ _ (by simp)) _ 0 _ f (by rfl) (.inl rfl) (by omega) (by simp) ?_; intro d cd w1 hfr hgrow; replace hgrow : World.grownBy _ w1 (some (w.heap.size + 2)) := hgrow; obtain ⟨hcf, hff⟩ := grown_rules (H := w.heap.size) hgrow (by simp; omega) (by simp)))
    all_goals
      go_wp2
      have hbel := Below.grown (B := w.heap.size) (a := w) (by go_grown) hgrow (by simp; omega) (fun k e => by simp at e; omega)
      have z0 : w1.cell? ⟨w.heap.size, 0, none⟩ = some (.int .i64 0) := (hcf 0).trans (by simp [go_sem])
      have z1 : w1.cell? ⟨w.heap.size, 1, none⟩ = some (.int .i64 0) := (hcf 1).trans (by simp [go_sem])
      have z2 : w1.cell? ⟨w.heap.size, 2, none⟩ = some (.int .i64 0) := (hcf 2).trans (by simp [go_sem])
      have z3 : w1.cell? ⟨w.heap.size, 3, none⟩ = some (.int .i64 0) := (hcf 3).trans (by simp [go_sem])
      have z4 : w1.cell? ⟨w.heap.size, 4, none⟩ = some (.int .i64 0) := (hcf 4).trans (by simp [go_sem])
      have z5 : w1.cell? ⟨w.heap.size, 5, none⟩ = some (.int .i64 0) := (hcf 5).trans (by simp [go_sem])
      have z6 : w1.cell? ⟨w.heap.size, 6, none⟩ = some (.int .i64 0) := (hcf 6).trans (by simp [go_sem])
      have z7 : w1.cell? ⟨w.heap.size, 7, none⟩ = some (.int .i64 0) := (hcf 7).trans (by simp [go_sem])
      have z8 : w1.cell? ⟨w.heap.size, 8, none⟩ = some (.int .i64 0) := (hcf 8).trans (by simp [go_sem])
      have z9 : w1.cell? ⟨w.heap.size, 9, none⟩ = some (.slice none 0 0) := (hcf 9).trans (by simp [go_sem])
      refine bodyPost_ret (v := .tuple #[frameV f d 0 cd, .int .i64 0]) (by simp [results, Try.results34, go_sem, z0, z1, z2, z3, z4, z5, z6, z7, z8, z9, get16F, frameV]) rfl ⟨d, cd, rfl, ?_⟩
      exact ((((((((((hbel.setCell (Nat.le_refl _) _).setCell (Nat.le_refl _) _).setCell (Nat.le_refl _) _).setCell (Nat.le_refl _) _).setCell (Nat.le_refl _) _).setCell (Nat.le_refl _) _).setCell (Nat.le_refl _) _).setCell (Nat.le_refl _) _).setCell (Nat.le_refl _) _).setCell (Nat.le_refl _) _)

end Go.Proofs.Ytboomccnfnaboaj
