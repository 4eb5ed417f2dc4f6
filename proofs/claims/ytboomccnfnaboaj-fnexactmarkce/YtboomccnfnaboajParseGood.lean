/-
  WHAT THE SPECIFICATION's READER OF FRAMES ANSWERS WHERE THE BYTES ARE A FRAME.
-/
import Derived.Test.YtboomccnfnaboajIParse
namespace Go.Proofs.Ytboomccnfnaboaj
open Go.RowKit
set_option linter.unusedVariables false

/-- Two bytes by their cells. -/
theorem get16_cells (b off n cap i : Nat) (x y : Int) (w : World) (hi : i + 1 < n) (hn : n ≤ 9223372036854775807) (hx : 0 ≤ x ∧ x ≤ 255) (hy : 0 ≤ y ∧ y ≤ 255) (c1 : w.cell? ⟨b, off + i, none⟩ = some (.int .u8 x)) (c2 : w.cell? ⟨b, off + (i + 1), none⟩ = some (.int .u8 y)) :
    Calls Try.prog 55 #[.slice (some ⟨b, off, none⟩) n cap, .int .i64 (i : Int)] w fun e w' => e = .returned (.int .i64 (x * 256 + y)) ∧ w' = w.drew := by
  have c2' : w.cell? ⟨b, off + i + 1, none⟩ = some (.int .u8 y) := c2
  go_enter Try.func55, Try.ntmps55
  go_wp2
  go_region
  go_wp2
  go_ret
  exact ⟨rfl, rfl⟩


theorem ownEmpty (w : World) (H : Nat) (hH : w.heap.size = H) : (w.alloc (.cells #[] 5)).ownsRow H 5 1 (.slice (some ⟨H, 0, none⟩) 0 0) 0 [] := by
  subst hH
  exact World.ownsRow_made w #[] 0 (Nat.le_refl _) (by unfold maxLen; omega) rfl
theorem newsOf {w w' : World} {b off n m : Nat} {f : Nat → Int} (hc : ∀ i, i < n → w.cell? ⟨b, off + i, none⟩ = some (.int .u8 (f i))) (hb : Below w.heap.size w w') (hlt : b < w.heap.size) (hm : 24 + m ≤ n) :
    ∀ j u, ((List.range m).map fun j => Value.int .u8 (f (24 + j)))[j]? = some u → w'.cell? ((⟨b, off + 24, none⟩ : Addr).add j) = some u := by
  intro j u hu
  by_cases hj : j < m
  · simp [hj] at hu
    subst hu
    have := (hb.cell (p := ⟨b, off + (24 + j), none⟩) hlt).trans (hc (24 + j) (by omega))
    rw [WideShapes.add_plain, Nat.add_assoc]
    exact this
  · simp [hj] at hu


/-- What lies ahead of the row that grew is as it was. -/
theorem grown_rules {w w' : World} {k H : Nat} (hg : w.grownBy w' (some k)) (h1 : H < w.heap.size) (h2 : H < k) : (∀ o, w'.cell? ⟨H, o, none⟩ = w.cell? ⟨H, o, none⟩) ∧ (∀ o, w'.frozen? ⟨H, o, none⟩ = w.frozen? ⟨H, o, none⟩) :=
  ⟨fun o => hg.cell_far ⟨H, o, none⟩ h1 (by simp; omega), fun o => hg.frozen_far ⟨H, o, none⟩ h1 (by simp; omega)⟩

set_option maxRecDepth 100000 in
set_option maxHeartbeats 2000000 in
theorem parse_good (a : Option Addr) (n cap : Nat) (f : Nat → Int) (w : World) (hr : Row .u8 w a n f) (hf : Byt n f) (hcap : n ≤ cap) (h : 24 < n) (hL : (n : Int) ≤ 100) (h0 : f 0 = 69) (h6 : get16F f 6 = 0) (h2 : get16F f 2 = n) (hs : sumF f 20 = 65535) (h10 : get16F f 10 ≠ 65535) :
    Calls Try.prog 34 #[.slice a n cap] w fun e w' => ∃ D cd : Nat, e = .returned (.tuple #[.agg #[.int .i64 (f 1 / 4), .int .i64 (f 1 % 4), .int .i64 (get16F f 4), .int .i64 (f 8), .int .i64 (f 9), .int .i64 (get16F f 12 * 65536 + get16F f 14), .int .i64 (get16F f 16 * 65536 + get16F f 18), .int .i64 (get16F f 20), .int .i64 (get16F f 22), .slice (some ⟨D, 0, none⟩) (n - 24) cd], .int .i64 0]) ∧ w.heap.size < D ∧ Own .u8 w' D (n - 24) (fun i => f (24 + i)) ∧ Below w.heap.size w w' := by
  have HF : Hid (Byt n f) := hf
  obtain ⟨b, off, rfl, hb, hc⟩ := Row.at hr (j := 0) (by omega)
  have HR : Hid (Row .u8 w (some ⟨b, off, none⟩) n f) := hr
  have HC : Hid _ := hc
  have g12 := get16F_bd f n 12 hf (by omega)
  have g14 := get16F_bd f n 14 hf (by omega)
  have g16 := get16F_bd f n 16 hf (by omega)
  have g18 := get16F_bd f n 18 hf (by omega)
  have f1 := hf 1 (by omega)
  have f4 := hf 4 (by omega)
  have f5 := hf 5 (by omega)
  have f8 := hf 8 (by omega)
  have f9 := hf 9 (by omega)
  have f20 := hf 20 (by omega)
  have f21 := hf 21 (by omega)
  have f22 := hf 22 (by omega)
  have f23 := hf 23 (by omega)
  have hne : w.heap.size ≠ b := World.new_ne w _ (hc 1 (by omega))
  clear hr hf hc
  go_enter Try.func34, Try.ntmps34
  have c0 : w.cell? ⟨b, off, none⟩ = some (.int .u8 (f 0)) := HC.out 0 (by omega)
  have h10' : (get16F f 10 == 65535) = false := by simpa using h10
  go_upto_region 9 with (first | (go_at_call 55; refine (get16_at _ n cap f _ _ (Row.below HR.out (by go_grown)) HF.out (by omega) (by omega) (by omega)).mono ?_; rintro e w' ⟨rfl, rfl⟩) | (go_at_call 56; refine (sum_any _ 20 _ f _ (Row.take (Row.below HR.out (by go_grown)) (by omega)) (fun i hi => HF.out i (by omega)) (by omega)).mono ?_; rintro e w' ⟨rfl, rfl⟩))
  go_cut [4] from 40 (fun s wx => s = .pointer (some ⟨w.heap.size + 1, 0, none⟩) ∧ wx = (((((((w.alloc (.cells #[.int .i64 0, .int .i64 0, .int .i64 0, .int .i64 0, .int .i64 0, .int .i64 0, .int .i64 0, .int .i64 0, .int .i64 0, .slice none 0 0] 42)).alloc (.cells #[.int .i64 (f 1 / 4), .int .i64 (f 1 % 4), .int .i64 (f 4 * 256 + f 5), .int .i64 (f 8), .int .i64 (f 9), .int .i64 0, .int .i64 0] 40)).drew).drew).drew).drew).drew))
  case first =>
    have c1 := HC.out 1 (by omega)
    have c4 := HC.out 4 (by omega)
    have c5 := HC.out 5 (by omega)
    have c8 := HC.out 8 (by omega)
    have c9 := HC.out 9 (by omega)
    have i1 : (1 : Int) < (n : Int) := by omega
    have i8 : (8 : Int) < (n : Int) := by omega
    have i9 : (9 : Int) < (n : Int) := by omega
    have a3 := and_3u8 (f 1) f1
    go_region_held3 (fun w' => w'.cell? ⟨b, off + 1, none⟩ = some (.int .u8 (f 1)) ∧ w'.cell? ⟨b, off + 4, none⟩ = some (.int .u8 (f 4)) ∧ w'.cell? ⟨b, off + 5, none⟩ = some (.int .u8 (f 5)) ∧ w'.cell? ⟨b, off + 8, none⟩ = some (.int .u8 (f 8)) ∧ w'.cell? ⟨b, off + 9, none⟩ = some (.int .u8 (f 9))) (go_keep) (first | (go_at_call 55; refine (get16_cells b off n cap 4 (f 4) (f 5) _ (by omega) (by omega) f4 f5 ?_ ?_).mono ?_; (simp [*]); (simp [*]); rintro e w' ⟨rfl, rfl⟩))
    all_goals
      go_wp2_with fail
      go_meet
      case rel => exact ⟨rfl, by simp (disch := omega) only [IntWalk.i64_in]⟩
  case rest =>
    obtain ⟨rfl, rfl⟩ := hcut
    clear h10' c0 h0 h6 h2 hs h10
    go_upto_region 12 with (first | (go_at_call 55; refine (get16_at _ n cap f _ _ (Row.below HR.out (by go_grown)) HF.out (by omega) (by omega) (by omega)).mono ?_; rintro e w' ⟨rfl, rfl⟩))
    obtain ⟨i0, hi0, hz0, hz1, hz2⟩ := info_parts infoU8
    have i24 : (24 : Int) ≤ (n : Int) := by omega
    have hone : ∀ u ∈ ((List.range (n - 24)).map fun j => Value.int .u8 (f (24 + j))), u.oneCell' = true := by
      intro u hu
      obtain ⟨j, _, rfl⟩ := List.mem_map.1 hu
      rfl
    go_region_held3 (fun w' => w'.cell? ⟨w.heap.size + 1, 0, none⟩ = some (.int .i64 (f 1 / 4)) ∧ w'.cell? ⟨w.heap.size + 1, 1, none⟩ = some (.int .i64 (f 1 % 4)) ∧ w'.cell? ⟨w.heap.size + 1, 2, none⟩ = some (.int .i64 (f 4 * 256 + f 5)) ∧ w'.cell? ⟨w.heap.size + 1, 3, none⟩ = some (.int .i64 (f 8)) ∧ w'.cell? ⟨w.heap.size + 1, 4, none⟩ = some (.int .i64 (f 9)) ∧ w'.cell? ⟨w.heap.size + 1, 5, none⟩ = some (.int .i64 (get16F f 12 * 65536 + get16F f 14)) ∧ w'.cell? ⟨w.heap.size + 1, 6, none⟩ = some (.int .i64 (get16F f 16 * 65536 + get16F f 18))) (first | go_keep | (go_split_ands; refine ⟨?_, ?_, ?_, ?_, ?_, ?_, ?_⟩ <;> (rw [hgrow.cell_far _ (by simp) (by simp [Value.ownBlock])]; assumption)))
      (first | (go_at_call 55; refine (get16_at _ n cap f _ _ (Row.below HR.out (by go_grown)) HF.out (by omega) (by omega) (by omega)).mono ?_; rintro e w' ⟨rfl, rfl⟩) | (refine step_append_lies _ (by rfl) _ _ _ (by rfl) (w.heap.size + 2) 5 i0 _ 1 1 Try.underlying22 hi0 hz0 hz1 hz2 rfl (by omega) (.slice (some ⟨w.heap.size + 2, 0, none⟩) 0 0) 0 [] (by rfl) (ownEmpty _ _ (by simp)) ⟨b, off + 24, none⟩ (n - 24) (cap - 24) ((List.range (n - 24)).map fun j => .int .u8 (f (24 + j))) (by rfl) (by simp) (newsOf HC.out (by go_grown) hb (by omega)) hone (by omega) (by unfold maxLen; omega) (by omega) (by simp) (w.heap.size + 3) (by simp) ?_; intro g cd w1 hown1 hgrow hat hlt; obtain ⟨hcf, hff⟩ := grown_rules (H := w.heap.size) hgrow (by simp; omega) (by simp)))
    all_goals
      go_wp2
      have hbel := Below.grown (B := w.heap.size) (a := w) (by go_grown) hgrow (by simp; omega) (fun k e => by simp [Value.ownBlock] at e; omega)
      have z0 : w1.cell? ⟨w.heap.size, 0, none⟩ = some (.int .i64 0) := (hcf 0).trans (by simp [go_sem])
      have z1 : w1.cell? ⟨w.heap.size, 1, none⟩ = some (.int .i64 0) := (hcf 1).trans (by simp [go_sem])
      have z2 : w1.cell? ⟨w.heap.size, 2, none⟩ = some (.int .i64 0) := (hcf 2).trans (by simp [go_sem])
      have z3 : w1.cell? ⟨w.heap.size, 3, none⟩ = some (.int .i64 0) := (hcf 3).trans (by simp [go_sem])
      have z4 : w1.cell? ⟨w.heap.size, 4, none⟩ = some (.int .i64 0) := (hcf 4).trans (by simp [go_sem])
      have z5 : w1.cell? ⟨w.heap.size, 5, none⟩ = some (.int .i64 0) := (hcf 5).trans (by simp [go_sem])
      have z6 : w1.cell? ⟨w.heap.size, 6, none⟩ = some (.int .i64 0) := (hcf 6).trans (by simp [go_sem])
      have z7 : w1.cell? ⟨w.heap.size, 7, none⟩ = some (.int .i64 0) := (hcf 7).trans (by simp [go_sem])
      have z8 : w1.cell? ⟨w.heap.size, 8, none⟩ = some (.int .i64 0) := (hcf 8).trans (by simp [go_sem])
      have z9 : w1.cell? ⟨w.heap.size, 9, none⟩ = some (.slice none 0 0) := (hcf 9).trans (by simp [go_sem])
      obtain ⟨hg1, hg2⟩ := own_of_row (f := fun i => f (24 + i)) (by simpa using hown1)
      refine bodyPost_ret (v := .tuple #[.agg #[.int .i64 (f 1 / 4), .int .i64 (f 1 % 4), .int .i64 (get16F f 4), .int .i64 (f 8), .int .i64 (f 9), .int .i64 (get16F f 12 * 65536 + get16F f 14), .int .i64 (get16F f 16 * 65536 + get16F f 18), .int .i64 (get16F f 20), .int .i64 (get16F f 22), .slice (some ⟨g, 0, none⟩) (n - 24) cd], .int .i64 0]) (by simp [results, Try.results34, go_sem, z0, z1, z2, z3, z4, z5, z6, z7, z8, z9, get16F]) rfl ⟨g, cd, rfl, by omega, ?_, ?_⟩
      · exact ((((((((((hg2.far _ _ (by omega)).far _ _ (by omega)).far _ _ (by omega)).far _ _ (by omega)).far _ _ (by omega)).far _ _ (by omega)).far _ _ (by omega)).far _ _ (by omega)).far _ _ (by omega)).far _ _ (by omega))
      · exact ((((((((((hbel.setCell (Nat.le_refl _) _).setCell (Nat.le_refl _) _).setCell (Nat.le_refl _) _).setCell (Nat.le_refl _) _).setCell (Nat.le_refl _) _).setCell (Nat.le_refl _) _).setCell (Nat.le_refl _) _).setCell (Nat.le_refl _) _).setCell (Nat.le_refl _) _).setCell (Nat.le_refl _) _)

end Go.Proofs.Ytboomccnfnaboaj
