/-
  WHAT THE PROGRAM's READER OF FRAMES ANSWERS.
-/
import Derived.Test.YtkhfcemjmnjkdaaINum
import Derived.Test.YtkhfcemjmnjkdaaAppAny
import Derived.Deep.RegionWith
namespace Go.Proofs.Ytkhfcemjmnjkdaa
open Go.RowKit
set_option linter.unusedVariables false

/-- The frame that n bytes are, its data lying at a. -/
def frameV (f : Nat → Int) (a : Option Addr) (m cd : Nat) : Value := .agg #[.int .i64 (f 1 / 4), .int .i64 (f 1 % 4), .int .i64 (get16F f 4), .int .i64 (f 8), .int .i64 (f 9), .int .i64 (get16F f 12 * 65536 + get16F f 14), .int .i64 (get16F f 16 * 65536 + get16F f 18), .int .i64 (get16F f 20), .int .i64 (get16F f 22), .slice a m cd]

theorem and_3u8 (x : Int) (h : 0 ≤ x ∧ x ≤ 255) : bits .and .u8 x 3 = x % 4 := bits_mask .u8 8 (by decide) wraps_u8 2 (by decide) x h.1 (by omega)

theorem ownNil (w : World) (H e : Nat) : w.ownsRow H e 1 (.slice none 0 0) 0 [] := ⟨rfl, .inl ⟨rfl, rfl⟩⟩

theorem iparse_bad (a : Option Addr) (n cap : Nat) (f : Nat → Int) (w : World) (hr : Row .u8 w a n f) (hf : Byt n f) (hn : n ≤ 1048576) (hcap : n ≤ cap) (hcode : codeF f n ≠ 0) :
    Calls Try.prog 8 #[.slice a n cap] w fun e w' => e = .returned (.tuple #[noFrame, .int .i64 (codeF f n)]) ∧ Below w.heap.size w w' := by
  have HR : Hid _ := hr
  have HF : Hid (Byt n f) := hf
  have h' : (codeF f n == 0) = false := by simpa using hcode
  clear hr hf
  go_enter Try.func8, Try.ntmps8
  go_wp2_with (go_at_call 20; refine (codeOf_any _ n cap f _ (Row.below HR.out (by go_grown)) HF.out (by omega) (by omega)).mono ?_; rintro e w' ⟨rfl, rfl⟩)
  exact bodyPost_ret (v := .tuple #[noFrame, .int .i64 (codeF f n)]) (by simp [results, Try.results8, go_sem, noFrame]) rfl ⟨rfl, by go_grown⟩

theorem rowTail {w : World} {b off n cap : Nat} {f : Nat → Int} (h : Row .u8 w (some ⟨b, off, none⟩) n f) (hn : 24 ≤ n) (hc : n ≤ cap) : Row .u8 w (if cap = 24 then some ⟨b, off, none⟩ else some ⟨b, off + 24, none⟩) (n - 24) (fun i => f (24 + i)) := by
  split
  · exact .inl (by omega)
  · exact h.from (by omega)
/-- What lies ahead of the row that grew is as it was. -/
theorem grown_rules0 {w w' : World} {H : Nat} (hg : w.grownBy w' none) (h1 : H < w.heap.size) : (∀ o, w'.cell? ⟨H, o, none⟩ = w.cell? ⟨H, o, none⟩) ∧ (∀ o, w'.frozen? ⟨H, o, none⟩ = w.frozen? ⟨H, o, none⟩) :=
  ⟨fun o => hg.cell_far ⟨H, o, none⟩ h1 (by simp), fun o => hg.frozen_far ⟨H, o, none⟩ h1 (by simp)⟩
theorem Own.drew {k : IntKind} {w : World} {B n : Nat} {f : Nat → Int} (h : Own k w B n f) : Own k w.drew B n f := h
theorem Fresh.far {L H : Nat} {w : World} {a : Option Addr} {n : Nat} {f : Nat → Int} (h : Fresh L w a n f) (o : Nat) (v : Value) (hne : H < L) : Fresh L (w.setCell ⟨H, o, none⟩ v) a n f := by
  rcases h with h | ⟨B, rfl, hB, ho⟩
  · exact .inl h
  · exact .inr ⟨B, rfl, hB, ho.far o v (by omega)⟩
theorem Fresh.drew {L : Nat} {w : World} {a : Option Addr} {n : Nat} {f : Nat → Int} (h : Fresh L w a n f) : Fresh L w.drew a n f := h

set_option maxHeartbeats 1000000 in
theorem iparse_good (a : Option Addr) (n cap : Nat) (f : Nat → Int) (w : World) (hr : Row .u8 w a n f) (hf : Byt n f) (hcap : n ≤ cap) (hL : (n : Int) ≤ 100) (h24 : 24 ≤ (n : Int)) (hcode : codeF f n = 0) :
    Calls Try.prog 8 #[.slice a n cap] w fun e w' => ∃ (d : Option Addr) (cd : Nat), e = .returned (.tuple #[frameV f d (n - 24) cd, .int .i64 0]) ∧ Fresh w.heap.size w' d (n - 24) (fun i => f (24 + i)) ∧ Below w.heap.size w w' := by
  have HF : Hid (Byt n f) := hf
  obtain ⟨b, off, rfl, hb, hc⟩ := Row.at hr (j := 0) (by omega)
  have HR : Hid (Row .u8 w (some ⟨b, off, none⟩) n f) := hr
  have HC : Hid _ := hc
  have f1 := hf 1 (by omega)
  have f8 := hf 8 (by omega)
  have f9 := hf 9 (by omega)
  have hne : w.heap.size ≠ b := World.new_ne w _ (hc 1 (by omega))
  have a3 := and_3u8 (f 1) f1
  clear hr hf hc
  go_enter Try.func8, Try.ntmps8
  go_upto_region 4 with (go_at_call 20; refine (codeOf_any _ n cap f _ (Row.below HR.out (by go_grown)) HF.out (by omega) (by omega)).mono ?_; rintro e w' ⟨rfl, rfl⟩)
  go_cut [5] from 13 (fun s wx => s = .pointer (some ⟨w.heap.size + 1, 0, none⟩) ∧ wx = ((w.alloc (.cells #[.int .i64 0, .int .i64 0, .int .i64 0, .int .i64 0, .int .i64 0, .int .i64 0, .int .i64 0, .int .i64 0, .int .i64 0, .slice none 0 0] 26)).alloc (.cells #[.int .i64 (f 1 / 4), .int .i64 (f 1 % 4), .int .i64 (numF f 4 2), .int .i64 (f 8), .int .i64 (f 9), .int .i64 (numF f 12 4), .int .i64 (numF f 16 4)] 24)).drew)
  case first =>
    have c1 := HC.out 1 (by omega)
    have c8 := HC.out 8 (by omega)
    have c9 := HC.out 9 (by omega)
    have i1 : (1 : Int) < (n : Int) := by omega
    have i8 : (8 : Int) < (n : Int) := by omega
    have i9 : (9 : Int) < (n : Int) := by omega
    have k6 : (6 : Int) ≤ (cap : Int) := by omega
    have k16 : (16 : Int) ≤ (cap : Int) := by omega
    have k20 : (20 : Int) ≤ (cap : Int) := by omega
    have j4 : ¬ cap = 4 := by omega
    have j12 : ¬ cap = 12 := by omega
    have j16 : ¬ cap = 16 := by omega
    go_region_held3 (fun w' => w'.cell? ⟨b, off + 1, none⟩ = some (.int .u8 (f 1)) ∧ w'.cell? ⟨b, off + 8, none⟩ = some (.int .u8 (f 8)) ∧ w'.cell? ⟨b, off + 9, none⟩ = some (.int .u8 (f 9))) (go_keep) (first | (go_at_call 21; refine (number_m b off n _ _ _ f _ (Row.below HR.out (by go_grown)) HF.out (by omega) (by omega)).mono ?_; rintro e w' ⟨rfl, rfl⟩))
    all_goals
      go_wp2_with fail
      go_meet
      case rel => exact ⟨rfl, by simp (disch := omega) only [IntWalk.i64_in]⟩
  case rest =>
    obtain ⟨rfl, rfl⟩ := hcut
    have i24 : (24 : Int) ≤ (n : Int) := by omega
    clear hcode
    go_upto_region 6 with (first | (at_builtin; refine wpList_append_any rfl _ _ rfl (w.heap.size + 1) _ rfl (ownNil _ _ _) _ (n - 24) (cap - 24) (fun i => f (24 + i)) rfl (rowTail (Row.below HR.out (by go_grown)) (by omega) (by omega)) (by omega) (by simp) ?_; intro d cd w1 hfr hgrow))
    replace hgrow : World.grownBy _ w1 none := hgrow
    generalize (if cap = 24 then some (⟨b, off, none⟩ : Addr) else some ⟨b, off + 24, none⟩) = ad24
    obtain ⟨hcf, hff⟩ := grown_rules0 (H := w.heap.size) hgrow (by simp <;> omega)
    obtain ⟨hcg, hfg⟩ := grown_rules0 (H := w.heap.size + 1) hgrow (by simp <;> omega)
    have hbel : Below w.heap.size w w1 := Below.grown (B := w.heap.size) (a := w) (by go_grown) hgrow (by simp; omega) (fun k e => by cases e)
    have p0 : w1.cell? ⟨w.heap.size + 1, 0, none⟩ = some (.int .i64 (f 1 / 4)) := (hcg 0).trans (by simp [go_sem])
    have p1 : w1.cell? ⟨w.heap.size + 1, 1, none⟩ = some (.int .i64 (f 1 % 4)) := (hcg 1).trans (by simp [go_sem])
    have p2 : w1.cell? ⟨w.heap.size + 1, 2, none⟩ = some (.int .i64 (numF f 4 2)) := (hcg 2).trans (by simp [go_sem])
    have p3 : w1.cell? ⟨w.heap.size + 1, 3, none⟩ = some (.int .i64 (f 8)) := (hcg 3).trans (by simp [go_sem])
    have p4 : w1.cell? ⟨w.heap.size + 1, 4, none⟩ = some (.int .i64 (f 9)) := (hcg 4).trans (by simp [go_sem])
    have p5 : w1.cell? ⟨w.heap.size + 1, 5, none⟩ = some (.int .i64 (numF f 12 4)) := (hcg 5).trans (by simp [go_sem])
    have p6 : w1.cell? ⟨w.heap.size + 1, 6, none⟩ = some (.int .i64 (numF f 16 4)) := (hcg 6).trans (by simp [go_sem])
    have z0 : w1.cell? ⟨w.heap.size, 0, none⟩ = some (.int .i64 0) := (hcf 0).trans (by simp [go_sem])
    have z1 : w1.cell? ⟨w.heap.size, 1, none⟩ = some (.int .i64 0) := (hcf 1).trans (by simp [go_sem])
    have z2 : w1.cell? ⟨w.heap.size, 2, none⟩ = some (.int .i64 0) := (hcf 2).trans (by simp [go_sem])
    have z3 : w1.cell? ⟨w.heap.size, 3, none⟩ = some (.int .i64 0) := (hcf 3).trans (by simp [go_sem])
    have z4 : w1.cell? ⟨w.heap.size, 4, none⟩ = some (.int .i64 0) := (hcf 4).trans (by simp [go_sem])
    have z5 : w1.cell? ⟨w.heap.size, 5, none⟩ = some (.int .i64 0) := (hcf 5).trans (by simp [go_sem])
    have z6 : w1.cell? ⟨w.heap.size, 6, none⟩ = some (.int .i64 0) := (hcf 6).trans (by simp [go_sem])
    have z7 : w1.cell? ⟨w.heap.size, 7, none⟩ = some (.int .i64 0) := (hcf 7).trans (by simp [go_sem])
    have z8 : w1.cell? ⟨w.heap.size, 8, none⟩ = some (.int .i64 0) := (hcf 8).trans (by simp [go_sem])
    have z9 : w1.cell? ⟨w.heap.size, 9, none⟩ = some (.slice none 0 0) := (hcf 9).trans (by simp [go_sem])
    have fz : ∀ o, w1.frozen? ⟨w.heap.size, o, none⟩ = false := fun o => (hff o).trans (by simp [go_sem])
    have k22 : (22 : Int) ≤ (cap : Int) := by omega
    have k24 : (24 : Int) ≤ (cap : Int) := by omega
    have j20 : ¬ cap = 20 := by omega
    have j22 : ¬ cap = 22 := by omega
    have HFR : Hid (Fresh (w.heap.size + 1) w1 d (n - 24) (fun i => f (24 + i))) := hfr
    clear hcf hff hcg hfg hgrow hfr
    go_region_held3 (fun w' => w'.cell? ⟨w.heap.size + 1, 0, none⟩ = some (.int .i64 (f 1 / 4)) ∧ w'.cell? ⟨w.heap.size + 1, 1, none⟩ = some (.int .i64 (f 1 % 4)) ∧ w'.cell? ⟨w.heap.size + 1, 2, none⟩ = some (.int .i64 (numF f 4 2)) ∧ w'.cell? ⟨w.heap.size + 1, 3, none⟩ = some (.int .i64 (f 8)) ∧ w'.cell? ⟨w.heap.size + 1, 4, none⟩ = some (.int .i64 (f 9)) ∧ w'.cell? ⟨w.heap.size + 1, 5, none⟩ = some (.int .i64 (numF f 12 4)) ∧ w'.cell? ⟨w.heap.size + 1, 6, none⟩ = some (.int .i64 (numF f 16 4))) (go_keep) (first | (go_at_call 21; refine (number_m b off n _ _ _ f _ (Row.below HR.out hbel.drew) HF.out (by omega) (by omega)).mono ?_; rintro e w' ⟨rfl, rfl⟩))
    all_goals
      go_wp2
      refine bodyPost_ret (v := .tuple #[frameV f d (n - 24) cd, .int .i64 0]) (by simp [results, Try.results8, go_sem, z0, z1, z2, z3, z4, z5, z6, z7, z8, z9, frameV, numF_2, numF_4]) rfl ⟨d, cd, rfl, ?_, ?_⟩
      · have h1 := HFR.out
        have h2 := h1.mono (H' := w.heap.size) (by omega)
        exact (((((((((((h1.far _ _ (by omega)).far _ _ (by omega)).far _ _ (by omega)).far _ _ (by omega)).far _ _ (by omega)).far _ _ (by omega)).far _ _ (by omega)).far _ _ (by omega)).far _ _ (by omega)).far _ _ (by omega)).drew).mono (by omega)
      · exact ((((((((((hbel.setCell (Nat.le_refl _) _).setCell (Nat.le_refl _) _).setCell (Nat.le_refl _) _).setCell (Nat.le_refl _) _).setCell (Nat.le_refl _) _).setCell (Nat.le_refl _) _).setCell (Nat.le_refl _) _).setCell (Nat.le_refl _) _).setCell (Nat.le_refl _) _).setCell (Nat.le_refl _) _).drew

end Go.Proofs.Ytkhfcemjmnjkdaa
