/-
  WHICH TRACES ARE WELL: l12traceOk of the specification.
-/
import Derived.Test.YtcfkmkkgeoaaeaaDoorTrace
import Derived.Deep.QuietTactic
import Derived.BigQuiet
namespace Go.Proofs.YtcfkmkkgeoaaeaaDoor
open Go.RowKit
set_option linter.unusedVariables false

/-- A packet that went out, and its time. -/
def atT (T : Tr) (j : Nat) : Prop := (T.o j).good = true ∧ (T.o j).tm ≤ T.t j ∧ T.t j ≤ 1000000000000
instance (T : Tr) (j : Nat) : Decidable (atT T j) := by unfold atT; infer_instance
def trP (T : Tr) : Prop := T.nt = T.no ∧ T.no ≤ 120 ∧ T.nd ≤ 120 ∧ (∀ j, j < T.no → atT T j) ∧ ∀ j, j < T.nd → (T.d j).good = true
instance (T : Tr) : Decidable (trP T) := by unfold trP; infer_instance
def trB (T : Tr) : Bool := decide (trP T)
theorem tr_no {T : Tr} (h : ¬ trP T) : Hid (trB T = false) := by show _ = _; exact decide_eq_false h

set_option maxRecDepth 100000 in
set_option maxHeartbeats 4000000 in
theorem straceOk_any (T : Tr) (A : Ta) (w : World) (hA : TrAt w T A) :
    Calls Tryd.prog 15 #[T.val A] w fun e w' => e = .returned (.bool (trB T)) ∧ Below w.heap.size w w' := by
  have HA : Hid (TrAt w T A) := hA
  clear hA
  have b0 : Below w.heap.size w (w.alloc (.cells (trCells T A) 31)) := (Below.refl _ w).alloc (Nat.le_refl _) _
  have s0 := Sits.new w (trCells T A) 31
  have HB0 : Hid (Below w.heap.size w (w.alloc (.cells (trCells T A) 31))) := b0
  have HS0 : Hid (Sits (w.alloc (.cells (trCells T A) 31)) w.heap.size (trCells T A) 31) := s0
  clear b0 s0
  by_cases h1 : (T.nt : Int) = (T.no : Int)
  case neg =>
    have HN := tr_no (T := T) (fun h => h1 (by rw [h.1]))
    have h1' : ((T.nt : Int) == (T.no : Int)) = false := by simpa using h1
    go_enter Tryd.func15, Tryd.ntmps15
    go_wp2
    go_ret
    exact ⟨ret_bool HN.out.symm, HB0.out⟩
  case pos =>
  have h1' : ((T.nt : Int) == (T.no : Int)) = true := by simpa using h1
  by_cases h2 : 120 < (T.no : Int)
  · have HN := tr_no (T := T) (fun h => by have := h.2.1; omega)
    go_enter Tryd.func15, Tryd.ntmps15
    go_wp2
    go_ret
    exact ⟨ret_bool HN.out.symm, HB0.out⟩
  have h2' : decide (120 < (T.no : Int)) = false := by simpa using h2
  by_cases h3 : 120 < (T.nd : Int)
  · have HN := tr_no (T := T) (fun h => by have := h.2.2.1; omega)
    go_enter Tryd.func15, Tryd.ntmps15
    go_wp2
    go_ret
    exact ⟨ret_bool HN.out.symm, HB0.out⟩
  have h3' : decide (120 < (T.nd : Int)) = false := by simpa using h3
  have HH : Hid (T.nt = T.no ∧ T.no ≤ 120 ∧ T.nd ≤ 120) := ⟨by omega, by omega, by omega⟩
  have hto : T.nt = T.no := by omega
  have HTO : Hid (T.nt = T.no) := hto
  clear hto
  go_enter Tryd.func15, Tryd.ntmps15
  go_wp2
  clear h1 h1' h2 h2' h3 h3'
  go_loopw [3] (fun i wr => ∃ k : Nat, k ≤ T.no ∧ i = .int .i64 k ∧ (∀ j, j < k → atT T j) ∧ Below w.heap.size w wr ∧ Sits wr w.heap.size (trCells T A) 31) (fun i _ => T.no - (intOf i).toNat)
  case atStart => exact ⟨0, Nat.zero_le _, rfl, fun j hj => absurd hj (Nat.not_lt_zero _), HB0.out, HS0.out⟩
  case round =>
    obtain ⟨k, hk, rfl, hall, hB, hS⟩ := hrel
    have HAL : Hid (∀ j, j < k → atT T j) := hall
    have HB : Hid (Below w.heap.size w wr) := hB
    have HS : Hid (Sits wr w.heap.size (trCells T A) 31) := hS
    have hsz := hB.size
    have hsl := hS.lt
    obtain ⟨x0, x1, x2, x3, x4, x5⟩ := tr_cells hS
    clear hall HB0 HS0
    have hkb : (k : Int) ≤ 120 := by have := (HH.out).2.1; omega
    by_cases hlt : k < T.no
    · have hlt2 : k < T.nt := by rw [HTO.out]; exact hlt
      obtain ⟨b, off, hbe, hbl, hcs⟩ := PR.at (HA.out).o hlt
      obtain ⟨b2, o2, hbe2, hbl2, hcs2⟩ := Row.at (HA.out).t hlt2
      obtain ⟨c0, c1, c2, c3, c4, c5⟩ := (hcs k hlt).below hB hbl
      have ct : wr.cell? ⟨b2, o2 + k, none⟩ = some (.int .i64 (T.t k)) := (hB.cell (p := ⟨b2, o2 + k, none⟩) hbl2).trans (hcs2 k hlt2)
      rw [hbe] at x1
      rw [hbe2] at x4
      clear hcs hcs2 hB hS hbe hbe2
      cases hg : (T.o k).good
      case false =>
        have HN := tr_no (T := T) (fun h => by have := (h.2.2.2.1 k hlt).1; rw [hg] at this; cases this)
        have HG : Hid ((T.o k).good = false) := hg
        clear hg
        go_wp2
        refine wp_region_quiet (C := fun w' => Below wr.heap.size wr w') (by kernel_rfl) (by kernel_rfl) ((Below.refl _ _).drew) ?_
        simp only []
        repeat (first
          | go_big_quiet_skip
          | (go_big_quiet_want
             unfold Oper.quiet
             apply Exists.intro
             refine ⟨fun w' hw' => ?_, ?_⟩
             (have z1 := (hw'.cell (p := ⟨w.heap.size, 1, none⟩) hsl).trans x1
              have z4 := (hw'.cell (p := ⟨w.heap.size, 4, none⟩) hsl).trans x4
              have y0 := (hw'.cell (p := ⟨b, off + k * 6, none⟩) (by show b < _; omega)).trans c0
              have y1 := (hw'.cell (p := ⟨b, off + k * 6 + 1, none⟩) (by show b < _; omega)).trans c1
              have y2 := (hw'.cell (p := ⟨b, off + k * 6 + 2, none⟩) (by show b < _; omega)).trans c2
              have y3 := (hw'.cell (p := ⟨b, off + k * 6 + 3, none⟩) (by show b < _; omega)).trans c3
              have y4 := (hw'.cell (p := ⟨b, off + k * 6 + 4, none⟩) (by show b < _; omega)).trans c4
              have y5 := (hw'.cell (p := ⟨b, off + k * 6 + 5, none⟩) (by show b < _; omega)).trans c5
              have yt := (hw'.cell (p := ⟨b2, o2 + k, none⟩) (by show b2 < _; omega)).trans ct
              go_simp
              first
                | (go_at_call 26; refine (spktOk_any (T.o k) _).mono ?_; rintro e w1 ⟨rfl, hk1⟩; exact ⟨by rw [HG.out], hw'.trans (hk1.1.mono hw'.size)⟩)
                | exact rfl)
             simp only [Act.put, List.setIfInBounds_toArray, List.set_cons_zero, List.set_cons_succ]
             go_big_quiet_on))
        refine wpQuiet_nil ?_
        intro w2 hw2
        go_wp2
        go_ret
        exact ⟨ret_bool HN.out.symm, (HB.out).trans (hw2.mono hsz)⟩
      case true =>
      have HG : Hid ((T.o k).good = true) := hg
      by_cases g1 : T.t k < (T.o k).tm
      · have HN := tr_no (T := T) (fun h => by have := (h.2.2.2.1 k hlt).2.1; omega)
        clear hg
        go_wp2
        refine wp_region_quiet (C := fun w' => Below wr.heap.size wr w') (by kernel_rfl) (by kernel_rfl) ((Below.refl _ _).drew) ?_
        simp only []
        repeat (first
          | go_big_quiet_skip
          | (go_big_quiet_want
             unfold Oper.quiet
             apply Exists.intro
             refine ⟨fun w' hw' => ?_, ?_⟩
             (have z1 := (hw'.cell (p := ⟨w.heap.size, 1, none⟩) hsl).trans x1
              have z4 := (hw'.cell (p := ⟨w.heap.size, 4, none⟩) hsl).trans x4
              have y0 := (hw'.cell (p := ⟨b, off + k * 6, none⟩) (by show b < _; omega)).trans c0
              have y1 := (hw'.cell (p := ⟨b, off + k * 6 + 1, none⟩) (by show b < _; omega)).trans c1
              have y2 := (hw'.cell (p := ⟨b, off + k * 6 + 2, none⟩) (by show b < _; omega)).trans c2
              have y3 := (hw'.cell (p := ⟨b, off + k * 6 + 3, none⟩) (by show b < _; omega)).trans c3
              have y4 := (hw'.cell (p := ⟨b, off + k * 6 + 4, none⟩) (by show b < _; omega)).trans c4
              have y5 := (hw'.cell (p := ⟨b, off + k * 6 + 5, none⟩) (by show b < _; omega)).trans c5
              have yt := (hw'.cell (p := ⟨b2, o2 + k, none⟩) (by show b2 < _; omega)).trans ct
              go_simp
              first
                | (go_at_call 26; refine (spktOk_any (T.o k) _).mono ?_; rintro e w1 ⟨rfl, hk1⟩; exact ⟨by rw [HG.out], hw'.trans (hk1.1.mono hw'.size)⟩)
                | exact rfl)
             simp only [Act.put, List.setIfInBounds_toArray, List.set_cons_zero, List.set_cons_succ]
             go_big_quiet_on))
        refine wpQuiet_nil ?_
        intro w2 hw2
        go_wp2
        go_ret
        exact ⟨ret_bool HN.out.symm, (HB.out).trans (hw2.mono hsz)⟩
      have g1' : decide (T.t k < (T.o k).tm) = false := by simpa using g1
      by_cases g2 : 1000000000000 < T.t k
      · have HN := tr_no (T := T) (fun h => by have := (h.2.2.2.1 k hlt).2.2; omega)
        clear hg
        go_wp2
        refine wp_region_quiet (C := fun w' => Below wr.heap.size wr w') (by kernel_rfl) (by kernel_rfl) ((Below.refl _ _).drew) ?_
        simp only []
        repeat (first
          | go_big_quiet_skip
          | (go_big_quiet_want
             unfold Oper.quiet
             apply Exists.intro
             refine ⟨fun w' hw' => ?_, ?_⟩
             (have z1 := (hw'.cell (p := ⟨w.heap.size, 1, none⟩) hsl).trans x1
              have z4 := (hw'.cell (p := ⟨w.heap.size, 4, none⟩) hsl).trans x4
              have y0 := (hw'.cell (p := ⟨b, off + k * 6, none⟩) (by show b < _; omega)).trans c0
              have y1 := (hw'.cell (p := ⟨b, off + k * 6 + 1, none⟩) (by show b < _; omega)).trans c1
              have y2 := (hw'.cell (p := ⟨b, off + k * 6 + 2, none⟩) (by show b < _; omega)).trans c2
              have y3 := (hw'.cell (p := ⟨b, off + k * 6 + 3, none⟩) (by show b < _; omega)).trans c3
              have y4 := (hw'.cell (p := ⟨b, off + k * 6 + 4, none⟩) (by show b < _; omega)).trans c4
              have y5 := (hw'.cell (p := ⟨b, off + k * 6 + 5, none⟩) (by show b < _; omega)).trans c5
              have yt := (hw'.cell (p := ⟨b2, o2 + k, none⟩) (by show b2 < _; omega)).trans ct
              go_simp
              first
                | (go_at_call 26; refine (spktOk_any (T.o k) _).mono ?_; rintro e w1 ⟨rfl, hk1⟩; exact ⟨by rw [HG.out], hw'.trans (hk1.1.mono hw'.size)⟩)
                | exact rfl)
             simp only [Act.put, List.setIfInBounds_toArray, List.set_cons_zero, List.set_cons_succ]
             go_big_quiet_on))
        refine wpQuiet_nil ?_
        intro w2 hw2
        go_wp2
        go_ret
        exact ⟨ret_bool HN.out.symm, (HB.out).trans (hw2.mono hsz)⟩
      have g2' : decide (1000000000000 < T.t k) = false := by simpa using g2
      have HAT : Hid (atT T k) := ⟨hg, by omega, by omega⟩
      clear hg
      go_wp2
      refine wp_region_quiet (C := fun w' => Below wr.heap.size wr w') (by kernel_rfl) (by kernel_rfl) ((Below.refl _ _).drew) ?_
      simp only []
      repeat (first
        | go_big_quiet_skip
        | (go_big_quiet_want
           unfold Oper.quiet
           apply Exists.intro
           refine ⟨fun w' hw' => ?_, ?_⟩
           (have z1 := (hw'.cell (p := ⟨w.heap.size, 1, none⟩) hsl).trans x1
            have z4 := (hw'.cell (p := ⟨w.heap.size, 4, none⟩) hsl).trans x4
            have y0 := (hw'.cell (p := ⟨b, off + k * 6, none⟩) (by show b < _; omega)).trans c0
            have y1 := (hw'.cell (p := ⟨b, off + k * 6 + 1, none⟩) (by show b < _; omega)).trans c1
            have y2 := (hw'.cell (p := ⟨b, off + k * 6 + 2, none⟩) (by show b < _; omega)).trans c2
            have y3 := (hw'.cell (p := ⟨b, off + k * 6 + 3, none⟩) (by show b < _; omega)).trans c3
            have y4 := (hw'.cell (p := ⟨b, off + k * 6 + 4, none⟩) (by show b < _; omega)).trans c4
            have y5 := (hw'.cell (p := ⟨b, off + k * 6 + 5, none⟩) (by show b < _; omega)).trans c5
            have yt := (hw'.cell (p := ⟨b2, o2 + k, none⟩) (by show b2 < _; omega)).trans ct
            go_simp
            first
              | (go_at_call 26; refine (spktOk_any (T.o k) _).mono ?_; rintro e w1 ⟨rfl, hk1⟩; exact ⟨by rw [HG.out], hw'.trans (hk1.1.mono hw'.size)⟩)
              | exact rfl)
           simp only [Act.put, List.setIfInBounds_toArray, List.set_cons_zero, List.set_cons_succ]
           go_big_quiet_on))
      refine wpQuiet_nil ?_
      intro w2 hw2
      go_wp2
      go_roundw
      case rel => exact ⟨k + 1, by omega, by go_num, fun j hj => by
        by_cases e : j = k
        · rw [e]; exact HAT.out
        · exact HAL.out j (by omega), (HB.out).trans (hw2.mono hsz), Sits.below HS.out hw2 hsl⟩
      case measure => simp [intOf]; omega
    · obtain rfl : k = T.no := by omega
      clear hB hS
      go_wp2
      clear x0 x1 x2 x3 x4 x5 hsl
      go_loopw [4] (fun i wq => ∃ m : Nat, m ≤ T.nd ∧ i = .int .i64 m ∧ (∀ j, j < m → (T.d j).good = true) ∧ Below w.heap.size w wq ∧ Sits wq w.heap.size (trCells T A) 31) (fun i _ => T.nd - (intOf i).toNat)
      case atStart => exact ⟨0, Nat.zero_le _, rfl, fun j hj => absurd hj (Nat.not_lt_zero _), HB.out, HS.out⟩
      case round =>
        obtain ⟨m, hm, rfl, hall, hB, hS⟩ := hrel
        have HDL : Hid (∀ j, j < m → (T.d j).good = true) := hall
        have HB : Hid (Below w.heap.size w wr) := hB
        have HS : Hid (Sits wr w.heap.size (trCells T A) 31) := hS
        have hsl := hS.lt
        obtain ⟨x0, x1, x2, x3, x4, x5⟩ := tr_cells hS
        have hmb : (m : Int) ≤ 120 := by have := (HH.out).2.2; omega
        by_cases hlt : m < T.nd
        · obtain ⟨b, off, hbe, hbl, hcs⟩ := PR.at (HA.out).d hlt
          obtain ⟨c0, c1, c2, c3, c4, c5⟩ := (hcs m hlt).below hB hbl
          rw [hbe] at x2
          have hsz := hB.size
          cases hg : (T.d m).good
          case false =>
            have HN := tr_no (T := T) (fun h => by have := h.2.2.2.2 m hlt; rw [hg] at this; cases this)
            have HG : Hid ((T.d m).good = false) := hg
            clear hcs hB hS hall hbe hg
            go_wp2_with (go_at_call 26; refine (spktOk_any (T.d m) _).mono ?_; rintro e w1 ⟨rfl, hk1⟩; rw [HG.out])
            go_ret
            exact ⟨ret_bool HN.out.symm, (HB.out).trans (hk1.1.mono (HB.out).size)⟩
          case true =>
            have HG : Hid ((T.d m).good = true) := hg
            clear hcs hB hS hall hbe hg
            go_wp2_with (go_at_call 26; refine (spktOk_any (T.d m) _).mono ?_; rintro e w1 ⟨rfl, hk1⟩; rw [HG.out])
            go_roundw
            case rel => exact ⟨m + 1, by omega, by go_num, fun j hj => by
              by_cases e : j = m
              · rw [e]; exact HG.out
              · exact HDL.out j (by omega), (HB.out).trans (hk1.1.mono (HB.out).size), Sits.kept HS.out hk1⟩
            case measure => simp [intOf]; omega
        · obtain rfl : m = T.nd := by omega
          have HY : Hid (true = trB T) := by
            show _ = _
            exact (decide_eq_true (p := trP T) ⟨(HH.out).1, (HH.out).2.1, (HH.out).2.2, HAL.out, HDL.out⟩).symm
          clear hB hS hall
          go_wp2
          go_ret
          exact ⟨ret_bool HY.out, HB.out⟩

end Go.Proofs.YtcfkmkkgeoaaeaaDoor
