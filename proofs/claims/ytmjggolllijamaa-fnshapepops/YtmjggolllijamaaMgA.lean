/-
  SEVERAL TEXTS IN ONE (a claim may hold 60 files): FairI, SortI, ShapeI, ShapeT, ShapeO, OwnSi, HasId, PushQ, PushI, PushIs.
-/
import Derived.Test.YtmjggolllijamaaFairB
import Derived.Test.YtmjggolllijamaaAppIn
import Derived.Test.YtmjggolllijamaaLen
import Derived.Test.YtmjggolllijamaaLines2
import Derived.Test.YtmjggolllijamaaShapeB
import Derived.Test.YtmjggolllijamaaOwnSh
import Derived.Deep.Slices
import Derived.Test.YtmjggolllijamaaAppPk
import Derived.Deep.Cut
import Derived.Test.YtmjggolllijamaaPushShU
/-
  WHICH FAIRS ARE WELL, AS THE PROGRAM SAYS: countOf, queueOf, waitingOk, fairLineOk, listedOnce, FairOk.
-/
namespace Go.Proofs.Ytmjggolllijamaa
open Go.RowKit Go.Shelf
set_option linter.unusedVariables false
attribute [local go_sem] Oper.semAt_some

set_option maxHeartbeats 1000000 in
theorem icountOf_any (a : Option Addr) (N ca : Nat) (L : Nat → Ln) (w : World) (hN : N ≤ 1048576) (hcn : cntF L N ≤ 1048576) (hP : LR w.heap.size w a N L) :
    Calls Try.prog 50 #[.slice a N ca] w fun e w' => e = .returned (.int .i64 (cntF L N : Int)) ∧ Below w.heap.size w w' := by
  have HP : Hid (LR w.heap.size w a N L) := hP
  have hN' : (N : Int) ≤ 1048576 := by omega
  have HC : Hid (cntF L N ≤ 1048576) := hcn
  clear hP hN hcn
  go_enter Try.func50, Try.ntmps50
  go_wp2
  go_loopw [3, 8] (fun s i wr => ∃ k : Nat, k ≤ N ∧ i = .int .i64 k ∧ s = .int .i64 (cntF L k : Int) ∧ Below w.heap.size w wr) (fun _ i _ => N - (intOf i).toNat)
  case atStart => exact ⟨0, Nat.zero_le _, rfl, rfl, Below.refl _ _⟩
  case round =>
    obtain ⟨k, hk, rfl, rfl, hB⟩ := hrel
    by_cases hlt : k < N
    · obtain ⟨b1, off, rfl, hbl, hcs⟩ := LR.at HP.out hlt
      obtain ⟨x, c', hat, hnc, hpr⟩ := hcs k hlt
      obtain ⟨c0, c1, c2, c3, c4, c5, c6, c7, c8⟩ := hat.below hB hbl
      have hm := cntF_mono L (show k + 1 ≤ N from hlt)
      have HS : Hid (cntF L (k + 1) = cntF L k + (L k).n) := cntF_succ L k
      have hb1 : (cntF L k : Int) + ((L k).n : Int) ≤ 1048576 := by have := HS.out; have := HC.out; omega
      clear hcs hat hpr hm
      go_wp2
      go_roundw
      case rel => exact ⟨k + 1, by omega, by go_num, by rw [HS.out]; go_num, hB.alloc hB.size _⟩
      case measure => simp [intOf]; omega
    · obtain rfl : k = N := by omega
      go_wp2
      go_ret
      exact ⟨rfl, hB⟩

theorem queueOf_any (a : Option Addr) (n c : Nat) (w : World) :
    Calls Try.prog 49 #[.slice a n c] w fun e w' => e = .returned (fiVal a n c 40) ∧ Below w.heap.size w w' := by
  simp only [fiVal]
  go_enter Try.func49, Try.ntmps49
  go_wp2
  exact bodyPost_ret (v := .agg #[.slice a n c, .int .i64 40]) (by simp [results, Try.results49, go_sem]) rfl ⟨rfl, by go_grown⟩

/-- A line waits well. -/
def waitB (l : Ln) : Bool := inB l.sh (-2000) 12000 && fifoB l.f l.n 40

set_option maxHeartbeats 1000000 in
theorem iwaitingOk_any (x : Option Addr) (c : Nat) (l : Ln) (w : World) (hn : l.n ≤ 1048576) (hnc : l.n ≤ c) (hP : PR w.heap.size w x l.n l.f) :
    Calls Try.prog 78 #[lnVal x c l] w fun e w' => e = .returned (.bool (waitB l)) ∧ Below w.heap.size w w' := by
  have HP : Hid (PR w.heap.size w x l.n l.f) := hP
  have HN : Hid (l.n ≤ 1048576) := hn
  have HNC : Hid (l.n ≤ c) := hnc
  clear hP hn hnc
  obtain ⟨W0, hW0⟩ : ∃ W, w.alloc (.cells (lnCells x c l) 53) = W := ⟨_, rfl⟩
  have s0 : Sits W0 w.heap.size (lnCells x c l) 53 := by rw [← hW0]; exact Sits.new _ _ _
  have b0 : Below w.heap.size w W0 := by rw [← hW0]; exact (Below.refl _ w).alloc (Nat.le_refl _) _
  have HW0 : Hid (w.alloc (.cells (lnCells x c l) 53) = W0) := hW0
  have HB0 : Hid (Below w.heap.size w W0) := b0
  have y0 := s0.cell 0
  have y1 := s0.cell 1
  clear s0 b0 hW0
  cases hi : inB l.sh (-2000) 12000
  case false =>
    have HE : Hid (false = waitB l) := by show _ = _; unfold waitB; rw [hi]; rfl
    go_enter Try.func78, Try.ntmps78
    go_upto_region 1 with fail
    rw [HW0.out]
    go_wp2_with (go_at_call 31; refine (within_any _ _ _ _).mono ?_; rintro e w' ⟨rfl, rfl⟩; rw [hi])
    go_ret
    exact ⟨ret_bool HE.out, HB0.out⟩
  case true =>
    have HE : Hid (fifoB l.f l.n 40 = waitB l) := by show _ = _; unfold waitB; rw [hi]; rfl
    go_enter Try.func78, Try.ntmps78
    go_upto_region 1 with fail
    rw [HW0.out]
    go_wp2_with (first | (go_at_call 31; refine (within_any _ _ _ _).mono ?_; rintro e w' ⟨rfl, rfl⟩; rw [hi]) | (go_at_call 49; refine (queueOf_any x l.n c _).mono ?_; rintro e w1 ⟨rfl, hb1⟩; have B1 := (HB0.out).trans (hb1.mono (HB0.out).size)) | (go_at_call 74; refine (ififoOk_any x l.n c l.f 40 _ HN.out HNC.out ((PR.below HP.out B1).mono B1.size)).mono ?_; rintro e w2 ⟨rfl, hb2⟩))
    go_ret
    exact ⟨ret_bool HE.out, B1.trans (hb2.mono B1.size)⟩

theorem ret_b1 {fn : Func} {tmps : Array Value} {W : World} {i B : Nat} {b : Bool} {t : TypeId} (hr : fn.results = #[.cell i 4]) (hi : tmps[i]?.getD undef = .pointer (some ⟨B, 0, none⟩)) (hs : Boxed W B t (.bool b)) : (results fn tmps).run Try.prog W = .ok (.bool b) W := by
  have c0 := hs.cell
  simp [results, hr, hi, go_sem, c0]

/-- A line of a Fair, but for the lists. -/
def flnP (i : Int) (l : Ln) : Prop := l.cd.good = true ∧ waitB l = true ∧ ∀ k, k < l.n → (l.f k).flow = i
instance (i : Int) (l : Ln) : Decidable (flnP i l) := by unfold flnP; infer_instance
def flnB (i : Int) (l : Ln) : Bool := decide (flnP i l)

@[reducible] def boVal (l : List Int) : Value := .agg #[.bool (decide ((0 : Int) ∈ l)), .bool (decide ((1 : Int) ∈ l)), .bool (decide ((2 : Int) ∈ l)), .bool (decide ((3 : Int) ∈ l)), .bool (decide ((4 : Int) ∈ l)), .bool (decide ((5 : Int) ∈ l)), .bool (decide ((6 : Int) ∈ l)), .bool (decide ((7 : Int) ∈ l)), .bool (decide ((8 : Int) ∈ l)), .bool (decide ((9 : Int) ∈ l)), .bool (decide ((10 : Int) ∈ l)), .bool (decide ((11 : Int) ∈ l)), .bool (decide ((12 : Int) ∈ l)), .bool (decide ((13 : Int) ∈ l)), .bool (decide ((14 : Int) ∈ l)), .bool (decide ((15 : Int) ∈ l))]

end Go.Proofs.Ytmjggolllijamaa

/-
  A SHORT LIST OF NUMBERS IS SORTED: slices.Sort OF AT MOST TWELVE; slices.Equal; a list copied.
-/
namespace Go.Proofs.Ytmjggolllijamaa
open Go.RowKit
set_option linter.unusedVariables false

/-- In order on the first k. -/
def srt (g : Nat → Int) (k : Nat) : Prop := ∀ p q, p < q → q < k → g p ≤ g q
/-- In order up to i, but for what is at j. -/
def insI (g : Nat → Int) (i j : Nat) : Prop := ∀ p q, p < q → q ≤ i → q ≠ j → g p ≤ g q
/-- Two neighbours exchanged. -/
def swp (g : Nat → Int) (j : Nat) (i : Nat) : Int := if i = j then g (j - 1) else if i = j - 1 then g j else g i
theorem insI_start {g : Nat → Int} {i : Nat} (h : srt g i) : insI g i i := fun p q h1 h2 h3 => h p q h1 (by omega)
theorem insI_zero {g : Nat → Int} {i : Nat} (h : insI g i 0) : srt g (i + 1) := fun p q h1 h2 => h p q h1 (by omega) (by omega)
theorem insI_stop {g : Nat → Int} {i j : Nat} (h : insI g i j) (hj : ¬ g j < g (j - 1)) (hji : j ≤ i) : srt g (i + 1) := fun p q h1 h2 => by
  by_cases e : q = j
  · subst e
    by_cases e2 : p = q - 1
    · subst e2; omega
    · have := h p (q - 1) (by omega) (by omega) (by omega)
      omega
  · exact h p q h1 (by omega) e
theorem insI_step {g : Nat → Int} {i j : Nat} (h : insI g i j) (hj : g j < g (j - 1)) (h0 : 0 < j) (hji : j ≤ i) : insI (swp g j) i (j - 1) := fun p q h1 h2 h3 => by
  unfold swp
  by_cases e1 : q = j
  · subst e1
    rw [if_pos rfl, if_neg (by omega)]
    by_cases e2 : p = q - 1
    · rw [if_pos e2]; omega
    · rw [if_neg e2]; exact h p (q - 1) (by omega) (by omega) (by omega)
  · rw [if_neg e1, if_neg h3]
    by_cases e2 : p = j
    · rw [if_pos e2]; exact h (j - 1) q (by omega) h2 e1
    · rw [if_neg e2]
      by_cases e3 : p = j - 1
      · rw [if_pos e3]; exact h j q (by omega) h2 e1
      · rw [if_neg e3]; exact h p q h1 h2 e1
def swi (j i : Nat) : Nat := if i = j then j - 1 else if i = j - 1 then j else i
theorem swp_perm (g : Nat → Int) (n j : Nat) (h0 : 0 < j) (hj : j < n) : ((List.range n).map (swp g j)).Perm ((List.range n).map g) := by
  have e : (List.range n).map (swp g j) = ((List.range n).map (swi j)).map g := by
    rw [List.map_map]
    refine List.map_congr_left fun i _ => ?_
    simp only [swp, swi, Function.comp]
    split
    · rfl
    · split <;> rfl
  rw [e]
  refine List.Perm.map g ((List.perm_ext_iff_of_nodup ?_ List.nodup_range).2 fun v => ?_)
  · refine List.pairwise_map.2 (List.nodup_range.imp fun {a b} h e => h ?_)
    unfold swi at e
    split at e <;> split at e <;> (try split at e) <;> (try split at e) <;> omega
  · simp only [List.mem_map, List.mem_range]
    constructor
    · rintro ⟨i, hi, rfl⟩
      unfold swi
      split
      · omega
      · split <;> omega
    · intro hv
      refine ⟨swi j v, ?_, ?_⟩
      · unfold swi
        split
        · omega
        · split <;> omega
      · unfold swi
        by_cases a : v = j
        · subst a; rw [if_pos rfl, if_neg (by omega), if_pos rfl]
        · rw [if_neg a]
          by_cases b : v = j - 1
          · subst b; rw [if_pos rfl, if_pos rfl]
          · rw [if_neg b, if_neg a, if_neg b]

theorem cless_any (x y : Int) (w : World) :
    Calls Try.prog 108 #[.int .i64 x, .int .i64 y] w fun e w' => e = .returned (.bool (decide (x < y))) ∧ w' = w := by
  go_enter Try.func108, Try.ntmps108
  go_wp2
  go_ret
  exact ⟨rfl, rfl⟩

theorem own_drew {w : World} {B n : Nat} {f : Nat → Int} (h : Own .i64 w B n f) : Own .i64 w.drew B n f := h
theorem chg_drew {L U : Nat} {w w' : World} (h : Chg L U w w') : Chg L U w w'.drew := ⟨h.os, h.tape, h.output, h.size, h.block⟩
theorem Own.cellI {w : World} {B n : Nat} {f : Nat → Int} (h : Own .i64 w B n f) {i : Nat} (hi : i < n) : w.cell? ⟨B, i, none⟩ = some (.int .i64 (f i)) := (h.2 i hi).1

set_option maxHeartbeats 2000000 in
theorem iinsertion_any (B n cap : Nat) (f : Nat → Int) (w : World) (hn : n ≤ 1048576) (ho : Own .i64 w B n f) :
    Calls Try.prog 102 #[.slice (some ⟨B, 0, none⟩) n cap, .int .i64 0, .int .i64 n] w fun e w' => e = .returned (.tuple #[]) ∧ ∃ g : Nat → Int, Own .i64 w' B n g ∧ ((List.range n).map g).Perm ((List.range n).map f) ∧ srt g n ∧ Chg B (B + 1) w w' := by
  have hni : (n : Int) ≤ 1048576 := by omega
  have HO : Hid (Own .i64 w B n f) := ho
  clear ho hn
  go_enter Try.func102, Try.ntmps102
  go_wp2
  go_loopw [6] (fun vi wr => ∃ (i : Nat) (g : Nat → Int), vi = .int .i64 (i : Int) ∧ 1 ≤ i ∧ i ≤ n + 1 ∧ Own .i64 wr B n g ∧ ((List.range n).map g).Perm ((List.range n).map f) ∧ srt g (min i n) ∧ Chg B (B + 1) w wr) (fun vi _ => n + 1 - (intOf vi).toNat)
  case atStart => exact ⟨1, f, rfl, by omega, by omega, HO.out, List.Perm.refl _, fun p q h1 h2 => by omega, Chg.refl _ _ _⟩
  case round =>
    obtain ⟨i, g, rfl, hi1, hi2, hog, hpm, hsr, hch⟩ := hrel
    have HPM : Hid (((List.range n).map g).Perm ((List.range n).map f)) := hpm
    have HSR : Hid (srt g (min i n)) := hsr
    have HCH : Hid (Chg B (B + 1) w wr) := hch
    have HOG : Hid (Own .i64 wr B n g) := hog
    clear hpm hsr hch hog
    by_cases hlt : i < n
    case neg =>
      have hlt' : ¬ (i : Int) < (n : Int) := by omega
      go_wp2
      exact bodyPost_end (v := .tuple #[]) (by simp [results, Try.results102, go_sem]) rfl ⟨rfl, g, HOG.out, HPM.out, fun p q h1 h2 => HSR.out p q h1 (by omega), HCH.out⟩
    case pos =>
    have hlt' : (i : Int) < (n : Int) := by omega
    go_wp2
    go_loopw [7] (fun vj wr2 => ∃ (j : Nat) (h : Nat → Int), vj = .int .i64 (j : Int) ∧ j ≤ i ∧ Own .i64 wr2 B n h ∧ ((List.range n).map h).Perm ((List.range n).map f) ∧ insI h i j ∧ Chg B (B + 1) w wr2) (fun vj _ => (intOf vj).toNat)
    case atStart => exact ⟨i, g, rfl, Nat.le_refl _, HOG.out, HPM.out, insI_start (fun p q h1 h2 => HSR.out p q h1 (by omega)), HCH.out⟩
    case round =>
      clear HOG HPM HSR HCH
      obtain ⟨j, h, rfl, hji, hoh, hpm, hin, hch⟩ := hrel
      have HPM : Hid (((List.range n).map h).Perm ((List.range n).map f)) := hpm
      have HIN : Hid (insI h i j) := hin
      have HCH : Hid (Chg B (B + 1) w wr) := hch
      have HOH : Hid (Own .i64 wr B n h) := hoh
      have hlB := hoh.1
      clear hpm hin hch
      by_cases hj0 : 0 < j
      case neg =>
        have hj0' : decide ((0 : Int) < (j : Int)) = false := by simp; omega
        have HJ : Hid (j = 0) := by show _ = _; omega
        clear hoh
        go_wp2
        refine wp_region_quiet (C := fun w' => Below wr.heap.size wr w') (by kernel_rfl) (by kernel_rfl) ((Below.refl _ _).drew) ?_
        simp only []
        repeat (first
          | go_big_quiet_skip
          | (go_big_quiet_want
             unfold Oper.quiet
             apply Exists.intro
             refine ⟨fun w' hw' => ?_, ?_⟩
             (go_simp
              exact rfl)
             simp only [Act.put, List.setIfInBounds_toArray, List.set_cons_zero, List.set_cons_succ]
             go_big_quiet_on))
        refine wpQuiet_nil ?_
        intro w2 hw2
        go_wp2
        go_roundw
        case rel => exact ⟨i + 1, h, by go_num, by omega, by omega, Own.below HOH.out hw2, HPM.out, fun p q h1 h2 => insI_zero (by have := HIN.out; rw [HJ.out] at this; exact this) p q h1 (by omega), (HCH.out).trans (Chg.of_below hw2)⟩
        case measure => simp [intOf]; omega
      case pos =>
      have hj0' : decide ((0 : Int) < (j : Int)) = true := by simp; omega
      have cj := hoh.cellI (show j < n by omega)
      have fj := (hoh.2 j (by omega)).2
      obtain ⟨m, rfl⟩ : ∃ m, j = m + 1 := ⟨j - 1, by omega⟩
      have cm := hoh.cellI (show m < n by omega)
      have fm := (hoh.2 m (by omega)).2
      have hjn : (m : Int) + 1 < n := by omega
      have hjt : ((m : Int) + 1).toNat = m + 1 := by omega
      have hj1 : decide ((0 : Int) < (m : Int) + 1) = true := decide_eq_true (by omega)
      have hwm : IntKind.i64.wrap (m : Int) = m := by rw [IntKind.wrap_i64]; omega
      have hj2 : ¬ (m : Int) + 1 < 0 := by omega
      have hj3 : (m : Int) < n := by omega
      clear hj0'
      clear hoh
      obtain ⟨u, hu⟩ : ∃ u, h (m + 1) = u := ⟨_, rfl⟩
      obtain ⟨v, hv⟩ : ∃ v, h m = v := ⟨_, rfl⟩
      rw [hu] at cj
      rw [hv] at cm
      have HU : Hid (h (m + 1) = u) := hu
      have HV : Hid (h m = v) := hv
      clear hu hv
      cases hl : decide (u < v)
      case false =>
        go_wp2
        refine wp_region_quiet (C := fun w' => Below wr.heap.size wr w') (by kernel_rfl) (by kernel_rfl) ((Below.refl _ _).drew) ?_
        simp only []
        repeat (first
          | go_big_quiet_skip
          | (go_big_quiet_want
             unfold Oper.quiet
             apply Exists.intro
             refine ⟨fun w' hw' => ?_, ?_⟩
             (have zj := (hw'.cell (p := ⟨B, m + 1, none⟩) hlB).trans cj
              have zm := (hw'.cell (p := ⟨B, m, none⟩) hlB).trans cm
              go_simp
              first
                | (go_at_call 108; refine (cless_any _ _ _).mono ?_; rintro e w4 ⟨rfl, hw4⟩; exact ⟨by rw [hl], by rw [hw4]; exact hw'⟩)
                | exact rfl)
             simp only [Act.put, List.setIfInBounds_toArray, List.set_cons_zero, List.set_cons_succ]
             go_big_quiet_on))
        refine wpQuiet_nil ?_
        intro w2 hw2
        go_wp2
        go_roundw
        case rel => exact ⟨i + 1, h, by go_num, by omega, by omega, Own.below HOH.out hw2, HPM.out, fun p q h1 h2 => insI_stop HIN.out (by simp only [Nat.add_sub_cancel]; rw [HU.out, HV.out]; simpa using hl) hji p q h1 (by omega), (HCH.out).trans (Chg.of_below hw2)⟩
        case measure => simp [intOf]; omega
      case true =>
        have hl' : u < v := by simpa using hl
        have HL : Hid (h (m + 1) < h (m + 1 - 1)) := by show _ < _; simp only [Nat.add_sub_cancel]; rw [HU.out, HV.out]; exact hl'
        clear hl'
        go_wp2
        refine wp_region_quiet (C := fun w' => Below wr.heap.size wr w') (by kernel_rfl) (by kernel_rfl) ((Below.refl _ _).drew) ?_
        simp only []
        repeat (first
          | go_big_quiet_skip
          | (go_big_quiet_want
             unfold Oper.quiet
             apply Exists.intro
             refine ⟨fun w' hw' => ?_, ?_⟩
             (have zj := (hw'.cell (p := ⟨B, m + 1, none⟩) hlB).trans cj
              have zm := (hw'.cell (p := ⟨B, m, none⟩) hlB).trans cm
              go_simp
              first
                | (go_at_call 108; refine (cless_any _ _ _).mono ?_; rintro e w4 ⟨rfl, hw4⟩; exact ⟨by rw [hl], by rw [hw4]; exact hw'⟩)
                | exact rfl)
             simp only [Act.put, List.setIfInBounds_toArray, List.set_cons_zero, List.set_cons_succ]
             go_big_quiet_on))
        refine wpQuiet_nil ?_
        intro w2 hw2
        have zj := (hw2.cell (p := ⟨B, m + 1, none⟩) hlB).trans cj
        have zm := (hw2.cell (p := ⟨B, m, none⟩) hlB).trans cm
        have yj : w2.frozen? ⟨B, m + 1, none⟩ = false := ((Own.below HOH.out hw2).2 (m + 1) (by omega)).2
        have ym : w2.frozen? ⟨B, m, none⟩ = false := ((Own.below HOH.out hw2).2 m (by omega)).2
        have HW2 : Hid (Below wr.heap.size wr w2) := hw2
        clear hw2 cj cm fj fm hl
        go_wp2
        go_region
        all_goals go_wp2
        go_roundw
        case rel =>
          have o1 := Own.set (Own.set (Own.below HOH.out HW2.out) (m + 1) (by omega) v) m (by omega) u
          refine ⟨m, swp h (m + 1), rfl, by omega, own_drew (o1.congr fun t ht => ?_), (swp_perm h n (m + 1) (by omega) (by omega)).trans HPM.out, insI_step HIN.out HL.out (by omega) hji, chg_drew (chg_set (chg_set ((HCH.out).trans (Chg.of_below HW2.out)) (Nat.le_refl _) (Nat.lt_succ_self _) _ _) (Nat.le_refl _) (Nat.lt_succ_self _) _ _)⟩
          unfold swp
          simp only [Nat.add_sub_cancel]
          by_cases e1 : t = m + 1
          · rw [if_neg (by omega), if_pos e1, if_pos e1, HV.out]
          · rw [if_neg e1, if_neg e1]
            by_cases e2 : t = m
            · rw [if_pos e2, if_pos e2, HU.out]
            · rw [if_neg e2, if_neg e2]
        case measure => simp [intOf]

set_option maxHeartbeats 1000000 in
theorem ipdq_any (B n cap : Nat) (f : Nat → Int) (lim : Int) (w : World) (hn : n ≤ 12) (ho : Own .i64 w B n f) :
    Calls Try.prog 93 #[.slice (some ⟨B, 0, none⟩) n cap, .int .i64 0, .int .i64 n, .int .i64 lim] w fun e w' => e = .returned (.tuple #[]) ∧ ∃ g : Nat → Int, Own .i64 w' B n g ∧ ((List.range n).map g).Perm ((List.range n).map f) ∧ srt g n ∧ Chg B (B + 1) w w' := by
  have hni : (n : Int) ≤ 12 := by omega
  have HO : Hid (Own .i64 w B n f) := ho
  have HN : Hid (n ≤ 1048576) := by show _ ≤ _; omega
  clear ho hn
  go_enter Try.func93, Try.ntmps93
  go_wp2
  go_loopw [1, 2] (fun a b wr => a = .int .i64 0 ∧ b = .int .i64 n ∧ wr = w) (fun _ _ _ => 0)
  case atStart => exact ⟨rfl, rfl, rfl⟩
  case round =>
    obtain ⟨rfl, rfl, hwr⟩ := hrel
    subst hwr
    go_wp2_with (go_at_call 102; refine (iinsertion_any B n cap f _ HN.out HO.out).mono ?_; rintro e w1 ⟨rfl, hg⟩)
    exact bodyPost_ret (v := .tuple #[]) (by simp [results, Try.results93, go_sem]) rfl ⟨rfl, hg⟩

theorem ilen_any (x : Int) (h0 : 0 ≤ x) (h1 : x ≤ 12) (w : World) :
    Calls Try.prog 94 #[.int .u64 x] w fun e w' => (∃ r : Int, e = .returned (.int .i64 r)) ∧ w' = w := by
  by_cases hx : 1 ≤ x
  · go_enter Try.func94, Try.ntmps94
    go_wp2_with (go_at_call 112; refine (len64_any x hx (by omega) _).mono ?_; rintro e w1 ⟨rfl, rfl⟩)
    go_ret
    exact ⟨⟨_, rfl⟩, rfl⟩
  · obtain rfl : x = 0 := by omega
    have hz : Calls Try.prog 112 #[.int .u64 0] w fun e w' => (∃ r : Int, e = .returned (.int .i64 r)) ∧ w' = w := by
      have hs := tab_size
      have hg := tab_get
      go_enter Try.func112, Try.ntmps112
      go_wp2
      go_ret
      exact ⟨⟨_, rfl⟩, rfl⟩
    go_enter Try.func94, Try.ntmps94
    go_wp2_with (go_at_call 112; refine hz.mono ?_; rintro e w1 ⟨⟨r, rfl⟩, rfl⟩)
    go_ret
    exact ⟨⟨_, rfl⟩, rfl⟩

set_option maxHeartbeats 1000000 in
theorem isort_any (B n cap : Nat) (f : Nat → Int) (w : World) (hn : n ≤ 12) (ho : Own .i64 w B n f) :
    Calls Try.prog 76 #[.slice (some ⟨B, 0, none⟩) n cap] w fun e w' => e = .returned (.tuple #[]) ∧ ∃ g : Nat → Int, Own .i64 w' B n g ∧ ((List.range n).map g).Perm ((List.range n).map f) ∧ srt g n ∧ Chg B (B + 1) w w' := by
  have HO : Hid (Own .i64 w B n f) := ho
  have HN : Hid (n ≤ 12) := hn
  have hni : (n : Int) ≤ 12 := by omega
  clear ho hn
  go_enter Try.func76, Try.ntmps76
  go_wp2_with (first
    | (go_at_call 94; refine (ilen_any _ (by omega) (by omega) _).mono ?_; rintro e w1 ⟨⟨r, rfl⟩, rfl⟩)
    | (go_at_call 93; refine (ipdq_any B n cap f _ _ HN.out HO.out).mono ?_; rintro e w1 ⟨rfl, hg⟩))
  exact bodyPost_end (v := .tuple #[]) (by simp [results, Try.results76, go_sem]) rfl ⟨rfl, hg⟩

/-- Are both lists one? -/
def eqlB (f : Nat → Int) (n : Nat) (g : Nat → Int) (m : Nat) : Bool := decide ((List.range n).map f = (List.range m).map g)
theorem iequal_any (a : Option Addr) (n ca : Nat) (f : Nat → Int) (b : Option Addr) (m cb : Nat) (g : Nat → Int) (w : World) (hn : n ≤ 1048576) (hm : m ≤ 1048576) (ha : Row .i64 w a n f) (hb : Row .i64 w b m g) :
    Calls Try.prog 77 #[.slice a n ca, .slice b m cb] w fun e w' => e = .returned (.bool (eqlB f n g m)) ∧ Below w.heap.size w w' := by
  have HA : Hid (Row .i64 w a n f) := ha
  have HB : Hid (Row .i64 w b m g) := hb
  have hni : (n : Int) ≤ 1048576 := by omega
  have hmi : (m : Int) ≤ 1048576 := by omega
  clear ha hb hn hm
  by_cases hnm : n = m
  case neg =>
    have hnm' : ((n : Int) != (m : Int)) = true := by simp; omega
    have HE : Hid (false = eqlB f n g m) := by
      show _ = _; symm; unfold eqlB; rw [decide_eq_false_iff_not]; intro h
      have := congrArg List.length h
      simp at this
      exact hnm this
    go_enter Try.func77, Try.ntmps77
    go_wp2
    go_ret
    exact ⟨ret_bool HE.out, Below.refl _ _⟩
  case pos =>
  subst hnm
  go_enter Try.func77, Try.ntmps77
  go_wp2
  go_loopw [13] (fun i wr => ∃ k : Nat, k ≤ n ∧ i = .int .i64 (k : Int) ∧ (∀ j, j < k → f j = g j) ∧ Below w.heap.size w wr) (fun i _ => n - (intOf i).toNat)
  case atStart => exact ⟨0, Nat.zero_le _, rfl, fun j hj => absurd hj (Nat.not_lt_zero _), Below.refl _ _⟩
  case round =>
    obtain ⟨k, hk, rfl, hal, hB⟩ := hrel
    have HAL : Hid (∀ j, j < k → f j = g j) := hal
    clear hal
    by_cases hlt : k < n
    · obtain ⟨b1, o1, rfl, l1, h1⟩ := Row.at HA.out hlt
      obtain ⟨b2, o2, rfl, l2, h2⟩ := Row.at HB.out hlt
      have c1 := (hB.cell (p := ⟨b1, o1 + k, none⟩) l1).trans (h1 k hlt)
      have c2 := (hB.cell (p := ⟨b2, o2 + k, none⟩) l2).trans (h2 k hlt)
      clear h1 h2
      by_cases he : f k = g k
      · have he' : (f k != g k) = false := by simpa using he
        go_wp2
        go_region
        all_goals go_wp2
        all_goals
          go_roundw
          case rel => exact ⟨k + 1, by omega, by go_num, fun j hj => by by_cases e : j = k; · rw [e]; exact he
                                                                        · exact HAL.out j (by omega), hB.drew⟩
          case measure => simp [intOf]; omega
      · have he' : (f k != g k) = true := by simpa using he
        have HE : Hid (false = eqlB f n g n) := by
          show _ = _; symm; unfold eqlB; rw [decide_eq_false_iff_not]; intro h
          have := congrArg (fun l => l[k]?) h
          simp [hlt] at this
          exact he this
        go_wp2
        go_region
        all_goals go_wp2
        all_goals
          go_ret
          exact ⟨ret_bool HE.out, hB.drew⟩
    · obtain rfl : n = k := by omega
      have HE : Hid (true = eqlB f n g n) := by
        show _ = _; symm; unfold eqlB; rw [decide_eq_true_eq]
        exact List.map_congr_left fun j hj => HAL.out j (by simpa using hj)
      go_wp2
      go_ret
      exact ⟨ret_bool HE.out, hB⟩

theorem iinsertion_zero (a : Option Addr) (cap : Nat) (w : World) :
    Calls Try.prog 102 #[.slice a 0 cap, .int .i64 0, .int .i64 0] w fun e w' => e = .returned (.tuple #[]) ∧ w' = w := by
  go_enter Try.func102, Try.ntmps102
  go_wp2
  go_loopw [6] (fun vi wr => vi = .int .i64 1 ∧ wr = w) (fun _ _ => 0)
  case atStart => exact ⟨rfl, rfl⟩
  case round =>
    obtain ⟨rfl, hwr⟩ := hrel
    subst hwr
    go_wp2
    exact bodyPost_end (v := .tuple #[]) (by simp [results, Try.results102, go_sem]) rfl ⟨rfl, rfl⟩

theorem ipdq_zero (a : Option Addr) (cap : Nat) (lim : Int) (w : World) :
    Calls Try.prog 93 #[.slice a 0 cap, .int .i64 0, .int .i64 0, .int .i64 lim] w fun e w' => e = .returned (.tuple #[]) ∧ w' = w := by
  go_enter Try.func93, Try.ntmps93
  go_wp2
  go_loopw [1, 2] (fun a b wr => a = .int .i64 0 ∧ b = .int .i64 0 ∧ wr = w) (fun _ _ _ => 0)
  case atStart => exact ⟨rfl, rfl, rfl⟩
  case round =>
    obtain ⟨rfl, rfl, hwr⟩ := hrel
    subst hwr
    go_wp2_with (go_at_call 102; refine (iinsertion_zero a cap _).mono ?_; rintro e w1 ⟨rfl, rfl⟩)
    exact bodyPost_ret (v := .tuple #[]) (by simp [results, Try.results93, go_sem]) rfl ⟨rfl, rfl⟩

theorem isort_zero (a : Option Addr) (cap : Nat) (w : World) :
    Calls Try.prog 76 #[.slice a 0 cap] w fun e w' => e = .returned (.tuple #[]) ∧ w' = w := by
  go_enter Try.func76, Try.ntmps76
  go_wp2_with (first
    | (go_at_call 94; refine (ilen_any _ (by omega) (by omega) _).mono ?_; rintro e w1 ⟨⟨r, rfl⟩, rfl⟩)
    | (go_at_call 93; refine (ipdq_zero a cap _ _).mono ?_; rintro e w1 ⟨rfl, rfl⟩))
  exact bodyPost_end (v := .tuple #[]) (by simp [results, Try.results76, go_sem]) rfl ⟨rfl, rfl⟩

theorem ret_one {fn : Func} {tmps : Array Value} {W : World} {i B : Nat} {v0 : Value} {t : TypeId} (hr : fn.results = #[.cell i 102]) (hi : tmps[i]?.getD undef = .pointer (some ⟨B, 0, none⟩)) (hs : Sits W B #[v0] t) : (results fn tmps).run Try.prog W = .ok (.agg #[v0]) W := by
  have c0 : W.cell? ⟨B, 0, none⟩ = some v0 := hs.cell 0
  simp [results, hr, hi, go_sem, c0]

set_option maxHeartbeats 1000000 in
theorem ilistOf_any (b : Option Addr) (n c : Nat) (f : Nat → Int) (w : World) (hn : n ≤ 1048576) (hb : Row .i64 w b n f) :
    Calls Try.prog 63 #[.slice b n c] w fun e w' => ∃ (x : Option Addr) (cap : Nat), e = .returned (.agg #[.slice x n cap]) ∧ JO w.heap.size w' x n cap f ∧ Below w.heap.size w w' := by
  have HB : Hid (Row .i64 w b n f) := hb
  clear hb
  go_enter Try.func63, Try.ntmps63
  go_wp2_with (at_builtin; refine wpList_append_inN rfl _ _ rfl (w.heap.size + 1) none 0 0 f rfl (JO.nil _ _ _) b n c f rfl (Row.below HB.out (by go_grown)) (by omega) (by simp) ?_; intro x cap w1 hjo hgr; have hj1 : JO (w.heap.size + 1) w1 x n cap f := JO.congr (f := joinI f 0 f) (by simpa using hjo) (fun i _ => by simp [joinI]); clear hjo; have B1 : Below (w.heap.size + 1) (w.alloc (.cells #[.slice none 0 0] 102)) w1 := Below.grown (B := w.heap.size + 1) (a := w.alloc (.cells #[.slice none 0 0] 102)) (Below.refl _ _) hgr (by simp) (fun k e => by simp [Value.ownBlock] at e); have s1 := (Sits.new w #[.slice none 0 0] 102).below B1 (by omega); have x0 := s1.cell 0; have xf := s1.frozen; have HS1 : Hid (Sits _ _ _ _) := s1.set 0 (.slice x n cap); have HB1 : Hid (Below (w.heap.size + 1) (w.alloc (.cells #[.slice none 0 0] 102)) w1) := B1; have HJ : Hid (JO (w.heap.size + 1) w1 x n cap f) := hj1; clear s1 B1 hj1 hgr)
  refine bodyPost_ret (ret_one Try.results63 rfl HS1.out) rfl ⟨x, cap, rfl, (JO.far HJ.out (by omega) _ _).mono (by omega), ?_⟩
  exact (((Below.refl _ w).alloc (Nat.le_refl _) _).trans ((HB1.out).mono (by omega))).setCell (Nat.le_refl _) _

end Go.Proofs.Ytmjggolllijamaa

/-
  WHICH SHAPES ARE WELL, AS THE PROGRAM SAYS: hostLineOk, turnOk, shapeNumbersOk.
-/
namespace Go.Proofs.Ytmjggolllijamaa
open Go.RowKit Go.Shelf
set_option linter.unusedVariables false
attribute [local go_sem] Oper.semAt_some

/-- A line of a Shape, in the program's words. -/
def hlP (i : Int) (l : Ln) : Prop := cdzB l.cd = true ∧ waitB l = true ∧ ∀ k, k < l.n → (l.f k).host = i
instance (i : Int) (l : Ln) : Decidable (hlP i l) := by unfold hlP; infer_instance
def hlB (i : Int) (l : Ln) : Bool := decide (hlP i l)
theorem hl_iff {i : Int} {l : Ln} : hlnP i l ↔ hlP i l := by
  unfold hlnP hlP waitB inB
  constructor
  · rintro ⟨h1, h2, h3, h5⟩
    exact ⟨h1, by simp [h2, h3], h5⟩
  · rintro ⟨h1, h2, h5⟩
    simp at h2
    exact ⟨h1, h2.1, h2.2, h5⟩

set_option maxRecDepth 100000 in
set_option maxHeartbeats 4000000 in
theorem ihostLineOk_any (x : Option Addr) (c : Nat) (l : Ln) (num : Int) (w : World) (hn : l.n ≤ 1048576) (hnc : l.n ≤ c) (hP : PR w.heap.size w x l.n l.f) :
    Calls Try.prog 59 #[lnVal x c l, .int .i64 num] w fun e w' => e = .returned (.bool (hlB num l)) ∧ Below w.heap.size w w' := by
  have HP : Hid (PR w.heap.size w x l.n l.f) := hP
  have HN : Hid (l.n ≤ 1048576) := hn
  have HNC : Hid (l.n ≤ c) := hnc
  clear hP hn hnc
  obtain ⟨W0, hW0⟩ : ∃ W, ((w.alloc (.cells (lnCells x c l) 53)).alloc (.cells #[.int .i64 num] 3)).alloc (.cells #[.bool false] 4) = W := ⟨_, rfl⟩
  have s0 : Sits W0 w.heap.size (lnCells x c l) 53 := by rw [← hW0]; exact ((Sits.new _ _ _).alloc _).alloc _
  have s1 : Boxed W0 (w.heap.size + 1) 3 (.int .i64 num) := by rw [← hW0]; have := (Boxed.new (w.alloc (.cells (lnCells x c l) 53)) 3 (.int .i64 num)).alloc (.cells #[.bool false] 4); simpa using this
  have s2 : Boxed W0 (w.heap.size + 1 + 1) 4 (.bool false) := by rw [← hW0]; have := Boxed.new ((w.alloc (.cells (lnCells x c l) 53)).alloc (.cells #[.int .i64 num] 3)) 4 (.bool false); simpa using this
  have b0 : Below w.heap.size w W0 := by rw [← hW0]; exact (((Below.refl _ w).alloc (Nat.le_refl _) _).alloc (by simp) _).alloc (by simp; omega) _
  have HB1 : Hid (Below w.heap.size w W0) := b0
  have HT0 : Hid (Sits W0 w.heap.size (lnCells x c l) 53) := s0
  have HT1 : Hid (Boxed W0 (w.heap.size + 1) 3 (.int .i64 num)) := s1
  have HT2 : Hid (Boxed W0 (w.heap.size + 1 + 1) 4 (.bool false)) := s2
  have y0 := s0.cell 0
  have y1 := s0.cell 1
  have y2 := s0.cell 2
  have y3 := s0.cell 3
  have y4 := s0.cell 4
  have y5 := s0.cell 5
  have y6 := s0.cell 6
  have y7 := s0.cell 7
  have y8 := s0.cell 8
  have g2 := s2.cell
  have g2f := s2.frozen
  have HW0 : Hid (((w.alloc (.cells (lnCells x c l) 53)).alloc (.cells #[.int .i64 num] 3)).alloc (.cells #[.bool false] 4) = W0) := hW0
  clear s0 s1 s2 b0 hW0
  have hro : Fence.wide.round = none := rfl
  have hcd := equalIn_cd l.cd
  cases hg : cdzB l.cd
  case false =>
    have hE : hlB num l = false := by unfold hlB; rw [decide_eq_false_iff_not]; exact fun h => by have := h.1; rw [hg] at this; cases this
    have HE : Hid (hlB num l = false) := hE
    clear hE
    refine (callsIn_wide (n := 6)).1 ?_
    refine callsIn_of_wp_marks Try.func59 rfl trivial ?_ hro
    simp only [Try.ntmps59, List.size_toArray, List.length_cons, List.length_nil, Nat.reduceAdd, Nat.reduceSub, Array.replicate_succ, Array.replicate_zero, List.push_toArray, List.append_toArray, List.nil_append, List.cons_append]
    gi_wp2
    refine ⟨trivial, ?_⟩
    rename_i hK
    refine hK _ _ ?_
    rw [HW0.out]
    gi_wp2
    exact ⟨_, ret_b1 Try.results59 rfl (Boxed.set (.bool false) HT2.out), by rw [HE.out], (HB1.out).setCell (show w.heap.size ≤ w.heap.size + 1 + 1 by omega) _⟩
  case true =>
  cases hwt : waitB l
  case false =>
    have hE : hlB num l = false := by unfold hlB; rw [decide_eq_false_iff_not]; exact fun h => by have := h.2.1; rw [hwt] at this; cases this
    have HE : Hid (hlB num l = false) := hE
    clear hE
    refine (callsIn_wide (n := 6)).1 ?_
    refine callsIn_of_wp_marks Try.func59 rfl trivial ?_ hro
    simp only [Try.ntmps59, List.size_toArray, List.length_cons, List.length_nil, Nat.reduceAdd, Nat.reduceSub, Array.replicate_succ, Array.replicate_zero, List.push_toArray, List.append_toArray, List.nil_append, List.cons_append]
    gi_wp2_with (refine ⟨trivial, ?_⟩; gi_at_call 78; rw [HW0.out]; refine (callsIn_wide.2 (iwaitingOk_any x c l _ HN.out HNC.out ((PR.below HP.out HB1.out).mono (HB1.out).size))).mono ?_; rintro e w2 ⟨rfl, b2⟩; rw [hwt]; have HB2 : Hid (Below w.heap.size w w2) := (HB1.out).trans (b2.mono (HB1.out).size); have t2 := boxed_below HT2.out b2 (Boxed.lt HT2.out); clear g2 g2f; have u2 := t2.cell; have u2f := t2.frozen; have HU2 : Hid (Boxed w2 (w.heap.size + 1 + 1) 4 (.bool false)) := t2; have t1 := boxed_below HT1.out b2 (Boxed.lt HT1.out); have HU1 : Hid (Boxed w2 (w.heap.size + 1) 3 (.int .i64 num)) := t1; have t0 := Sits.below HT0.out b2 (Sits.lt HT0.out); clear y0; have v0 := t0.cell 0; clear t0 t1 t2 b2)
    exact ⟨_, ret_b1 Try.results59 rfl (Boxed.set (.bool false) HU2.out), by rw [HE.out], (HB2.out).setCell (show w.heap.size ≤ w.heap.size + 1 + 1 by omega) _⟩
  case true =>
    have HG : Hid (cdzB l.cd = true ∧ waitB l = true) := ⟨hg, hwt⟩
    refine (callsIn_wide (n := 6)).1 ?_
    refine callsIn_of_wp_marks Try.func59 rfl trivial ?_ hro
    simp only [Try.ntmps59, List.size_toArray, List.length_cons, List.length_nil, Nat.reduceAdd, Nat.reduceSub, Array.replicate_succ, Array.replicate_zero, List.push_toArray, List.append_toArray, List.nil_append, List.cons_append]
    gi_wp2_with (first | (refine ⟨trivial, ?_⟩; gi_at_call 78; rw [HW0.out]; refine (callsIn_wide.2 (iwaitingOk_any x c l _ HN.out HNC.out ((PR.below HP.out HB1.out).mono (HB1.out).size))).mono ?_; rintro e w2 ⟨rfl, b2⟩; rw [hwt]; have HB2 : Hid (Below w.heap.size w w2) := (HB1.out).trans (b2.mono (HB1.out).size); have t2 := boxed_below HT2.out b2 (Boxed.lt HT2.out); clear g2 g2f; have u2 := t2.cell; have u2f := t2.frozen; have HU2 : Hid (Boxed w2 (w.heap.size + 1 + 1) 4 (.bool false)) := t2; have t1 := boxed_below HT1.out b2 (Boxed.lt HT1.out); have HU1 : Hid (Boxed w2 (w.heap.size + 1) 3 (.int .i64 num)) := t1; have t0 := Sits.below HT0.out b2 (Sits.lt HT0.out); clear y0; have v0 := t0.cell 0; clear t0 t1 t2 b2) | (refine ⟨trivial, ?_⟩; gi_at_call 75; refine (told_in 5 _ _ _ _).mono ?_; rintro e w' ⟨rfl, rfl⟩))
    have bN := Boxed.new w2 48 (.slice x l.n c)
    have hB0 : Below w2.heap.size w2 (w2.alloc (.cells #[.slice x l.n c] 48)) := (Below.refl _ w2).alloc (Nat.le_refl _) _
    have bR := Boxed.alloc HU2.out (.cells #[.slice x l.n c] 48)
    have bM := Boxed.alloc HU1.out (.cells #[.slice x l.n c] 48)
    have hls : w.heap.size + 1 + 1 < w2.heap.size := Boxed.lt HU2.out
    have hsz : (w2.alloc (.cells #[.slice x l.n c] 48)).heap.size = w2.heap.size + 1 := by simp
    have hP1 : PR w.heap.size w2 x l.n l.f := PR.below HP.out HB2.out
    have hBw := (HB2.out).alloc (HB2.out).size (.cells #[.slice x l.n c] 48)
    obtain ⟨V0, hV0⟩ : ∃ V0, w2.alloc (.cells #[.slice x l.n c] 48) = V0 := ⟨_, rfl⟩
    rw [hV0] at bR bN bM hB0 hsz hBw ⊢
    clear hV0
    refine wpIn_rangeFunc_ownH hro (by omega) (gf := 92) (lb := #[.pointer (some ⟨w2.heap.size, 0, none⟩)]) rfl trivial (enters_of Try.func92 (by kernel_rfl) rfl)
      (told_stops 5 (by omega) w2.heap.size w.heap.size l.n c x l.f HN.out V0 (by omega) (by omega) bN.cell (hP1.below (hB0.mono (by omega)))) belowK_t (belowK_b (by omega)) (Below.refl _ _) (fun _ => rfl)
      (fun pre W => (((∀ y ∈ pre, (l.f y.1).host = num) ∧ Boxed W (w.heap.size + 1 + 1) 4 (.bool false)) ∧ Boxed W (w.heap.size + 1) 3 (.int .i64 num)) ∧ Below w.heap.size w W)
      (fun ex pre W => ((ex = .ret ∧ ∃ y ∈ pre, ¬ (l.f y.1).host = num) ∧ Boxed W (w.heap.size + 1 + 1) 4 (.bool false)) ∧ Below w.heap.size w W)
      (OwnFrom.and (OwnFrom.and (OwnFrom.and (ownFrom_pure _ _) (Own.from (boxed_own _ _ _) _)) (Own.from (boxed_own _ _ _) _)) (ownFrom_below (Nat.le_refl _) (by omega)))
      (fun c => OwnFrom.and (OwnFrom.and (ownFrom_pure _ _) (Own.from (boxed_own _ _ _) _)) (ownFrom_below (Nat.le_refl _) (by omega)))
      ⟨⟨⟨by simp, bR⟩, bM⟩, hBw⟩
      (fun y a' W => ∃ Bx, w.heap.size + 1 + 1 < Bx ∧ Lies W Bx (pkCells (l.f y.1)) 31 ∧ a' = { tmps := #[lnVal x c l, .int .i64 num, .pointer (some ⟨w.heap.size, 0, none⟩), .pointer (some ⟨w.heap.size + 1, 0, none⟩), .pointer (some ⟨w.heap.size + 1 + 1, 0, none⟩), undef, .pointer (some ⟨Bx, 0, none⟩), .pointer (some ⟨w.heap.size, 2, none⟩), l.cd.val, .agg #[.int .i64 0, .int .i64 0, .int .i64 0, .int .i64 0, .int .i64 0, .int .i64 0, .bool false], .bool false, .bool false, lnVal x c l, .bool true, .bool false, .bool false, .pointer (some ⟨w.heap.size, 0, none⟩), .slice x l.n c, .func (.func 92) #[] #[.pointer (some ⟨w2.heap.size, 0, none⟩)], .int .i64 (y.1 : Int), (l.f y.1).val, undef, undef, undef, undef], defers := [] })
      (fun x a' _ X Y row hs hg hr => by obtain ⟨Bx, e1, e2, e3⟩ := hs; exact ⟨Bx, e1, lies_own Bx _ _ () X Y row e2 hg (fun r e => (hr r e).2), e3⟩)
      ?assign ?body ?done ?stop
    case assign =>
      rintro lp pre y W K ⟨⟨⟨hp, bR1⟩, bM1⟩, hBW⟩ hK
      gi_wp2
      exact hK _ _ ((KeepsOthers.alloc _ _).from _) ((Below.refl _ W).alloc hBW.size _) ⟨⟨⟨hp, bR1.alloc _⟩, bM1.alloc _⟩, hBW.alloc hBW.size _⟩ ⟨W.heap.size, bR1.lt, Lies.new W _ _, rfl⟩
    case body =>
      rintro lp pre y a' W hl ⟨r, hr⟩ ⟨⟨⟨hp, bR1⟩, bM1⟩, hBW⟩ ⟨Bx, hBx, bX, rfl⟩ hlt
      have cR := bR1.cell
      have fR := bR1.frozen
      have cM := bM1.cell
      obtain ⟨q0, q1, q2, q3, q4, q5⟩ := bX.pk
      simp only [Nat.zero_add] at q1 q2 q3 q4 q5
      clear hsz
      by_cases hq : (l.f y.1).host = num
      · have hq' : ((l.f y.1).host != num) = false := by simpa using hq
        gi_wp2
        exact ⟨KeepsFrom.refl _ _, Below.refl _ _, ⟨⟨⟨fun z hz => (List.mem_append.1 hz).elim (hp z) (fun e => by simp at e; subst e; exact hq), bR1⟩, bM1⟩, hBW⟩⟩
      · have hq' : ((l.f y.1).host != num) = true := by simpa using hq
        gi_wp2
        exact ⟨(KeepsOthers.setCell _ _ _).from _, ⟨⟨rfl, y, List.mem_append.2 (.inr (by simp)), hq⟩, bR1.set _⟩, hBW.setCell (p := ⟨w.heap.size + 1 + 1, 0, none⟩) (show w.heap.size ≤ w.heap.size + 1 + 1 by omega) _⟩
    case done =>
      rintro D zs W hD hz ⟨⟨⟨hp, bR1⟩, bM1⟩, hBW⟩ hK
      have cR := bR1.cell
      have fR := bR1.frozen
      have hne : D ≠ w.heap.size + 1 + 1 := by omega
      have hK' : (W.setCell ⟨w.heap.size + 1 + 1, 0, none⟩ (.bool true)).heap[D]? = some (.deferred (some [])) := (Below.heap_setCell W ⟨w.heap.size + 1 + 1, 0, none⟩ _ D hne).trans hK
      have hbk : Below V0.heap.size (W.setCell ⟨w.heap.size + 1 + 1, 0, none⟩ (.bool true)) ((W.setCell ⟨w.heap.size + 1 + 1, 0, none⟩ (.bool true)).putObj D (.deferred none)) := belowK_b (w := V0) (Nat.le_refl _) _ D _ _ hD hK' rfl rfl
      have hE : hlB num l = true := decide_eq_true ⟨(HG.out).1, (HG.out).2, fun k hk => by
        have hm : k ∈ zs.map (·.1) := by rw [hz]; exact List.mem_range.2 hk
        obtain ⟨z, hz, rfl⟩ := List.mem_map.1 hm
        exact hp z hz⟩
      gi_wp2
      refine ⟨by simp, .inl ⟨_, _, rfl, run_takeDeferred hK', ?_⟩⟩
      exact ⟨_, ret_b1 Try.results59 rfl (boxed_below (bR1.set (.bool true)) hbk (by omega)), by rw [hE], ((hBW.setCell (p := ⟨w.heap.size + 1 + 1, 0, none⟩) (show w.heap.size ≤ w.heap.size + 1 + 1 by omega) _)).trans (hbk.mono (by omega))⟩
    case stop =>
      rintro D ex pre W hD hpre ⟨⟨⟨rfl, y, hy, hyb⟩, bR1⟩, hBW⟩ hK
      have cR := bR1.cell
      have hbk : Below V0.heap.size W (W.putObj D (.deferred none)) := belowK_b (w := V0) (Nat.le_refl _) _ D _ _ hD hK rfl rfl
      have hE : hlB num l = false := decide_eq_false fun h => hyb (h.2.2 y.1 y.2)
      gi_wp2
      refine ⟨by simp, .inl ⟨_, _, rfl, run_takeDeferred hK, ?_⟩⟩
      exact ⟨_, ret_b1 Try.results59 rfl (boxed_below bR1 hbk (by omega)), by rw [hE], hBW.trans (hbk.mono (by omega))⟩

end Go.Proofs.Ytmjggolllijamaa

/-
  WHO TAKES TURNS, AS THE PROGRAM SAYS: turnOk; shapeNumbersOk.
-/
namespace Go.Proofs.Ytmjggolllijamaa
open Go.RowKit
set_option linter.unusedVariables false

theorem field_list (v : Value) (w : World) : (Instr.field 102 (.agg #[v]) 0).run Try.prog w = .ok v w := by kernel_rfl

def turnB (L : Nat → Ln) (ts : List Int) : Bool := decide (turnP L ts)
theorem srt_pairwise {g : Nat → Int} {n : Nat} (h : srt g n) : ((List.range n).map g).Pairwise (· ≤ ·) := by
  rw [List.pairwise_map]
  refine (List.pairwise_lt_range (n := n)).imp_of_mem fun {a b} ha hb hab => ?_
  exact h a b hab (by simpa using hb)
/-- Sorted, Turn is just those that wait. -/
theorem turn_sorted {L : Nat → Ln} {ts : List Int} {g : Nat → Int} {n : Nat} (hp : ((List.range n).map g).Perm ts) (hs : srt g n) : decide ((List.range n).map g = wl L 4) = turnB L ts := by
  unfold turnB turnP
  apply decide_eq_decide.2
  constructor
  · intro h; rw [← h]; exact hp.symm
  · intro h
    exact List.Perm.eq_of_pairwise (le := fun a b => a ≤ b) (fun a b _ _ h1 h2 => by omega) (srt_pairwise hs) ((wl_sorted L 4).1.imp fun {a b} h => by omega) (hp.trans h)
theorem map_join (f : Nat → Int) (m : Nat) (v : Int) : (List.range (m + 1)).map (joinI f m fun _ => v) = (List.range m).map f ++ [v] := by
  rw [List.range_succ, List.map_append]
  congr 1
  · refine List.map_congr_left fun j hj => ?_
    unfold joinI; rw [if_pos (by simpa using hj)]
  · simp [joinI]

set_option maxRecDepth 100000 in
set_option maxHeartbeats 4000000 in
theorem iturnOk_any (s : Sh) (a : Option Addr) (ca : Nat) (b : Option Addr) (n c : Nat) (L : Nat → Ln) (tn : Nat → Int) (w : World)
    (hcn : cntF L 4 ≤ 1048576) (hnn : n ≤ 1048576) (hP : LR w.heap.size w a 4 L) (hb : Row .i64 w b n tn) :
    Calls Try.prog 58 #[shVal s a 4 ca b n c] w fun e w' => e = .returned (.bool (turnB L ((List.range n).map tn))) ∧ Below w.heap.size w w' := by
  have HP : Hid (LR w.heap.size w a 4 L) := hP
  have HRB : Hid (Row .i64 w b n tn) := hb
  have HCN : Hid (cntF L 4 ≤ 1048576) := hcn
  have HNN : Hid (n ≤ 1048576) := hnn
  have hni : (n : Int) ≤ 1048576 := by omega
  clear hP hb hcn hnn
  obtain ⟨W0, hW0⟩ : ∃ W, w.alloc (.cells (shCells s a 4 ca b n c) 29) = W := ⟨_, rfl⟩
  have s0 : Sits W0 w.heap.size (shCells s a 4 ca b n c) 29 := by rw [← hW0]; exact Sits.new _ _ _
  have b0 : Below w.heap.size w W0 := by rw [← hW0]; exact (Below.refl _ w).alloc (Nat.le_refl _) _
  have z0 : W0.heap.size = w.heap.size + 1 := by rw [← hW0]; simp
  have HW0 : Hid (w.alloc (.cells (shCells s a 4 ca b n c) 29) = W0) := hW0
  have HS0 : Hid (Sits _ _ _ _) := s0
  have HB0 : Hid (Below w.heap.size w W0) := b0
  have HZ0 : Hid (W0.heap.size = w.heap.size + 1) := z0
  have x5 := s0.cell 5
  have l0 := s0.lt
  clear s0 b0 hW0 z0
  have HBB : Hid (∀ w', Below W0.heap.size W0 w' → Below w.heap.size w w') := fun w' hw' => (HB0.out).trans (hw'.mono (HB0.out).size)
  go_enter Try.func58, Try.ntmps58
  go_upto_region 1 with fail
  rw [HW0.out]
  clear HW0
  go_wp2
  go_loopw [3, 10] (fun v i wr => ∃ (k : Nat) (x : Option Addr) (m cap : Nat) (f : Nat → Int), k ≤ 4 ∧ i = .int .i64 (k : Int) ∧ v = .slice x m cap ∧ JO W0.heap.size wr x m cap f ∧ (List.range m).map f = wl L k ∧ Below W0.heap.size W0 wr) (fun _ i _ => 4 - (intOf i).toNat)
  case atStart => exact ⟨0, none, 0, 0, fun _ => 0, Nat.zero_le _, rfl, rfl, JO.nil _ _ _, rfl, Below.refl _ _⟩
  case round =>
    obtain ⟨k, x, m, cap, f, hk, rfl, rfl, hjo, hwl, hB⟩ := hrel
    have HJ : Hid (JO W0.heap.size wr x m cap f) := hjo
    have HWL : Hid ((List.range m).map f = wl L k) := hwl
    have HB : Hid (Below W0.heap.size W0 wr) := hB
    have hm : m ≤ 4 := by have h1 := congrArg List.length hwl; have h2 := wl_len L k; simp at h1; omega
    have HM : Hid (m ≤ 4) := hm
    have hmi : (m : Int) ≤ 4 := by omega
    clear hjo hwl hm
    by_cases hlt : k < 4
    · obtain ⟨b1, off, rfl, hbl, hcs⟩ := LR.at HP.out hlt
      obtain ⟨y, cy, hat, hnc, hpr⟩ := hcs k hlt
      obtain ⟨c0, c1, c2, c3, c4, c5, c6, c7, c8⟩ := hat.below (HBB.out _ hB) hbl
      have hnk : (L k).n ≤ 1048576 := Nat.le_trans (cntF_le L hlt) HCN.out
      have hlti : (k : Int) < 4 := by omega
      clear hcs hat hpr hnc x5
      by_cases hz : (L k).n = 0
      · have hz' : decide ((0 : Int) < ((L k).n : Int)) = false := decide_eq_false (by omega)
        have HWN : Hid (wl L (k + 1) = wl L k) := by show _ = _; rw [wl_succ, if_pos hz]
        have hz2 : ¬ 0 < (L k).n := by omega
        clear hz
        go_wp2
        go_roundw
        case rel => exact ⟨k + 1, x, m, cap, f, by omega, by go_num, rfl, JO.alloc HJ.out _, by rw [HWN.out]; exact HWL.out, hB.alloc hB.size _⟩
        case measure => simp [intOf]; omega
      · have hz' : decide ((0 : Int) < ((L k).n : Int)) = true := decide_eq_true (by omega)
        have HWN : Hid (wl L (k + 1) = wl L k ++ [(k : Int)]) := by show _ = _; rw [wl_succ, if_neg hz]
        have hz2 : 0 < (L k).n := by omega
        clear hz
        obtain ⟨V, hV⟩ : ∃ V, (wr.alloc (.cells (lnCells y cy (L k)) 53)).alloc (.cells #[.int .i64 (k : Int)] 3) = V := ⟨_, rfl⟩
        have sV : Sits V (wr.heap.size + 1) #[.int .i64 (k : Int)] 3 := by rw [← hV]; exact Sits.new' (by simp)
        have bV : Below W0.heap.size W0 V := by rw [← hV]; exact (hB.alloc hB.size _).alloc (by simp; have := hB.size; omega) _
        have jV : JO W0.heap.size V x m cap f := by rw [← hV]; exact JO.alloc (JO.alloc HJ.out _) _
        have HV : Hid ((wr.alloc (.cells (lnCells y cy (L k)) 53)).alloc (.cells #[.int .i64 (k : Int)] 3) = V) := hV
        have HBV : Hid (Below W0.heap.size W0 V) := bV
        have HJV : Hid (JO W0.heap.size V x m cap f) := jV
        have HRV : Hid (Row .i64 V (some ⟨wr.heap.size + 1, 0, none⟩) 1 (fun _ => (k : Int))) := .inr ⟨wr.heap.size + 1, 0, rfl, sV.lt, fun i hi => by have e : i = 0 := (by omega); subst e; exact sV.cell 0⟩
        clear hV sV bV jV HJ
        go_wp2_with (at_builtin; rw [HV.out]; refine wpList_append_inN rfl _ _ rfl W0.heap.size x m cap f rfl HJV.out (some ⟨wr.heap.size + 1, 0, none⟩) 1 1 (fun _ => (k : Int)) rfl HRV.out (by have := HM.out; omega) (HBV.out).size ?_; intro x2 cap2 w2 hjo2 hgr2)
        have HB2 : Hid (Below W0.heap.size W0 w2) := Below.grown (B := W0.heap.size) (a := W0) HBV.out hgr2 (HBV.out).size (fun j e => (JO.own_lt HJV.out j e).1)
        go_roundw
        case rel => exact ⟨k + 1, x2, m + 1, cap2, joinI f m (fun _ => (k : Int)), by omega, by go_num, rfl, hjo2, by rw [HWN.out, map_join, HWL.out], HB2.out⟩
        case measure => simp [intOf]; omega
    · obtain rfl : k = 4 := by omega
      have s1 := Sits.below HS0.out hB l0
      have x6 := s1.cell 6
      clear s1 x5
      by_cases hnm : n = m
      case neg =>
        have hnm' : ((n : Int) != (m : Int)) = true := by simp; omega
        have HE : Hid (false = turnB L ((List.range n).map tn)) := by
          show _ = _; symm; unfold turnB; rw [decide_eq_false_iff_not]; intro h
          have h1 := h.length_eq
          rw [← HWL.out] at h1
          simp at h1
          exact hnm h1
        go_wp2
        go_ret
        exact ⟨ret_bool HE.out, HBB.out _ hB⟩
      case pos =>
      have HMN : Hid (n = m) := hnm
      subst hnm
      have hfl := field_list
      have HRB1 : Hid (Row .i64 wr b n tn) := Row.below HRB.out (HBB.out _ hB)
      by_cases hn0 : n = 0
      · subst hn0
        have HE : Hid (true = turnB L ((List.range 0).map tn)) := by
          show _ = _; symm; unfold turnB; exact decide_eq_true (show List.Perm _ _ by rw [← HWL.out]; exact List.Perm.refl _)
        go_wp2_with (first
          | (go_at_call 63; refine (ilistOf_any b 0 c tn _ HNN.out HRB1.out).mono ?_; rintro e w1 ⟨y, cy, rfl, hj1, hb1⟩)
          | (go_at_call 76; refine (isort_zero y cy _).mono ?_; rintro e w2 ⟨rfl, rfl⟩)
          | (go_at_call 77; refine (iequal_any y 0 cy tn x 0 cap f _ HNN.out HNN.out (.inl rfl) (.inl rfl)).mono ?_; rintro e w3 ⟨rfl, hb3⟩))
        go_ret
        refine ⟨ret_bool ?_, HBB.out _ ((HB.out).trans ((hb1.trans (hb3.mono hb1.size)).mono (HB.out).size))⟩
        rw [← HE.out]; simp [eqlB]
      · go_wp2_with (first
          | (go_at_call 63; refine (ilistOf_any b n c tn _ HNN.out HRB1.out).mono ?_; rintro e w1 ⟨y, cy, rfl, hj1, hb1⟩; obtain ⟨g0, hg0, hge, how⟩ : ∃ g, y = some ⟨g, 0, none⟩ ∧ wr.heap.size ≤ g ∧ Own .i64 w1 g n tn := (by rcases hj1.own with e | h; exact absurd e hn0; exact h); subst hg0; have HOW : Hid (Own .i64 w1 g0 n tn) := how; have HB1 : Hid (Below wr.heap.size wr w1) := hb1; have HGE : Hid (wr.heap.size ≤ g0) := hge; clear how hb1 hj1 hge)
          | (go_at_call 76; refine (isort_any g0 n cy tn _ (by have := HM.out; omega) HOW.out).mono ?_; rintro e w2 ⟨rfl, g, hog, hpm, hsr, hch⟩; have HB2 : Hid (Below wr.heap.size wr w2) := (show Below wr.heap.size wr w2 from Chg.bel hch HB1.out HGE.out); have HOG : Hid (Own .i64 w2 g0 n g) := hog; have HPM : Hid (((List.range n).map g).Perm ((List.range n).map tn)) := hpm; have HSR : Hid (srt g n) := hsr; clear hog hpm hsr hch)
          | (go_at_call 77; refine (iequal_any (some ⟨g0, 0, none⟩) n cy g x n cap f _ HNN.out HNN.out (.inr ⟨g0, 0, rfl, (HOG.out).1, fun i hi => by rw [Nat.zero_add]; exact ((HOG.out).2 i hi).1⟩) (Row.below (JO.row HJ.out) HB2.out)).mono ?_; rintro e w3 ⟨rfl, hb3⟩))
        go_ret
        refine ⟨ret_bool ?_, HBB.out _ ((HB.out).trans (((HB2.out).trans (hb3.mono (HB2.out).size)).mono (HB.out).size))⟩
        unfold eqlB
        rw [HWL.out]
        exact turn_sorted HPM.out HSR.out

def numB (s : Sh) : Bool := decide (numP s)

set_option maxHeartbeats 2000000 in
theorem inumOk_any (s : Sh) (a : Option Addr) (N ca : Nat) (b : Option Addr) (n c : Nat) (w : World) :
    Calls Try.prog 57 #[shVal s a N ca b n c] w fun e w' => e = .returned (.bool (numB s)) ∧ Below w.heap.size w w' := by
  obtain ⟨rt, ov, nx, qt, lim⟩ := s
  have s0 := Sits.new w (shCells ⟨rt, ov, nx, qt, lim⟩ a N ca b n c) 29
  have b0 : Below w.heap.size w (w.alloc (.cells (shCells ⟨rt, ov, nx, qt, lim⟩ a N ca b n c) 29)) := (Below.refl _ w).alloc (Nat.le_refl _) _
  have HB0 : Hid (Below _ _ _) := b0
  have HN : Hid (numB ⟨rt, ov, nx, qt, lim⟩ = (inB rt 1000 1000000000000 && inB ov 0 200 && inB nx 0 4000000000000 && inB qt 1 10000 && inB lim 1 40)) := by
    show _ = _
    unfold numB inB
    rw [Bool.eq_iff_iff]
    simp only [numP, Bool.and_eq_true, decide_eq_true_eq, and_assoc]
  have HC : inB rt 1000 1000000000000 = false ∨ (inB rt 1000 1000000000000 = true ∧ inB ov 0 200 = false) ∨ (inB rt 1000 1000000000000 = true ∧ inB ov 0 200 = true ∧ inB nx 0 4000000000000 = false) ∨ (inB rt 1000 1000000000000 = true ∧ inB ov 0 200 = true ∧ inB nx 0 4000000000000 = true ∧ inB qt 1 10000 = false) ∨ (inB rt 1000 1000000000000 = true ∧ inB ov 0 200 = true ∧ inB nx 0 4000000000000 = true ∧ inB qt 1 10000 = true) := by
    cases inB rt 1000 1000000000000 <;> cases inB ov 0 200 <;> cases inB nx 0 4000000000000 <;> cases inB qt 1 10000 <;> simp
  clear s0 b0
  rcases HC with h1 | ⟨h1, h2⟩ | ⟨h1, h2, h3⟩ | ⟨h1, h2, h3, h4⟩ | ⟨h1, h2, h3, h4⟩
  all_goals
    go_enter Try.func57, Try.ntmps57
    go_wp2_with (go_at_call 31; refine (within_any _ _ _ _).mono ?_; rintro e w' ⟨rfl, rfl⟩)
    all_goals
      go_ret
      refine ⟨ret_bool ?_, HB0.out⟩
      rw [HN.out]
      simp [*]

end Go.Proofs.Ytmjggolllijamaa

/-
  WHICH SHAPES ARE WELL, AS THE PROGRAM SAYS: ShapeOk.
-/
namespace Go.Proofs.Ytmjggolllijamaa
open Go.RowKit
set_option linter.unusedVariables false

def hllP (L : Nat → Ln) (k : Nat) : Prop := ∀ i : Nat, i < k → hlnP (i : Int) (L i)

set_option maxRecDepth 100000 in
set_option maxHeartbeats 8000000 in
theorem ishapeOk_any (s : Sh) (a : Option Addr) (N ca : Nat) (b : Option Addr) (n c : Nat) (L : Nat → Ln) (tn : Nat → Int) (w : World)
    (hN : N ≤ 1048576) (hcn : cntF L N ≤ 1048576) (hnn : n ≤ 1048576) (hP : LR w.heap.size w a N L) (hb : Row .i64 w b n tn) :
    Calls Try.prog 21 #[shVal s a N ca b n c] w fun e w' => e = .returned (.bool (shB s N L ((List.range n).map tn))) ∧ Below w.heap.size w w' := by
  obtain ⟨rt, ov, nx, qt, lim⟩ := s
  have HP : Hid (LR w.heap.size w a N L) := hP
  have HRB : Hid (Row .i64 w b n tn) := hb
  have HN : Hid (N ≤ 1048576) := hN
  have HCN : Hid (cntF L N ≤ 1048576) := hcn
  have HNN : Hid (n ≤ 1048576) := hnn
  have hNi : (N : Int) ≤ 1048576 := by omega
  clear hP hb hN hcn hnn
  obtain ⟨ts, hts⟩ : ∃ l, (List.range n).map tn = l := ⟨_, rfl⟩
  have HTS : Hid ((List.range n).map tn = ts) := hts
  rw [hts]
  clear hts
  obtain ⟨W0, hW0⟩ : ∃ W, w.alloc (.cells (shCells ⟨rt, ov, nx, qt, lim⟩ a N ca b n c) 29) = W := ⟨_, rfl⟩
  have s0 : Sits W0 w.heap.size (shCells ⟨rt, ov, nx, qt, lim⟩ a N ca b n c) 29 := by rw [← hW0]; exact Sits.new _ _ _
  have b0 : Below w.heap.size w W0 := by rw [← hW0]; exact (Below.refl _ w).alloc (Nat.le_refl _) _
  have HW0 : Hid (w.alloc (.cells (shCells ⟨rt, ov, nx, qt, lim⟩ a N ca b n c) 29) = W0) := hW0
  have HB0 : Hid (Below _ _ _) := b0
  have x0 := s0.cell 0
  have x1 := s0.cell 1
  have x2 := s0.cell 2
  have x3 := s0.cell 3
  have x4 := s0.cell 4
  have x5 := s0.cell 5
  have x6 := s0.cell 6
  have l0 := s0.lt
  clear s0 b0 hW0
  have HBB : Hid (∀ w', Below W0.heap.size W0 w' → Below w.heap.size w w') := fun w' hw' => (HB0.out).trans (hw'.mono (HB0.out).size)
  go_enter Try.func21, Try.ntmps21
  go_upto_region 1 with fail
  rw [HW0.out]
  clear HW0
  cases t0 : numB ⟨rt, ov, nx, qt, lim⟩
  case false =>
    have HE : Hid (false = shB ⟨rt, ov, nx, qt, lim⟩ N L ts) := sh_no (fun h => by have h1 := h.1; unfold numB at t0; simp [h1] at t0)
    refine wp_region_quiet (C := fun w' => Below W0.heap.size W0 w') (by kernel_rfl) (by kernel_rfl) ((Below.refl _ _).drew) ?_
    simp only []
    repeat (first
      | go_big_quiet_skip
      | (go_big_quiet_want
         unfold Oper.quiet
         apply Exists.intro
         refine ⟨fun w' hw' => ?_, ?_⟩
         (have z0 := (hw'.cell (p := ⟨w.heap.size, 0, none⟩) (by show w.heap.size < _; omega)).trans x0
          have z1 := (hw'.cell (p := ⟨w.heap.size, 1, none⟩) (by show w.heap.size < _; omega)).trans x1
          have z2 := (hw'.cell (p := ⟨w.heap.size, 2, none⟩) (by show w.heap.size < _; omega)).trans x2
          have z3 := (hw'.cell (p := ⟨w.heap.size, 3, none⟩) (by show w.heap.size < _; omega)).trans x3
          have z4 := (hw'.cell (p := ⟨w.heap.size, 4, none⟩) (by show w.heap.size < _; omega)).trans x4
          have z5 := (hw'.cell (p := ⟨w.heap.size, 5, none⟩) (by show w.heap.size < _; omega)).trans x5
          have z6 := (hw'.cell (p := ⟨w.heap.size, 6, none⟩) (by show w.heap.size < _; omega)).trans x6
          go_simp
          first
            | (go_at_call 57; refine (inumOk_any ⟨rt, ov, nx, qt, lim⟩ a N ca b n c _).mono ?_; rintro e w1 ⟨rfl, hb1⟩; exact ⟨by rw [t0], hw'.trans (hb1.mono hw'.size)⟩)
            | exact rfl)
         simp only [Act.put, List.setIfInBounds_toArray, List.set_cons_zero, List.set_cons_succ]
         go_big_quiet_on))
    refine wpQuiet_nil ?_
    intro w2 hw2
    go_wp2
    go_ret
    exact ⟨ret_bool HE.out, HBB.out _ hw2⟩
  case true =>
  by_cases t1 : N = 4
  case neg =>
    have t1' : ((N : Int) != 4) = true := by simp; omega
    have HE : Hid (false = shB ⟨rt, ov, nx, qt, lim⟩ N L ts) := sh_no (fun h => by exact t1 h.2.1)
    refine wp_region_quiet (C := fun w' => Below W0.heap.size W0 w') (by kernel_rfl) (by kernel_rfl) ((Below.refl _ _).drew) ?_
    simp only []
    repeat (first
      | go_big_quiet_skip
      | (go_big_quiet_want
         unfold Oper.quiet
         apply Exists.intro
         refine ⟨fun w' hw' => ?_, ?_⟩
         (have z0 := (hw'.cell (p := ⟨w.heap.size, 0, none⟩) (by show w.heap.size < _; omega)).trans x0
          have z1 := (hw'.cell (p := ⟨w.heap.size, 1, none⟩) (by show w.heap.size < _; omega)).trans x1
          have z2 := (hw'.cell (p := ⟨w.heap.size, 2, none⟩) (by show w.heap.size < _; omega)).trans x2
          have z3 := (hw'.cell (p := ⟨w.heap.size, 3, none⟩) (by show w.heap.size < _; omega)).trans x3
          have z4 := (hw'.cell (p := ⟨w.heap.size, 4, none⟩) (by show w.heap.size < _; omega)).trans x4
          have z5 := (hw'.cell (p := ⟨w.heap.size, 5, none⟩) (by show w.heap.size < _; omega)).trans x5
          have z6 := (hw'.cell (p := ⟨w.heap.size, 6, none⟩) (by show w.heap.size < _; omega)).trans x6
          go_simp
          first
            | (go_at_call 57; refine (inumOk_any ⟨rt, ov, nx, qt, lim⟩ a N ca b n c _).mono ?_; rintro e w1 ⟨rfl, hb1⟩; exact ⟨by rw [t0], hw'.trans (hb1.mono hw'.size)⟩)
            | exact rfl)
         simp only [Act.put, List.setIfInBounds_toArray, List.set_cons_zero, List.set_cons_succ]
         go_big_quiet_on))
    refine wpQuiet_nil ?_
    intro w2 hw2
    go_wp2
    go_ret
    exact ⟨ret_bool HE.out, HBB.out _ hw2⟩
  case pos =>
  subst t1
  by_cases t2 : lim < (cntF L 4 : Int)
  · have t2' : decide (lim < (cntF L 4 : Int)) = true := by simpa using t2
    have HE : Hid (false = shB ⟨rt, ov, nx, qt, lim⟩ 4 L ts) := sh_no (fun h => by have := h.2.2.1; dsimp only at this; omega)
    refine wp_region_quiet (C := fun w' => Below W0.heap.size W0 w') (by kernel_rfl) (by kernel_rfl) ((Below.refl _ _).drew) ?_
    simp only []
    repeat (first
      | go_big_quiet_skip
      | (go_big_quiet_want
         unfold Oper.quiet
         apply Exists.intro
         refine ⟨fun w' hw' => ?_, ?_⟩
         (have z0 := (hw'.cell (p := ⟨w.heap.size, 0, none⟩) (by show w.heap.size < _; omega)).trans x0
          have z1 := (hw'.cell (p := ⟨w.heap.size, 1, none⟩) (by show w.heap.size < _; omega)).trans x1
          have z2 := (hw'.cell (p := ⟨w.heap.size, 2, none⟩) (by show w.heap.size < _; omega)).trans x2
          have z3 := (hw'.cell (p := ⟨w.heap.size, 3, none⟩) (by show w.heap.size < _; omega)).trans x3
          have z4 := (hw'.cell (p := ⟨w.heap.size, 4, none⟩) (by show w.heap.size < _; omega)).trans x4
          have z5 := (hw'.cell (p := ⟨w.heap.size, 5, none⟩) (by show w.heap.size < _; omega)).trans x5
          have z6 := (hw'.cell (p := ⟨w.heap.size, 6, none⟩) (by show w.heap.size < _; omega)).trans x6
          go_simp
          first
            | (go_at_call 57; refine (inumOk_any ⟨rt, ov, nx, qt, lim⟩ a 4 ca b n c _).mono ?_; rintro e w1 ⟨rfl, hb1⟩; exact ⟨by rw [t0], hw'.trans (hb1.mono hw'.size)⟩)
            | (go_at_call 50; refine (icountOf_any a 4 ca L _ HN.out HCN.out (LR.go HP.out (HBB.out _ hw') (HBB.out _ hw').size)).mono ?_; rintro e w1 ⟨rfl, hb1⟩; exact ⟨rfl, hw'.trans (hb1.mono hw'.size)⟩)
            | exact rfl)
         simp only [Act.put, List.setIfInBounds_toArray, List.set_cons_zero, List.set_cons_succ]
         go_big_quiet_on))
    refine wpQuiet_nil ?_
    intro w2 hw2
    go_wp2
    go_ret
    exact ⟨ret_bool HE.out, HBB.out _ hw2⟩
  have t2' : decide (lim < (cntF L 4 : Int)) = false := by simpa using t2
  cases t3 : turnB L ts
  case false =>
    have HE : Hid (false = shB ⟨rt, ov, nx, qt, lim⟩ 4 L ts) := sh_no (fun h => by have h1 := h.2.2.2.1; unfold turnB at t3; simp [h1] at t3)
    refine wp_region_quiet (C := fun w' => Below W0.heap.size W0 w') (by kernel_rfl) (by kernel_rfl) ((Below.refl _ _).drew) ?_
    simp only []
    repeat (first
      | go_big_quiet_skip
      | (go_big_quiet_want
         unfold Oper.quiet
         apply Exists.intro
         refine ⟨fun w' hw' => ?_, ?_⟩
         (have z0 := (hw'.cell (p := ⟨w.heap.size, 0, none⟩) (by show w.heap.size < _; omega)).trans x0
          have z1 := (hw'.cell (p := ⟨w.heap.size, 1, none⟩) (by show w.heap.size < _; omega)).trans x1
          have z2 := (hw'.cell (p := ⟨w.heap.size, 2, none⟩) (by show w.heap.size < _; omega)).trans x2
          have z3 := (hw'.cell (p := ⟨w.heap.size, 3, none⟩) (by show w.heap.size < _; omega)).trans x3
          have z4 := (hw'.cell (p := ⟨w.heap.size, 4, none⟩) (by show w.heap.size < _; omega)).trans x4
          have z5 := (hw'.cell (p := ⟨w.heap.size, 5, none⟩) (by show w.heap.size < _; omega)).trans x5
          have z6 := (hw'.cell (p := ⟨w.heap.size, 6, none⟩) (by show w.heap.size < _; omega)).trans x6
          go_simp
          first
            | (go_at_call 57; refine (inumOk_any ⟨rt, ov, nx, qt, lim⟩ a 4 ca b n c _).mono ?_; rintro e w1 ⟨rfl, hb1⟩; exact ⟨by rw [t0], hw'.trans (hb1.mono hw'.size)⟩)
            | (go_at_call 50; refine (icountOf_any a 4 ca L _ HN.out HCN.out (LR.go HP.out (HBB.out _ hw') (HBB.out _ hw').size)).mono ?_; rintro e w1 ⟨rfl, hb1⟩; exact ⟨rfl, hw'.trans (hb1.mono hw'.size)⟩)
            | (go_at_call 58; refine (iturnOk_any ⟨rt, ov, nx, qt, lim⟩ a ca b n c L tn _ HCN.out HNN.out (LR.go HP.out (HBB.out _ hw') (HBB.out _ hw').size) (Row.below HRB.out (HBB.out _ hw'))).mono ?_; rintro e w1 ⟨rfl, hb1⟩; exact ⟨by rw [HTS.out, t3], hw'.trans (hb1.mono hw'.size)⟩)
            | exact rfl)
         simp only [Act.put, List.setIfInBounds_toArray, List.set_cons_zero, List.set_cons_succ]
         go_big_quiet_on))
    refine wpQuiet_nil ?_
    intro w2 hw2
    go_wp2
    go_ret
    exact ⟨ret_bool HE.out, HBB.out _ hw2⟩
  case true =>
  refine wp_region_quiet (C := fun w' => Below W0.heap.size W0 w') (by kernel_rfl) (by kernel_rfl) ((Below.refl _ _).drew) ?_
  simp only []
  repeat (first
    | go_big_quiet_skip
    | (go_big_quiet_want
       unfold Oper.quiet
       apply Exists.intro
       refine ⟨fun w' hw' => ?_, ?_⟩
       (have z0 := (hw'.cell (p := ⟨w.heap.size, 0, none⟩) (by show w.heap.size < _; omega)).trans x0
        have z1 := (hw'.cell (p := ⟨w.heap.size, 1, none⟩) (by show w.heap.size < _; omega)).trans x1
        have z2 := (hw'.cell (p := ⟨w.heap.size, 2, none⟩) (by show w.heap.size < _; omega)).trans x2
        have z3 := (hw'.cell (p := ⟨w.heap.size, 3, none⟩) (by show w.heap.size < _; omega)).trans x3
        have z4 := (hw'.cell (p := ⟨w.heap.size, 4, none⟩) (by show w.heap.size < _; omega)).trans x4
        have z5 := (hw'.cell (p := ⟨w.heap.size, 5, none⟩) (by show w.heap.size < _; omega)).trans x5
        have z6 := (hw'.cell (p := ⟨w.heap.size, 6, none⟩) (by show w.heap.size < _; omega)).trans x6
        go_simp
        first
          | (go_at_call 57; refine (inumOk_any ⟨rt, ov, nx, qt, lim⟩ a 4 ca b n c _).mono ?_; rintro e w1 ⟨rfl, hb1⟩; exact ⟨by rw [t0], hw'.trans (hb1.mono hw'.size)⟩)
          | (go_at_call 50; refine (icountOf_any a 4 ca L _ HN.out HCN.out (LR.go HP.out (HBB.out _ hw') (HBB.out _ hw').size)).mono ?_; rintro e w1 ⟨rfl, hb1⟩; exact ⟨rfl, hw'.trans (hb1.mono hw'.size)⟩)
          | (go_at_call 58; refine (iturnOk_any ⟨rt, ov, nx, qt, lim⟩ a ca b n c L tn _ HCN.out HNN.out (LR.go HP.out (HBB.out _ hw') (HBB.out _ hw').size) (Row.below HRB.out (HBB.out _ hw'))).mono ?_; rintro e w1 ⟨rfl, hb1⟩; exact ⟨by rw [HTS.out, t3], hw'.trans (hb1.mono hw'.size)⟩)
          | exact rfl)
       simp only [Act.put, List.setIfInBounds_toArray, List.set_cons_zero, List.set_cons_succ]
       go_big_quiet_on))
  refine wpQuiet_nil ?_
  intro w2 hw2
  have HNUM : Hid (numP ⟨rt, ov, nx, qt, lim⟩) := (show numP ⟨rt, ov, nx, qt, lim⟩ by have h1 := t0; unfold numB at h1; simpa using h1)
  have HTU : Hid (turnP L ts) := (show turnP L ts by have h1 := t3; unfold turnB at h1; simpa using h1)
  have HCL : Hid ((cntF L 4 : Int) ≤ lim) := by show _ ≤ _; omega
  have zz := (hw2.cell (p := ⟨w.heap.size, 5, none⟩) l0).trans x5
  have HW2 : Hid (Below W0.heap.size W0 w2) := hw2
  clear hw2 t0 t2 t2' t3
  go_wp2
  go_loopw [30] (fun i wr => ∃ k : Nat, k ≤ 4 ∧ i = .int .i64 (k : Int) ∧ hllP L k ∧ Below W0.heap.size W0 wr) (fun i _ => 4 - (intOf i).toNat)
  case atStart => exact ⟨0, Nat.zero_le _, rfl, fun i hi => absurd hi (Nat.not_lt_zero _), HW2.out⟩
  case round =>
    obtain ⟨k, hk, rfl, hall, hB⟩ := hrel
    have HA : Hid (hllP L k) := hall
    have HB : Hid (Below W0.heap.size W0 wr) := hB
    clear hall zz HW2
    by_cases hlt : k < 4
    · obtain ⟨b1, off, rfl, hbl, hcs⟩ := LR.at HP.out hlt
      obtain ⟨x, cx, hat, hnc, hpr⟩ := hcs k hlt
      have hBw := HBB.out _ hB
      obtain ⟨c0, c1, c2, c3, c4, c5, c6, c7, c8⟩ := hat.below hBw hbl
      have HPR : Hid (PR w.heap.size w x (L k).n (L k).f) := hpr
      have HNK : Hid ((L k).n ≤ 1048576) := Nat.le_trans (cntF_le L hlt) HCN.out
      have HNC : Hid ((L k).n ≤ cx) := hnc
      have hlti : (k : Int) < 4 := by omega
      clear hcs hat hpr hnc hB hBw
      go_upto_region 6 with fail
      obtain ⟨v, hv⟩ : ∃ v, wr.alloc (.cells (lnCells x cx (L k)) 53) = v := ⟨_, rfl⟩
      have sv : Sits v wr.heap.size (lnCells x cx (L k)) 53 := by rw [← hv]; exact Sits.new _ _ _
      have bv : Below W0.heap.size W0 v := by rw [← hv]; exact (HB.out).alloc (HB.out).size _
      rw [hv]
      obtain ⟨B, hBq⟩ : ∃ B, wr.heap.size = B := ⟨_, rfl⟩
      rw [hBq] at sv ⊢
      have HBV : Hid (Below W0.heap.size W0 v) := bv
      have y0 := sv.cell 0
      have y1 := sv.cell 1
      have y2 := sv.cell 2
      have y3 := sv.cell 3
      have y4 := sv.cell 4
      have y5 := sv.cell 5
      have y6 := sv.cell 6
      have y7 := sv.cell 7
      have y8 := sv.cell 8
      clear hv sv bv hBq HB c0 c1 c2 c3 c4 c5 c6 c7 c8
      cases hf : hlB (k : Int) (L k)
      case false =>
        have HE : Hid (false = shB ⟨rt, ov, nx, qt, lim⟩ 4 L ts) := sh_no (fun h => by have := hl_iff.1 (h.2.2.2.2 k hlt); unfold hlB at hf; simp [this] at hf)
        go_wp2_with (go_at_call 59; refine (ihostLineOk_any x cx (L k) (k : Int) _ HNK.out HNC.out ((PR.below HPR.out (HBB.out _ HBV.out)).mono (HBB.out _ HBV.out).size)).mono ?_; rintro e w3 ⟨rfl, b3⟩; rw [hf]; have HB3 : Hid (Below W0.heap.size W0 w3) := (HBV.out).trans (b3.mono (HBV.out).size); clear b3)
        go_ret
        exact ⟨ret_bool HE.out, HBB.out _ HB3.out⟩
      case true =>
        have HFL : Hid (hlnP (k : Int) (L k)) := (show hlnP (k : Int) (L k) by have hf2 := hf; unfold hlB at hf2; exact hl_iff.2 (by simpa using hf2))
        go_wp2_with (go_at_call 59; refine (ihostLineOk_any x cx (L k) (k : Int) _ HNK.out HNC.out ((PR.below HPR.out (HBB.out _ HBV.out)).mono (HBB.out _ HBV.out).size)).mono ?_; rintro e w3 ⟨rfl, b3⟩; rw [hf]; have HB3 : Hid (Below W0.heap.size W0 w3) := (HBV.out).trans (b3.mono (HBV.out).size); clear b3)
        go_roundw
        case rel => exact ⟨k + 1, by omega, by go_num, fun i hi => by by_cases e : i = k; · rw [e]; exact HFL.out
                                                                      · exact HA.out i (by omega), HB3.out⟩
        case measure => simp [intOf]; omega
    · obtain rfl : k = 4 := by omega
      have HE : Hid (true = shB ⟨rt, ov, nx, qt, lim⟩ 4 L ts) := sh_yes ⟨HNUM.out, rfl, HCL.out, HTU.out, HA.out⟩
      go_wp2
      go_ret
      exact ⟨ret_bool HE.out, HBB.out _ hB⟩

end Go.Proofs.Ytmjggolllijamaa

/-
  A SHAPE COPIED BY THE PROGRAM: ownShape: all its memory is new, and no two lists share any.
-/
namespace Go.Proofs.Ytmjggolllijamaa
open Go.RowKit
set_option linter.unusedVariables false

/-- Where the lines of a list and their packets lie. -/
theorem LR.pick {n₀ : Nat} {w : World} {a : Option Addr} {N : Nat} {L : Nat → Ln} (h : LR n₀ w a N L) (hN : N ≠ 0) : ∃ (b off : Nat) (A : Nat → Option Addr) (C : Nat → Nat), a = some ⟨b, off, none⟩ ∧ b < n₀ ∧ ∀ i, i < N → LAt w b (off + i * 9) (A i) (C i) (L i) ∧ (L i).n ≤ C i ∧ PR n₀ w (A i) (L i).n (L i).f := by
  obtain ⟨b, off, ha, hb, hc⟩ := LR.at h (j := 0) (by omega)
  obtain ⟨A, hA⟩ := Go.Deep.choose_lt hc
  obtain ⟨C, hC⟩ := Go.Deep.choose_lt hA
  exact ⟨b, off, A, C, ha, hb, hC⟩

/-- Lines onto none. -/
theorem wp_append_lnN {w : World} {o : Oper} {a : Act} {K : Act → World → Prop} {Q : Exit → Act → World → Prop} (s x : Operand)
    (ho : o.op = .call { callee := .builtin .append, args := #[s, x], argTypes := #[27, 27] })
    (base : Nat) (hs : a.eval s = .slice none 0 0)
    (b off m c : Nat) (A : Nat → Option Addr) (C : Nat → Nat) (L : Nat → Ln) (hx : a.eval x = .slice (some ⟨b, off, none⟩) m c) (hr : ∀ i, i < m → LAt w b (off + i * 9) (A i) (C i) (L i)) (hm : m ≤ 1048576) (h0 : m ≠ 0) (hbase : base ≤ w.heap.size)
    (h : ∀ g cap w', LP base w' (some ⟨g, 0, none⟩) m cap A C L → w.grownBy w' none → K (a.put o.dst (.slice (some ⟨g, 0, none⟩) m cap)) w') : o.wp Try.prog a w K Q := by
  obtain ⟨i0, hi0, hz0, hz1, hz2⟩ := infoLine_parts
  refine wp_append_lies w s x 27 ho base 53 i0 _ 9 88 Try.underlying27 hi0 hz0 hz1 hz2 rfl (by omega) (.slice none 0 0) 0 [] hs (World.ownsRow_nil _ _ _ _) ⟨b, off, none⟩ m c (lnL A C L m) hx (lnL_len A C L m) ?_ ?_ (by omega) (by unfold maxLen; omega) (by omega) hbase _ rfl ?_
  · intro j u hu
    have hj : j < m * 9 := by
      have := (List.getElem?_eq_some_iff.1 hu).1
      rw [lnL_len] at this
      exact this
    have e : j = j / 9 * 9 + j % 9 := by omega
    rw [e, lnL_get A C L (j / 9) (j % 9) (Nat.mod_lt _ (by omega)) m (by omega)] at hu
    rw [WideShapes.add_plain]
    obtain ⟨c0, c1, c2, c3, c4, c5, c6, c7, c8⟩ := hr (j / 9) (by omega)
    have e2 : off + j = off + j / 9 * 9 + j % 9 := by omega
    rw [e2]
    have ht : j % 9 < 9 := Nat.mod_lt _ (by omega)
    generalize j % 9 = t at hu ht
    have hc : t = 0 ∨ t = 1 ∨ t = 2 ∨ t = 3 ∨ t = 4 ∨ t = 5 ∨ t = 6 ∨ t = 7 ∨ t = 8 := by omega
    rcases hc with rfl | rfl | rfl | rfl | rfl | rfl | rfl | rfl | rfl <;> (simp at hu; subst hu; simpa using ‹_›)
  · intro u hu
    unfold lnL at hu
    obtain ⟨l, hl, hul⟩ := List.mem_flatten.1 hu
    obtain ⟨i, _, rfl⟩ := List.mem_map.1 hl
    simp at hul
    rcases hul with rfl | rfl | rfl | rfl | rfl | rfl | rfl | rfl | rfl <;> rfl
  · intro g cp w' h1 h2 h3 h4
    rw [Nat.zero_add] at h1 ⊢
    exact h g cp w' (by simpa [LP] using h1) h2
theorem wpList_append_lnN {w : World} {ops : Array Oper} {rest : List Oper} {o : Oper} {a : Act} {Q : Exit → Act → World → Prop} (hgd : o.guard = none) (s x : Operand)
    (ho : o.op = .call { callee := .builtin .append, args := #[s, x], argTypes := #[27, 27] })
    (base : Nat) (hs : a.eval s = .slice none 0 0)
    (b off m c : Nat) (A : Nat → Option Addr) (C : Nat → Nat) (L : Nat → Ln) (hx : a.eval x = .slice (some ⟨b, off, none⟩) m c) (hr : ∀ i, i < m → LAt w b (off + i * 9) (A i) (C i) (L i)) (hm : m ≤ 1048576) (h0 : m ≠ 0) (hbase : base ≤ w.heap.size)
    (h : ∀ g cap w', LP base w' (some ⟨g, 0, none⟩) m cap A C L → w.grownBy w' none → wpList Try.prog ops Q rest (a.put o.dst (.slice (some ⟨g, 0, none⟩) m cap)) w') : wpList Try.prog ops Q (o :: rest) a w :=
  wpList_plain hgd fun _ hK => wp_append_lnN s x ho base hs b off m c A C L hx hr hm h0 hbase fun g cap w' h2 h3 => hK _ _ (h g cap w' h2 h3)

/-- Half copied: the first k lines have packets of their own. -/
structure OwnK (b2 : Nat) (wr : World) (X k : Nat) (A A0 : Nat → Option Addr) (C C0 : Nat → Nat) (L : Nat → Ln) (y : Option Addr) (n cy : Nat) (tn : Nat → Int) : Prop where
  lo : b2 ≤ X
  sits : ∃ vs t, Sits wr X vs t ∧ 4 * 9 ≤ vs.size ∧ ∀ i, i < 4 → LV vs (i * 9) (if i < k then A i else A0 i) (if i < k then C i else C0 i) (L i)
  po : ∀ i, i < k → PO b2 wr (A i) (L i).n (C i) (L i).f
  ox : ∀ i, i < k → ∀ g, A i = some g → g.block ≠ X
  oo : ∀ i j, i < k → j < k → i ≠ j → Off (A i) (A j)
  jo : JO b2 wr y n cy tn
  xy : ∀ g, y = some g → g.block ≠ X
  oy : ∀ i, i < k → Off (A i) y

/-- Where lines of one's own lie. -/
theorem LP.sv {base : Nat} {w : World} {X : Nat} {N cap : Nat} {A : Nat → Option Addr} {C : Nat → Nat} {L : Nat → Ln} (h : LP base w (some ⟨X, 0, none⟩) N cap A C L) (hN : N ≠ 0) :
    base ≤ X ∧ ∃ vs t, Sits w X vs t ∧ N * 9 ≤ vs.size ∧ ∀ i, i < N → LV vs (i * 9) (A i) (C i) (L i) := by
  obtain ⟨hl, ⟨hv, h0⟩ | ⟨g, cp, cur, hv, hbs, hh, e1, e2, e3, e4⟩⟩ := h
  · exact absurd h0 hN
  · simp only [Value.slice.injEq] at hv
    obtain ⟨ha, _, rfl⟩ := hv
    cases ha
    refine ⟨hbs, cur, _, hh, by rw [e3]; omega, fun i hi => ?_⟩
    have c : ∀ t, t < 9 → cur[i * 9 + t]? = (lnCells (A i) (C i) (L i))[t]? := fun t ht => by
      rw [← lnL_get A C L i t ht N hi, ← e4, List.getElem?_take_of_lt (by omega), Array.getElem?_toList]
    exact ⟨c 0 (by omega), c 1 (by omega), c 2 (by omega), c 3 (by omega), c 4 (by omega), c 5 (by omega), c 6 (by omega), c 7 (by omega), c 8 (by omega)⟩

theorem OwnK.lt {b2 : Nat} {wr : World} {X k : Nat} {A A0 : Nat → Option Addr} {C C0 : Nat → Nat} {L : Nat → Ln} {y : Option Addr} {n cy : Nat} {tn : Nat → Int} (h : OwnK b2 wr X k A A0 C C0 L y n cy tn) : X < wr.heap.size := by
  obtain ⟨vs, t, hs, _⟩ := h.sits
  exact hs.lt
/-- One more has its own. -/
theorem OwnK.next {b2 : Nat} {wr w1 : World} {X k : Nat} {A A0 : Nat → Option Addr} {C C0 : Nat → Nat} {L : Nat → Ln} {y : Option Addr} {n cy : Nat} {tn : Nat → Int} (h : OwnK b2 wr X k A A0 C C0 L y n cy tn) (hk : k < 4)
    (hb : Below wr.heap.size wr w1) {x' : Option Addr} {c' : Nat} (hp : PO wr.heap.size w1 x' (L k).n c' (L k).f) (h2 : b2 ≤ wr.heap.size) :
    OwnK b2 (w1.setCell ⟨X, k * 9, none⟩ (.slice x' (L k).n c')) X (k + 1) (fun i => if i = k then x' else A i) A0 (fun i => if i = k then c' else C i) C0 L y n cy tn := by
  have hX := h.lt
  have hab : Above wr.heap.size x' := hp.above
  obtain ⟨vs, t, hs, h1, hv⟩ := h.sits
  have hs1 : Sits w1 X vs t := hs.below hb hX
  have hxX : ∀ g, x' = some g → g.block ≠ X := fun g hg => by have := hab g hg; omega
  refine ⟨h.lo, ⟨_, t, hs1.set (k * 9) _, by simpa using h1, fun i hi => ?_⟩, fun i hi => ?_, fun i hi g hg => ?_, fun i j hi hj hne => ?_, (h.jo.keep (below_keep hb h.jo.undr)).keep (set_keep _ _ h.xy), h.xy, fun i hi => ?_⟩ <;> (try dsimp only at *)
  · have := lv_set0 h1 hk hv x' c' (L k).n (L k).f i hi
    by_cases e : i = k
    · subst e
      simp only [if_true] at this
      rw [if_pos (by omega), if_pos rfl, if_pos (by omega), if_pos rfl]
      exact this
    · rw [if_neg e, if_neg e, if_neg e] at this
      by_cases e2 : i < k
      · rw [if_pos e2, if_pos e2] at this
        rw [if_pos (by omega), if_neg e, if_pos (by omega), if_neg e]; exact this
      · rw [if_neg e2, if_neg e2] at this
        rw [if_neg (by omega), if_neg (by omega)]; exact this
  · by_cases e : i = k
    · subst e; simp only [if_true]; exact (hp.mono h2).keep (set_keep _ _ hxX)
    · rw [if_neg e, if_neg e]
      exact ((h.po i (by omega)).keep (below_keep hb (h.po i (by omega)).under)).keep (set_keep _ _ (h.ox i (by omega)))
  · by_cases e : i = k
    · rw [if_pos e] at hg; exact hxX g hg
    · rw [if_neg e] at hg; exact h.ox i (by omega) g hg
  · have an : ∀ i, i < k → Off (A i) x' := fun i hi => off_of (h.po i hi).under hab
    by_cases e1 : i = k
    · by_cases e2 : j = k
      · omega
      · rw [if_pos e1, if_neg e2]; exact (an j (by omega)).symm
    · by_cases e2 : j = k
      · rw [if_neg e1, if_pos e2]; exact an i (by omega)
      · rw [if_neg e1, if_neg e2]; exact h.oo i j (by omega) (by omega) hne
  · by_cases e : i = k
    · rw [if_pos e]; exact (off_of h.jo.undr hab).symm
    · rw [if_neg e]; exact h.oy i (by omega)
theorem OwnK.done {b2 : Nat} {wr : World} {X : Nat} {A A0 : Nat → Option Addr} {C C0 : Nat → Nat} {L : Nat → Ln} {y : Option Addr} {n cy : Nat} {tn : Nat → Int} (h : OwnK b2 wr X 4 A A0 C C0 L y n cy tn) : LQ b2 wr X 4 A C L ∧ TQ b2 wr y n cy tn X 4 A := by
  obtain ⟨vs, t, hs, h1, hv⟩ := h.sits
  exact ⟨⟨h.lo, ⟨vs, t, hs, h1, fun i hi => by have := hv i hi; rw [if_pos hi, if_pos hi] at this; exact this⟩, h.po, h.ox, h.oo⟩, h.jo, h.xy, h.oy⟩

set_option maxRecDepth 100000 in
set_option maxHeartbeats 4000000 in
theorem iownShape_any (s : Sh) (a : Option Addr) (ca : Nat) (b : Option Addr) (n c : Nat) (L : Nat → Ln) (tn : Nat → Int) (w : World)
    (hcn : cntF L 4 ≤ 1048576) (hnn : n ≤ 1048576) (hP : LR w.heap.size w a 4 L) (hb : Row .i64 w b n tn) :
    Calls Try.prog 32 #[shVal s a 4 ca b n c] w fun e w' => ∃ (B : Nat) (A : Nat → Option Addr) (C : Nat → Nat) (cl : Nat) (y : Option Addr) (cy : Nat), e = .returned (shVal s (some ⟨B, 0, none⟩) 4 cl y n cy) ∧ LQ w.heap.size w' B 4 A C L ∧ TQ w.heap.size w' y n cy tn B 4 A ∧ Below w.heap.size w w' := by
  obtain ⟨b1, off, A0, C0, rfl, hbl, hat0⟩ := LR.pick hP (by omega)
  have HAT : Hid (∀ i, i < 4 → LAt w b1 (off + i * 9) (A0 i) (C0 i) (L i) ∧ (L i).n ≤ C0 i ∧ PR w.heap.size w (A0 i) (L i).n (L i).f) := hat0
  have HRB : Hid (Row .i64 w b n tn) := hb
  have HCN : Hid (cntF L 4 ≤ 1048576) := hcn
  have HNN : Hid (n ≤ 1048576) := hnn
  clear hP hb hcn hnn hat0
  obtain ⟨W0, hW0⟩ : ∃ W, (w.alloc (.cells (shCells s (some ⟨b1, off, none⟩) 4 ca b n c) 29)).alloc (.cells shZero 29) = W := ⟨_, rfl⟩
  have s0 : Sits W0 w.heap.size (shCells s (some ⟨b1, off, none⟩) 4 ca b n c) 29 := by rw [← hW0]; exact (Sits.new _ _ _).alloc _
  have s1 : Sits W0 (w.heap.size + 1) shZero 29 := by rw [← hW0]; exact Sits.new' (by simp)
  have b0 : Below w.heap.size w W0 := by rw [← hW0]; exact ((Below.refl _ w).alloc (Nat.le_refl _) _).alloc (by simp) _
  have z0 : W0.heap.size = w.heap.size + 1 + 1 := by rw [← hW0]; simp
  have HW0 : Hid ((w.alloc (.cells (shCells s (some ⟨b1, off, none⟩) 4 ca b n c) 29)).alloc (.cells shZero 29) = W0) := hW0
  have HS0 : Hid (Sits _ _ _ _) := s0
  have HS1 : Hid (Sits _ _ _ _) := s1
  have HB0 : Hid (Below w.heap.size w W0) := b0
  have HZ0 : Hid (W0.heap.size = w.heap.size + 1 + 1) := z0
  have x6 := s0.cell 6
  clear s0 s1 b0 z0 hW0
  have hfl := field_list
  go_enter Try.func32, Try.ntmps32
  go_upto_region 1 with fail
  rw [HW0.out]
  clear HW0
  go_upto_region 2 with (go_at_call 63; refine (ilistOf_any b n c tn _ HNN.out (Row.below HRB.out HB0.out)).mono ?_; rintro e w1 ⟨y, cy, rfl, hj1, hb1⟩; have t0 := Sits.below HS0.out hb1 (Sits.lt HS0.out); have y6 := t0.cell 6; have yf := t0.frozen; have HJ1 : Hid (JO W0.heap.size w1 y n cy tn) := hj1; have HB1 : Hid (Below W0.heap.size W0 w1) := hb1; clear hj1 hb1 t0)
  obtain ⟨v1, hv1⟩ : ∃ v, w1.setCell ⟨w.heap.size, 6, none⟩ (.slice y n cy) = v := ⟨_, rfl⟩
  have t0 : Sits v1 w.heap.size (shCells s (some ⟨b1, off, none⟩) 4 ca y n cy) 29 := by rw [← hv1]; exact (Sits.below HS0.out HB1.out (Sits.lt HS0.out)).set 6 _
  have t1 : Sits v1 (w.heap.size + 1) shZero 29 := by rw [← hv1]; exact (Sits.below HS1.out HB1.out (Sits.lt HS1.out)).other (by omega) _
  have j1 : JO W0.heap.size v1 y n cy tn := by rw [← hv1]; exact JO.far HJ1.out (by have := HZ0.out; omega) _ _
  have bv1 : Below w.heap.size w v1 := by rw [← hv1]; exact ((HB0.out).trans (Below.mono HB1.out (HB0.out).size)).setCell (Nat.le_refl _) _
  have zv1 : W0.heap.size ≤ v1.heap.size := by rw [← hv1, size_set]; exact (HB1.out).size
  rw [hv1]
  clear hv1 HS0 HS1 HJ1 HB1 y6 yf x6
  have HT0 : Hid (Sits v1 w.heap.size (shCells s (some ⟨b1, off, none⟩) 4 ca y n cy) 29) := t0
  have HT1 : Hid (Sits v1 (w.heap.size + 1) shZero 29) := t1
  have HJ1 : Hid (JO W0.heap.size v1 y n cy tn) := j1
  have HBV : Hid (Below w.heap.size w v1) := bv1
  have x5 := t0.cell 5
  have HLA : Hid (∀ i, i < 4 → LAt v1 b1 (off + i * 9) (A0 i) (C0 i) (L i)) := fun i hi => (HAT.out i hi).1.below bv1 hbl
  clear t0 t1 j1 bv1
  go_upto_region 3 with (at_builtin; refine wpList_append_lnN rfl _ _ rfl v1.heap.size rfl b1 off 4 ca A0 C0 L rfl HLA.out (by omega) (by omega) (Nat.le_refl _) ?_; intro X cl w2 hlp hgr; have B2 : Below v1.heap.size v1 w2 := (Below.refl _ _).grown hgr (Nat.le_refl _) (fun k e => by cases e); have u0 := Sits.below HT0.out B2 (Sits.lt HT0.out); have y5 := u0.cell 5; have yf := u0.frozen; have HLP : Hid (LP v1.heap.size w2 (some ⟨X, 0, none⟩) 4 cl A0 C0 L) := hlp; have HB2 : Hid (Below v1.heap.size v1 w2) := B2; have HGR : Hid (v1.grownBy w2 none) := hgr; clear hlp hgr B2 u0)
  obtain ⟨v2, hv2⟩ : ∃ v, w2.setCell ⟨w.heap.size, 5, none⟩ (.slice (some ⟨X, 0, none⟩) 4 cl) = v := ⟨_, rfl⟩
  obtain ⟨hX, vs, t, hsX, hX1, hX2⟩ := LP.sv HLP.out (by omega)
  have u0 : Sits v2 w.heap.size (shCells s (some ⟨X, 0, none⟩) 4 cl y n cy) 29 := by rw [← hv2]; exact (Sits.below HT0.out HB2.out (Sits.lt HT0.out)).set 5 _
  have u1 : Sits v2 (w.heap.size + 1) shZero 29 := by rw [← hv2]; exact (Sits.below HT1.out HB2.out (Sits.lt HT1.out)).other (by omega) _
  have bv2 : Below w.heap.size w v2 := by rw [← hv2]; exact ((HBV.out).trans ((HB2.out).mono (HBV.out).size)).setCell (Nat.le_refl _) _
  have hz0 := HZ0.out
  have ok0 : OwnK W0.heap.size v2 X 0 (fun _ => none) A0 (fun _ => 0) C0 L y n cy tn := by
    refine ⟨Nat.le_trans zv1 hX, ⟨vs, t, ?_, hX1, fun i hi => by rw [if_neg (Nat.not_lt_zero i), if_neg (Nat.not_lt_zero i)]; exact hX2 i hi⟩, fun i hi => absurd hi (Nat.not_lt_zero _), fun i hi => absurd hi (Nat.not_lt_zero _), fun i j hi => absurd hi (Nat.not_lt_zero _), ?_, fun g hg => ?_, fun i hi => absurd hi (Nat.not_lt_zero _)⟩
    · rw [← hv2]; exact hsX.other (by omega) _
    · rw [← hv2]; exact JO.far (JO.below HJ1.out HB2.out) (by omega) _ _
    · have := JO.undr HJ1.out g hg; omega
  rw [hv2]
  clear hv2 HT0 HT1 HJ1 HBV HLA HLP HB2 HGR hsX hX2 hX1 y5 yf x5
  have x5 := u0.cell 5
  have OK0 : Hid (OwnK W0.heap.size v2 X 0 (fun _ => none) A0 (fun _ => 0) C0 L y n cy tn) := ok0
  have HU0 : Hid (Sits v2 w.heap.size (shCells s (some ⟨X, 0, none⟩) 4 cl y n cy) 29) := u0
  have HU1 : Hid (Sits v2 (w.heap.size + 1) shZero 29) := u1
  have HBV : Hid (Below w.heap.size w v2) := bv2
  clear ok0 u0 u1 bv2
  go_wp2
  go_loopw [16] (fun i wr => ∃ (k : Nat) (A : Nat → Option Addr) (C : Nat → Nat), k ≤ 4 ∧ i = .int .i64 (k : Int) ∧ OwnK W0.heap.size wr X k A A0 C C0 L y n cy tn ∧ Sits wr w.heap.size (shCells s (some ⟨X, 0, none⟩) 4 cl y n cy) 29 ∧ Sits wr (w.heap.size + 1) shZero 29 ∧ Below w.heap.size w wr) (fun i _ => 4 - (intOf i).toNat)
  case atStart => exact ⟨0, _, _, Nat.zero_le _, rfl, OK0.out, HU0.out, HU1.out, HBV.out⟩
  case round =>
    clear OK0 HU0 HU1 HBV x5
    obtain ⟨k, A, C, hk, rfl, hok, hs0, hs1, hB⟩ := hrel
    have HOK : Hid (OwnK W0.heap.size wr X k A A0 C C0 L y n cy tn) := hok
    have HS0 : Hid (Sits wr w.heap.size (shCells s (some ⟨X, 0, none⟩) 4 cl y n cy) 29) := hs0
    have HS1 : Hid (Sits wr (w.heap.size + 1) shZero 29) := hs1
    have HB : Hid (Below w.heap.size w wr) := hB
    have x5 := hs0.cell 5
    clear hok hs0 hs1
    by_cases hlt : k < 4
    · have hlti : (k : Int) < 4 := by omega
      have hk0 : (0 : Int) ≤ (k : Int) := by omega
      obtain ⟨ws, t2, hsw, hsz, hlv⟩ := (HOK.out).sits
      have hlk := hlv k hlt
      rw [if_neg (Nat.lt_irrefl k), if_neg (Nat.lt_irrefl k)] at hlk
      have c0 := (hlk.at hsw).1
      have fX := hsw.frozen
      have hnk : (L k).n ≤ 1048576 := Nat.le_trans (cntF_le L hlt) HCN.out
      have HPR : Hid (PR wr.drew.heap.size wr.drew (A0 k) (L k).n (L k).f) := ((HAT.out k hlt).2.2.below hB).mono hB.size
      have HSW : Hid (Sits wr X ws t2) := hsw
      have HLK : Hid (LV ws (k * 9) (A0 k) (C0 k) (L k)) := hlk
      clear hlv hlk hsw hB
      go_upto_region 6 with fail
      go_region_with (go_at_call 64; refine (copied_any (A0 k) (L k).n (C0 k) (L k).f _ HPR.out hnk).mono ?_; rintro e w3 ⟨x', c', rfl, hpo, b3⟩; have b3' : Below wr.heap.size wr w3 := Below.trans (Below.drew (Below.refl wr.heap.size wr)) b3; have z0 := Sits.below HS0.out b3' (Sits.lt HS0.out); have z5 := z0.cell 5; have zX := Sits.below HSW.out b3' (Sits.lt HSW.out); have zf := zX.frozen; have zc := (LV.at HLK.out zX).1; have HPO : Hid (PO wr.heap.size w3 x' (L k).n c' (L k).f) := hpo; have HB3 : Hid (Below wr.heap.size wr w3) := b3'; clear hpo b3 b3' z0 zX)
      all_goals
        go_wp2
        go_roundw
        case rel => exact ⟨k + 1, _, _, by omega, by go_num, OwnK.next HOK.out hlt HB3.out HPO.out (by have := (HOK.out).lt; have := (HOK.out).lo; omega), (Sits.below HS0.out HB3.out (Sits.lt HS0.out)).other (by have := (HOK.out).lo; omega) _, (Sits.below HS1.out HB3.out (Sits.lt HS1.out)).other (by have := (HOK.out).lo; omega) _, ((HB.out).trans ((HB3.out).mono (HB.out).size)).setCell (by have := (HOK.out).lo; show w.heap.size ≤ X; omega) _⟩
        case measure => simp [intOf]; omega
    · obtain rfl : k = 4 := by omega
      obtain ⟨hlq, htq⟩ := (HOK.out).done
      have HLQ : Hid (LQ W0.heap.size wr X 4 A C L) := hlq
      have HTQ : Hid (TQ W0.heap.size wr y n cy tn X 4 A) := htq
      have x0 := Sits.cell HS0.out 0
      have x1 := Sits.cell HS0.out 1
      have x2 := Sits.cell HS0.out 2
      have x3 := Sits.cell HS0.out 3
      have x4 := Sits.cell HS0.out 4
      have z5 := Sits.cell HS0.out 5
      have x6 := Sits.cell HS0.out 6
      have y0 := Sits.cell HS1.out 0
      have y1 := Sits.cell HS1.out 1
      have y2 := Sits.cell HS1.out 2
      have y3 := Sits.cell HS1.out 3
      have y4 := Sits.cell HS1.out 4
      have y5 := Sits.cell HS1.out 5
      have y6 := Sits.cell HS1.out 6
      have yf := Sits.frozen HS1.out
      have R : Hid (Sits _ _ _ _) := (((((((Sits.set HS1.out 0 (.int .i64 s.rt)).set 1 (.int .i64 s.ov)).set 2 (.int .i64 s.nx)).set 3 (.int .i64 s.qt)).set 4 (.int .i64 s.lim)).set 5 (.slice (some ⟨X, 0, none⟩) 4 cl)).set 6 (.slice y n cy))
      clear hlq htq hB
      go_wp2
      refine bodyPost_ret (ret_sh Try.results32 rfl R.out) rfl ?_
      have h0 : w.heap.size + 1 ≤ w.heap.size + 1 := Nat.le_refl _
      have h1 : w.heap.size + 1 < w.heap.size + 1 + 1 := Nat.lt_succ_self _
      have c9 : Chg (w.heap.size + 1) (w.heap.size + 1 + 1) wr _ := (chg_set (chg_set (chg_set (chg_set (chg_set (chg_set (chg_set (Chg.refl _ _ wr) h0 h1 0 (.int .i64 s.rt)) h0 h1 1 (.int .i64 s.ov)) h0 h1 2 (.int .i64 s.nx)) h0 h1 3 (.int .i64 s.qt)) h0 h1 4 (.int .i64 s.lim)) h0 h1 5 (.slice (some ⟨X, 0, none⟩) 4 cl)) h0 h1 6 (.slice y n cy))
      exact ⟨X, A, C, cl, y, cy, rfl, (LQ.chg HLQ.out c9 (by omega)).mono (by omega), (TQ.chg HTQ.out c9 (by omega)).mono (by omega), c9.bel HB.out (by omega)⟩

end Go.Proofs.Ytmjggolllijamaa

/-
  DOES A LINE HOLD AN ID? hasId of the program: a range over a function inside a loop, with a return within: the marks of its rounds pile up.
-/
namespace Go.Proofs.Ytmjggolllijamaa
open Go.RowKit Go.Shelf
set_option linter.unusedVariables false
attribute [local go_sem] Oper.semAt_some

/-- No packet of the lines has this id. -/
def noId (L : Nat → Ln) (id : Int) : Prop := ∀ i : Nat, i < 4 → ∀ k, k < (L i).n → ((L i).f k).id ≠ id
instance (L : Nat → Ln) (id : Int) : Decidable (noId L id) := by unfold noId; infer_instance
def hidB (L : Nat → Ln) (id : Int) : Bool := !decide (noId L id)

/-- The mark that a range over a function leaves. -/
def mrk (D : Nat) : Deferred := { target := .collected D, args := #[] }
theorem putObj_ne (w : World) (D k : Nat) (o : Obj) (h : k ≠ D) : (w.putObj D o).heap[k]? = w.heap[k]? := by
  simp only [World.putObj]
  exact Array.getElem?_setIfInBounds_ne (fun e => h e.symm)
/-- All marks are shut at the way out. -/
theorem leaves_marks {fn : Func} {tmps : Array Value} {R : Ending → World → Prop} {B : Nat} (n : Nat) : ∀ (Ds : List Nat) (w : World), (∀ D ∈ Ds, w.heap[D]? = some (.deferred (some []))) → Ds.Nodup → (∀ D ∈ Ds, B ≤ D) →
    (∀ w', Below B w w' → LeavesInM Fence.wide n Try.prog fn tmps R [] .returning w') → LeavesInM Fence.wide n Try.prog fn tmps R (Ds.map mrk) .returning w
  | [], w, _, _, _, h => h w (Below.refl _ _)
  | D :: Ds, w, h1, h2, h3, h => by
    have hl := (Array.getElem?_eq_some_iff.1 (h1 D (by simp))).1
    have h3' := h3 D (by simp)
    have hb : Below B w (w.putObj D (.deferred none)) := (Below.refl B w).grown (grownBy_putObj' w D _) (by omega) (fun k e => by cases e; exact h3')
    refine ⟨by simp, .inl ⟨D, _, rfl, run_takeDeferred (h1 D (by simp)), ?_⟩⟩
    refine leaves_marks n Ds _ (fun E hE => ?_) (List.nodup_cons.1 h2).2 (fun E hE => h3 E (by simp [hE])) (fun w' hw' => h w' (hb.trans hw'))
    rw [putObj_ne _ _ _ _ (fun e => (List.nodup_cons.1 h2).1 (by rw [← e]; exact hE))]
    exact h1 E (by simp [hE])

/-- All but block R is as it lay. -/
def KeptB (V : World) (R : Nat) (W : World) : Prop := V.heap.size ≤ W.heap.size ∧ ∀ j, j < V.heap.size → j ≠ R → W.heap[j]? = V.heap[j]?
theorem KeptB.own {β : Type} {V : World} {R B : Nat} (hB : V.heap.size ≤ B) : OwnFrom B (fun (_ : β) W => KeptB V R W) := fun _ X Y row hs hg hr =>
  ⟨Nat.le_trans hs.1 hg.size, fun j hj hne => (hg.block j (by have := hs.1; omega) (fun e => by have := (hr j e.symm).1; omega)).trans (hs.2 j hj hne)⟩

set_option maxRecDepth 100000 in
set_option maxHeartbeats 4000000 in
theorem ihasId_any (a : Option Addr) (c : Nat) (L : Nat → Ln) (id : Int) (w : World) (hcn : cntF L 4 ≤ 1048576) (hP : LR w.heap.size w a 4 L) :
    Calls Try.prog 51 #[.slice a 4 c, .int .i64 id] w fun e w' => e = .returned (.bool (hidB L id)) ∧ Below w.heap.size w w' := by
  have HP : Hid (LR w.heap.size w a 4 L) := hP
  have HCN : Hid (cntF L 4 ≤ 1048576) := hcn
  clear hP hcn
  obtain ⟨W0, hW0⟩ : ∃ W, (w.alloc (.cells #[.int .i64 id] 3)).alloc (.cells #[.bool false] 4) = W := ⟨_, rfl⟩
  have b0 : Below w.heap.size w W0 := by rw [← hW0]; exact ((Below.refl _ w).alloc (Nat.le_refl _) _).alloc (by simp) _
  have s0 : Boxed W0 w.heap.size 3 (.int .i64 id) := by rw [← hW0]; exact (Boxed.new w 3 _).alloc _
  have s1 : Boxed W0 (w.heap.size + 1) 4 (.bool false) := by rw [← hW0]; have := Boxed.new (w.alloc (.cells #[.int .i64 id] 3)) 4 (.bool false); simpa using this
  have HW0 : Hid ((w.alloc (.cells #[.int .i64 id] 3)).alloc (.cells #[.bool false] 4) = W0) := hW0
  have HB0 : Hid (Below w.heap.size w W0) := b0
  have HS0 : Hid (Boxed W0 w.heap.size 3 (.int .i64 id)) := s0
  have HS1 : Hid (Boxed W0 (w.heap.size + 1) 4 (.bool false)) := s1
  clear b0 s0 s1 hW0
  refine (callsIn_wide (n := 6)).1 ?_
  have hro : Fence.wide.round = none := rfl
  refine callsIn_of_wp_marks Try.func51 rfl trivial ?_ hro
  simp only [Try.ntmps51, List.size_toArray, List.length_cons, List.length_nil, Nat.reduceAdd, Nat.reduceSub, Array.replicate_succ, Array.replicate_zero, List.push_toArray, List.append_toArray, List.nil_append, List.cons_append]
  gi_wp2
  rw [HW0.out]
  clear HW0
  refine wpIn_loop (fun a' wr => ∃ (k : Nat) (Ds : List Nat) (t6 u12 u13 u14 u15 u16 u17 u24 : Value), k ≤ 4 ∧ a' = { tmps := #[.slice a 4 c, .int .i64 id, undef, .pointer (some ⟨w.heap.size, 0, none⟩), .pointer (some ⟨w.heap.size + 1, 0, none⟩), undef, t6, undef, undef, .slice a 4 c, .int .i64 4, .int .i64 (k : Int), u12, u13, u14, u15, u16, u17, undef, undef, undef, undef, undef, undef, u24], defers := Ds.map mrk } ∧ (∀ i, i < k → ∀ j, j < (L i).n → ((L i).f j).id ≠ id) ∧ Boxed wr w.heap.size 3 (.int .i64 id) ∧ Boxed wr (w.heap.size + 1) 4 (.bool false) ∧ Below w.heap.size w wr ∧ (∀ D ∈ Ds, wr.heap[D]? = some (.deferred (some []))) ∧ Ds.Nodup ∧ ∀ D ∈ Ds, w.heap.size + 2 ≤ D) (fun a' _ => 4 - (intOf (a'.tmps.getD 11 undef)).toNat) ⟨0, [], _, _, _, _, _, _, _, _, Nat.zero_le _, rfl, fun i hi => absurd hi (Nat.not_lt_zero _), HS0.out, HS1.out, HB0.out, by simp, by simp, by simp⟩ ?_
  rintro a' wr ⟨k, Ds, t6, u12, u13, u14, u15, u16, u17, u24, hk, rfl, hno, hb0, hb1, hB, hD1, hD2, hD3⟩
  have HNO : Hid (∀ i, i < k → ∀ j, j < (L i).n → ((L i).f j).id ≠ id) := hno
  have HT0 : Hid (Boxed wr w.heap.size 3 (.int .i64 id)) := hb0
  have HT1 : Hid (Boxed wr (w.heap.size + 1) 4 (.bool false)) := hb1
  have HB : Hid (Below w.heap.size w wr) := hB
  have HD1 : Hid (∀ D ∈ Ds, wr.heap[D]? = some (.deferred (some []))) := hD1
  have HD2 : Hid Ds.Nodup := hD2
  have HD3 : Hid (∀ D ∈ Ds, w.heap.size + 2 ≤ D) := hD3
  clear hno hD1 hD2 hD3 HS0 HS1 HB0
  by_cases hlt : k < 4
  · obtain ⟨b1, off, rfl, hbl, hcs⟩ := LR.at HP.out hlt
    obtain ⟨p, cp, hat, hnc, hpr⟩ := hcs k hlt
    obtain ⟨c0, c1, c2, c3, c4, c5, c6, c7, c8⟩ := hat.below hB hbl
    have HPR : Hid (PR w.heap.size w p (L k).n (L k).f) := hpr
    have hnk : (L k).n ≤ 1048576 := Nat.le_trans (cntF_le L hlt) HCN.out
    have HNK : Hid ((L k).n ≤ 1048576) := hnk
    have hlti : (k : Int) < 4 := by omega
    have hk0 : (0 : Int) ≤ (k : Int) := by omega
    have hr1 := hb1.lt
    clear hcs hat hpr hnc hB hb0 hb1
    gi_wp2_with (refine ⟨trivial, ?_⟩; gi_at_call 75; refine (told_in 5 _ _ _ _).mono ?_; rintro e w' ⟨rfl, rfl⟩)
    obtain ⟨V0, hV0⟩ : ∃ V, (wr.alloc (.cells (lnCells p cp (L k)) 53)).alloc (.cells #[.slice p (L k).n cp] 48) = V := ⟨_, rfl⟩
    have hz0 : V0.heap.size = wr.heap.size + 1 + 1 := by rw [← hV0]; simp
    have hw0 : Below wr.heap.size wr V0 := by rw [← hV0]; exact ((Below.refl _ wr).alloc (Nat.le_refl _) _).alloc (by simp) _
    have bN : Boxed V0 (wr.heap.size + 1) 48 (.slice p (L k).n cp) := by rw [← hV0]; have := Boxed.new (wr.alloc (.cells (lnCells p cp (L k)) 53)) 48 (.slice p (L k).n cp); simpa using this
    have hs := (HB.out).size
    have hPV : PR w.heap.size V0 p (L k).n (L k).f := PR.below HPR.out ((HB.out).trans (hw0.mono hs))
    have v0 : Boxed V0 w.heap.size 3 (.int .i64 id) := boxed_below HT0.out hw0 (Boxed.lt HT0.out)
    have v1 : Boxed V0 (w.heap.size + 1) 4 (.bool false) := boxed_below HT1.out hw0 (Boxed.lt HT1.out)
    have hVd : ∀ D ∈ Ds, V0.heap[D]? = some (.deferred (some [])) := fun D hD => (hw0.block D (Array.getElem?_eq_some_iff.1 (HD1.out D hD)).1).trans (HD1.out D hD)
    have hVl : ∀ D ∈ Ds, D < V0.heap.size := fun D hD => (Array.getElem?_eq_some_iff.1 (hVd D hD)).1
    have hBV : Below w.heap.size w V0 := (HB.out).trans (hw0.mono hs)
    change Code.wpIn _ _ _ _ _ _ ((wr.alloc (.cells (lnCells p cp (L k)) 53)).alloc (.cells #[.slice p (L k).n cp] 48))
    rw [hV0]
    clear hV0 c0 c1 c2 c3 c4 c5 c6 c7 c8
    refine wpIn_rangeFunc_ownH hro (by omega) (gf := 92) (lb := #[.pointer (some ⟨wr.heap.size + 1, 0, none⟩)]) rfl trivial (enters_of Try.func92 (by kernel_rfl) rfl)
      (told_stops 5 (by omega) (wr.heap.size + 1) w.heap.size (L k).n cp p (L k).f HNK.out V0 (by omega) (by omega) bN.cell hPV) belowK_t (belowK_b (by omega)) (Below.refl _ _) (fun _ => rfl)
      (fun pre W => (∀ y ∈ pre, ((L k).f y.1).id ≠ id) ∧ Below V0.heap.size V0 W)
      (fun ex pre W => ((ex = .ret ∧ ∃ y ∈ pre, ((L k).f y.1).id = id) ∧ Boxed W (w.heap.size + 1) 4 (.bool true)) ∧ (KeptB V0 (w.heap.size + 1) W ∧ Below w.heap.size V0 W))
      (OwnFrom.and (ownFrom_pure _ _) (ownFrom_below (Nat.le_refl _) (Nat.le_refl _)))
      (fun c => OwnFrom.and (OwnFrom.and (ownFrom_pure _ _) (Own.from (boxed_own _ _ _) _)) (OwnFrom.and (KeptB.own (Nat.le_refl _)) (ownFrom_below (by omega) (by omega))))
      ⟨by simp, Below.refl _ _⟩
      (fun y a' W => ∃ Bx, w.heap.size + 1 < Bx ∧ Lies W Bx (pkCells ((L k).f y.1)) 31 ∧ a' = { tmps := #[.slice (some ⟨b1, off, none⟩) 4 c, .int .i64 id, undef, .pointer (some ⟨w.heap.size, 0, none⟩), .pointer (some ⟨w.heap.size + 1, 0, none⟩), undef, .pointer (some ⟨wr.heap.size, 0, none⟩), undef, .pointer (some ⟨Bx, 0, none⟩), .slice (some ⟨b1, off, none⟩) 4 c, .int .i64 4, .int .i64 (k : Int), .bool true, .pointer (some ⟨b1, off + k * 9, none⟩), .agg (lnCells p cp (L k)), .pointer (some ⟨wr.heap.size, 0, none⟩), .slice p (L k).n cp, .func (.func 92) #[] #[.pointer (some ⟨wr.heap.size + 1, 0, none⟩)], .int .i64 (y.1 : Int), ((L k).f y.1).val, undef, undef, undef, undef, u24], defers := [] })
      (fun x a' _ X Y row hs hg hr => by obtain ⟨Bx, e1, e2, e3⟩ := hs; exact ⟨Bx, e1, lies_own Bx _ _ () X Y row e2 hg (fun r e => (hr r e).2), e3⟩)
      ?assign ?body ?done ?stop
    case assign =>
      rintro lp pre y W K ⟨hp, hBW⟩ hK
      have hsW := hBW.size
      gi_wp2
      exact hK _ _ ((KeepsOthers.alloc _ _).from _) ((Below.refl _ W).alloc (by omega) _) ⟨hp, hBW.alloc hsW _⟩ ⟨W.heap.size, by omega, Lies.new W _ _, rfl⟩
    case body =>
      rintro lp pre y a' W hl ⟨r, hr⟩ ⟨hp, hBW⟩ ⟨Bx, hBx, bX, rfl⟩ hlt2
      have bR1 := boxed_below v1 hBW v1.lt
      have bM1 := boxed_below v0 hBW v0.lt
      have cR := bR1.cell
      have fR := bR1.frozen
      have cM := bM1.cell
      obtain ⟨q0, q1, q2, q3, q4, q5⟩ := bX.pk
      simp only [Nat.zero_add] at q1 q2 q3 q4 q5
      have hz1 := hz0
      by_cases hq : ((L k).f y.1).id = id
      · have hq' : (((L k).f y.1).id == id) = true := by simpa using hq
        gi_wp2
        exact ⟨(KeepsOthers.setCell _ _ _).from _, ⟨⟨rfl, y, List.mem_append.2 (.inr (by simp)), hq⟩, bR1.set _⟩, ⟨by have := hBW.size; simpa using this, fun j hj hne => (Below.heap_setCell W ⟨w.heap.size + 1, 0, none⟩ _ j hne).trans (hBW.block j hj)⟩, (hBW.mono (by omega)).setCell (p := ⟨w.heap.size + 1, 0, none⟩) (show w.heap.size ≤ w.heap.size + 1 by omega) _⟩
      · have hq' : (((L k).f y.1).id == id) = false := by simpa using hq
        gi_wp2
        exact ⟨KeepsFrom.refl _ _, Below.refl _ _, fun z hz => (List.mem_append.1 hz).elim (hp z) (fun e => by simp at e; subst e; exact hq), hBW⟩
    case done =>
      rintro D zs W hD hz ⟨hp, hBW⟩ hK
      have hsW := hBW.size
      have hz1 := hz0
      clear hz0
      gi_wp2
      refine ⟨⟨k + 1, D :: Ds, _, _, _, _, _, _, _, _, by omega, rfl, fun i hi j hj => ?_, boxed_below v0 hBW v0.lt, boxed_below v1 hBW v1.lt, hBV.trans (hBW.mono (by omega)), fun E hE => ?_, List.nodup_cons.2 ⟨fun hm => by have := hVl D hm; omega, HD2.out⟩, fun E hE => ?_⟩, ?_⟩
      · by_cases e : i = k
        · subst e
          have hm : j ∈ zs.map (·.1) := by rw [hz]; exact List.mem_range.2 hj
          obtain ⟨z, hz2, rfl⟩ := List.mem_map.1 hm
          exact hp z hz2
        · exact HNO.out i (by omega) j hj
      · rcases List.mem_cons.1 hE with rfl | h
        · exact hK
        · exact (hBW.block E (hVl E h)).trans (hVd E h)
      · rcases List.mem_cons.1 hE with rfl | h
        · omega
        · exact HD3.out E h
      · simp [intOf]; omega
    case stop =>
      rintro D ex pre W hD hpre ⟨⟨⟨rfl, y, hy, hyb⟩, bR1⟩, hKp, hKb⟩ hK
      have hE : hidB L id = true := by unfold hidB; rw [decide_eq_false fun h : noId L id => h k hlt y.1 y.2 hyb]; rfl
      have hsW := hKp.1
      gi_wp2
      refine leaves_marks (B := w.heap.size + 2) 6 (D :: Ds) W (fun E hE => ?_) (List.nodup_cons.2 ⟨fun hm => by have := hVl D hm; omega, HD2.out⟩) (fun E hE => ?_) (fun w' hw' => ?_)
      · rcases List.mem_cons.1 hE with rfl | h
        · exact hK
        · exact (hKp.2 E (hVl E h) (by have := HD3.out E h; omega)).trans (hVd E h)
      · rcases List.mem_cons.1 hE with rfl | h
        · omega
        · exact HD3.out E h
      · refine ⟨_, ret_b1 Try.results51 rfl (boxed_below bR1 hw' (by omega)), by rw [hE], hBV.trans (hKb.trans (hw'.mono (by omega)))⟩
  · obtain rfl : k = 4 := by omega
    have cR := hb1.cell
    have fR := hb1.frozen
    have hE : hidB L id = false := by unfold hidB; rw [decide_eq_true (p := noId L id) (HNO.out)]; rfl
    gi_wp2
    refine leaves_marks (B := w.heap.size + 2) 6 Ds _ (fun E hE => ?_) HD2.out HD3.out (fun w' hw' => ?_)
    · exact (Below.heap_setCell wr ⟨w.heap.size + 1, 0, none⟩ _ E (by have := HD3.out E hE; show E ≠ w.heap.size + 1; omega)).trans (HD1.out E hE)
    · exact ⟨_, ret_b1 Try.results51 rfl (boxed_below (hb1.set _) hw' (by omega)), by rw [hE], (hB.setCell (p := ⟨w.heap.size + 1, 0, none⟩) (show w.heap.size ≤ w.heap.size + 1 by omega) _).trans (hw'.mono (by omega))⟩

end Go.Proofs.Ytmjggolllijamaa

/-
  ONE MORE BEHIND ALL: Push OF BOTH SIDES.
-/
namespace Go.Proofs.Ytmjggolllijamaa
open Go.RowKit
set_option linter.unusedVariables false

/-- The list with p behind its first n. -/
def pushF (f : Nat → Pk) (n : Nat) (p : Pk) : Nat → Pk := fun i => if i = n then p else f i
def pushOk (f : Nat → Pk) (n : Nat) (lim : Int) (p : Pk) : Bool := fifoB f n lim && p.good
def pushN (f : Nat → Pk) (n : Nat) (lim : Int) (p : Pk) : Nat := if pushOk f n lim p then (if fifoB (pushF f n p) (n + 1) lim then n + 1 else n) else 0
def pushL (f : Nat → Pk) (n : Nat) (lim : Int) (p : Pk) : Int := if pushOk f n lim p then lim else 0
def pushB (f : Nat → Pk) (n : Nat) (lim : Int) (p : Pk) : Bool := pushOk f n lim p && fifoB (pushF f n p) (n + 1) lim
theorem PO.congr {base : Nat} {w : World} {x : Option Addr} {m cap : Nat} {f g : Nat → Pk} (h : PO base w x m cap f) (e : ∀ i, i < m → f i = g i) : PO base w x m cap g := by
  have : cellsL f m = cellsL g m := by
    unfold cellsL
    refine List.map_congr_left fun o ho => ?_
    have ho' : o < m * 6 := List.mem_range.1 ho
    unfold flat
    rw [e (o / 6) (by omega)]
  unfold PO at *
  rw [← this]
  exact h

theorem fifo_lim {f : Nat → Pk} {n : Nat} {lim : Int} (h : fifoB f n lim = true) : (n : Int) ≤ 40 := by
  unfold fifoB inB at h
  simp only [Bool.and_eq_true, decide_eq_true_eq] at h
  omega
theorem pushN_le (f : Nat → Pk) (n : Nat) (lim : Int) (p : Pk) (hn : n ≤ 1048576) : pushN f n lim p ≤ 1048576 := by
  unfold pushN
  cases ho : pushOk f n lim p
  · simp
  · have hf : fifoB f n lim = true := by unfold pushOk at ho; simp at ho; exact ho.1
    have := fifo_lim hf
    simp only [if_true]
    split <;> omega

end Go.Proofs.Ytmjggolllijamaa

/-
  ONE MORE BEHIND ALL: the program's Push.
-/
namespace Go.Proofs.Ytmjggolllijamaa
open Go.RowKit
set_option linter.unusedVariables false

@[reducible] def SPush (s : Nat) (a : Option Addr) (n c : Nat) (lim : Int) (p : Pk) (w' : World) : Prop := (w'.cell? ⟨s, 0, none⟩ = some (.slice a n c) ∧ w'.cell? ⟨s, 1, none⟩ = some (.int .i64 lim)) ∧ (w'.cell? ⟨s + 1, 0, none⟩ = some (.int .i64 p.id) ∧ w'.cell? ⟨s + 1, 1, none⟩ = some (.int .i64 p.flow) ∧ w'.cell? ⟨s + 1, 2, none⟩ = some (.int .i64 p.host) ∧ w'.cell? ⟨s + 1, 3, none⟩ = some (.int .i64 p.size) ∧ w'.cell? ⟨s + 1, 4, none⟩ = some (.int .i64 p.tm) ∧ w'.cell? ⟨s + 1, 5, none⟩ = some (.int .i64 p.ecn))
theorem push_pk {W : World} {B : Nat} {p : Pk} {t : TypeId} (h : Lies W B (pkCells p) t) : W.cell? ⟨B, 0, none⟩ = some (.int .i64 p.id) ∧ W.cell? ⟨B, 1, none⟩ = some (.int .i64 p.flow) ∧ W.cell? ⟨B, 2, none⟩ = some (.int .i64 p.host) ∧ W.cell? ⟨B, 3, none⟩ = some (.int .i64 p.size) ∧ W.cell? ⟨B, 4, none⟩ = some (.int .i64 p.tm) ∧ W.cell? ⟨B, 5, none⟩ = some (.int .i64 p.ecn) := by
  have := h.pk
  simpa [PAt] using this
theorem lies_new' {W : World} {vs : Array Value} {t : TypeId} {V : Nat} (h : W.heap.size = V) : Lies (W.alloc (.cells vs t)) V vs t := by subst h; exact Lies.new _ _ _
theorem lies_drew {W : World} {vs : Array Value} {t : TypeId} {V : Nat} (h : Lies W V vs t) : Lies W.drew V vs t := h
theorem own_ne_lo {base : Nat} {w : World} {x : Option Addr} {m cap : Nat} {f : Nat → Pk} (h : PO base w x m cap f) {V : Nat} (hV : V < base) : some V ≠ (Value.slice x m cap).ownBlock := fun e => by have := (h.own_lt _ e.symm).1; omega
theorem own_ne_hi {base : Nat} {w : World} {x : Option Addr} {m cap : Nat} {f : Nat → Pk} (h : PO base w x m cap f) {V : Nat} (hV : w.heap.size ≤ V) : some V ≠ (Value.slice x m cap).ownBlock := fun e => by have := (h.own_lt _ e.symm).2; omega
theorem po_drew {base : Nat} {w : World} {x : Option Addr} {m cap : Nat} {f : Nat → Pk} (h : PO base w x m cap f) : PO base w.drew x m cap f := h
theorem po_alloc {base : Nat} {w : World} {x : Option Addr} {m cap : Nat} {f : Nat → Pk} (h : PO base w x m cap f) (o : Obj) : PO base (w.alloc o) x m cap f := h.below ((Below.refl _ _).alloc (Nat.le_refl _) _)

@[reducible] def SF (s : Nat) (a : Option Addr) (n c : Nat) (lim : Int) (w' : World) : Prop := w'.cell? ⟨s, 0, none⟩ = some (.slice a n c) ∧ w'.cell? ⟨s, 1, none⟩ = some (.int .i64 lim)
theorem SF.set {s : Nat} {a : Option Addr} {n c : Nat} {lim : Int} {w' : World} (h : SF s a n c lim w') (B o : Nat) (v : Value) (h1 : B ≠ s) : SF s a n c lim (w'.setCell ⟨B, o, none⟩ v) := by
  obtain ⟨a0, a1⟩ := h
  exact ⟨(World.cell?_setCell_far w' ⟨B, o, none⟩ ⟨s, 0, none⟩ v h1).trans a0, (World.cell?_setCell_far w' ⟨B, o, none⟩ ⟨s, 1, none⟩ v h1).trans a1⟩
theorem PR.drew' {n₀ : Nat} {w : World} {a : Option Addr} {n : Nat} {f : Nat → Pk} (h : PR n₀ w a n f) : PR n₀ w.drew a n f := h
theorem Lies.set1 {W : World} {V : Nat} {a b : Value} {t : TypeId} (h : Lies W V #[a, b] t) (b' : Value) : Lies (W.setCell ⟨V, 1, none⟩ b') V #[a, b'] t := by
  have h' : W.heap[V]? = some (.cells #[a, b] t) := h
  show (W.heap.modify V _)[V]? = _
  rw [Array.getElem?_modify]
  simp [h']

set_option maxRecDepth 100000 in
set_option maxHeartbeats 4000000 in
theorem ipush_any (a : Option Addr) (n c : Nat) (f : Nat → Pk) (lim : Int) (p : Pk) (w : World) (hn : n ≤ 1048576) (hnc : n ≤ c) (hP : PR w.heap.size w a n f) :
    Calls Try.prog 48 #[fiVal a n c lim, p.val] w fun e w' => ∃ (x : Option Addr) (cap : Nat), e = .returned (.tuple #[fiVal x (pushN f n lim p) cap (pushL f n lim p), .bool (pushB f n lim p)]) ∧ PO w.heap.size w' x (pushN f n lim p) cap (pushF f n p) ∧ Below w.heap.size w w' := by
  have HP : Hid (PR w.heap.size w a n f) := hP
  clear hP
  obtain ⟨p0, p1, p2, p3, p4, p5⟩ := p
  simp only [fiVal, Pk.val]
  obtain ⟨W0, hW0⟩ : ∃ W0, ((w.alloc (.cells #[.slice a n c, .int .i64 lim] 84)).alloc (.cells #[.int .i64 p0, .int .i64 p1, .int .i64 p2, .int .i64 p3, .int .i64 p4, .int .i64 p5] 31)).alloc (.cells #[.slice none 0 0, .int .i64 0] 84) = W0 := ⟨_, rfl⟩
  have B0 : Below w.heap.size w W0 := by rw [← hW0]; exact (((Below.refl _ w).alloc (Nat.le_refl _) _).alloc (by simp) _).alloc (by simp; omega) _
  have lF : Lies W0 w.heap.size #[.slice a n c, .int .i64 lim] 84 := by rw [← hW0]; exact ((Lies.new _ _ _).alloc _).alloc _
  have lP : Lies W0 (w.heap.size + 1) (pkCells ⟨p0, p1, p2, p3, p4, p5⟩) 31 := by rw [← hW0]; have := (Lies.new (w.alloc (.cells #[.slice a n c, .int .i64 lim] 84)) (pkCells ⟨p0, p1, p2, p3, p4, p5⟩) 31).alloc (.cells #[.slice none 0 0, .int .i64 0] 84); simpa using this
  have lR : Lies W0 (w.heap.size + 1 + 1) #[.slice none 0 0, .int .i64 0] 84 := by rw [← hW0]; have := Lies.new ((w.alloc (.cells #[.slice a n c, .int .i64 lim] 84)).alloc (.cells (pkCells ⟨p0, p1, p2, p3, p4, p5⟩) 31)) #[.slice none 0 0, .int .i64 0] 84; simpa using this
  have H0 : Hid (PR W0.heap.size W0 a n f) := (PR.below HP.out B0).mono B0.size
  obtain ⟨xf0, xf1⟩ := fi2_cells lF
  obtain ⟨xp0, xp1, xp2, xp3, xp4, xp5⟩ := lP.pk
  simp only [Nat.zero_add] at xp1 xp2 xp3 xp4 xp5
  cases hf : fifoB f n lim
  case false =>
    have ho : pushOk f n lim ⟨p0, p1, p2, p3, p4, p5⟩ = false := by unfold pushOk; rw [hf]; rfl
    have hB : pushB f n lim ⟨p0, p1, p2, p3, p4, p5⟩ = false := by unfold pushB; rw [ho]; rfl
    have hN : pushN f n lim ⟨p0, p1, p2, p3, p4, p5⟩ = 0 := by unfold pushN; rw [ho]; rfl
    have hL : pushL f n lim ⟨p0, p1, p2, p3, p4, p5⟩ = 0 := by unfold pushL; rw [ho]; rfl
    rw [hB, hN, hL]
    clear hB hN hL ho
    go_enter Try.func48, Try.ntmps48
    go_wp2_with ((go_at_call 74; refine (ififoOk_any a n c f lim _ (by omega) hnc H0.out).mono ?_; rintro e w1 ⟨rfl, b1⟩; rw [hf]; obtain ⟨r0, r1⟩ := fi2_cells (lR.below b1 lR.lt); have fr := (lR.below b1 lR.lt).frozen; obtain ⟨q0, q1, q2, q3, q4, q5⟩ := (lP.below b1 lP.lt).pk; simp only [Nat.zero_add] at q1 q2 q3 q4 q5))
    refine bodyPost_ret (v := .tuple #[.agg #[.slice none 0 0, .int .i64 0], .bool false]) (by simp [results, Try.results48, go_sem, r0, r1]) rfl ⟨none, 0, rfl, PO.nil _ _ _, ?_⟩
    have B1 := B0.trans (b1.mono B0.size)
    exact (B1.setCell (by show w.heap.size ≤ w.heap.size + 1 + 1; omega) _).setCell (by show w.heap.size ≤ w.heap.size + 1 + 1; omega) _
  case true =>
  cases hg : (Pk.mk p0 p1 p2 p3 p4 p5).good
  case false =>
    have ho : pushOk f n lim ⟨p0, p1, p2, p3, p4, p5⟩ = false := by unfold pushOk; rw [hg]; simp
    have hB : pushB f n lim ⟨p0, p1, p2, p3, p4, p5⟩ = false := by unfold pushB; rw [ho]; rfl
    have hN : pushN f n lim ⟨p0, p1, p2, p3, p4, p5⟩ = 0 := by unfold pushN; rw [ho]; rfl
    have hL : pushL f n lim ⟨p0, p1, p2, p3, p4, p5⟩ = 0 := by unfold pushL; rw [ho]; rfl
    rw [hB, hN, hL]
    clear hB hN hL ho
    go_enter Try.func48, Try.ntmps48
    go_wp2_with (first | (go_at_call 74; refine (ififoOk_any a n c f lim _ (by omega) hnc H0.out).mono ?_; rintro e w1 ⟨rfl, b1⟩; rw [hf]; obtain ⟨r0, r1⟩ := fi2_cells (lR.below b1 lR.lt); have fr := (lR.below b1 lR.lt).frozen; obtain ⟨q0, q1, q2, q3, q4, q5⟩ := (lP.below b1 lP.lt).pk; simp only [Nat.zero_add] at q1 q2 q3 q4 q5) | (go_at_call 47; refine (ipktOk_any ⟨p0, p1, p2, p3, p4, p5⟩ _).mono ?_; rintro e w2 ⟨rfl, b2⟩; rw [hg]; have lR2 := (lR.below b1 lR.lt).below b2.1 (lR.below b1 lR.lt).lt; obtain ⟨s0, s1⟩ := fi2_cells lR2; have fs := lR2.frozen))
    refine bodyPost_ret (v := .tuple #[.agg #[.slice none 0 0, .int .i64 0], .bool false]) (by simp [results, Try.results48, go_sem, s0, s1]) rfl ⟨none, 0, rfl, PO.nil _ _ _, ?_⟩
    have B1 := B0.trans (b1.mono B0.size)
    have B2 := B1.trans (b2.1.mono B1.size)
    exact (B2.setCell (by show w.heap.size ≤ w.heap.size + 1 + 1; omega) _).setCell (by show w.heap.size ≤ w.heap.size + 1 + 1; omega) _
  case true =>
    have hn40 : n ≤ 40 := by have := fifo_lim hf; omega
    have ho : pushOk f n lim ⟨p0, p1, p2, p3, p4, p5⟩ = true := by unfold pushOk; rw [hf, hg]; rfl
    have hL : pushL f n lim ⟨p0, p1, p2, p3, p4, p5⟩ = lim := by unfold pushL; rw [ho]; rfl
    obtain ⟨Np, hN⟩ : ∃ N, pushN f n lim ⟨p0, p1, p2, p3, p4, p5⟩ = N := ⟨_, rfl⟩
    obtain ⟨okp, hB⟩ : ∃ b, pushB f n lim ⟨p0, p1, p2, p3, p4, p5⟩ = b := ⟨_, rfl⟩
    rw [hL, hN, hB]
    have HNp : Hid (pushN f n lim ⟨p0, p1, p2, p3, p4, p5⟩ = Np) := hN
    have HBp : Hid (pushB f n lim ⟨p0, p1, p2, p3, p4, p5⟩ = okp) := hB
    clear hN hB
    obtain ⟨g, hgf⟩ : ∃ g, pushF f n ⟨p0, p1, p2, p3, p4, p5⟩ = g := ⟨_, rfl⟩
    have HGF : Hid (pushF f n ⟨p0, p1, p2, p3, p4, p5⟩ = g) := hgf
    rw [hgf]
    go_enter Try.func48, Try.ntmps48
    go_upto_region 3 with (first | (go_at_call 74; refine (ififoOk_any a n c f lim _ (by omega) hnc H0.out).mono ?_; rintro e w1 ⟨rfl, b1⟩; rw [hf]; have lF1 := lF.below b1 lF.lt; have lR1 := lR.below b1 lR.lt; have lP1 := lP.below b1 lP.lt; obtain ⟨q0, q1, q2, q3, q4, q5⟩ := lP1.pk; simp only [Nat.zero_add] at q1 q2 q3 q4 q5) | (go_at_call 47; refine (ipktOk_any ⟨p0, p1, p2, p3, p4, p5⟩ _).mono ?_; rintro e w2 ⟨rfl, b2⟩; rw [hg]; have lF2 := lF1.below b2.1 lF1.lt; have lR2 := lR1.below b2.1 lR1.lt; have lP2 := lP1.below b2.1 lP1.lt; have B2 := (B0.trans (b1.mono B0.size)).trans (b2.1.mono (Nat.le_trans B0.size b1.size))))
    have H2 : Hid (PR w2.heap.size w2 a n f) := (PR.below HP.out B2).mono B2.size
    have hlt2 : w.heap.size + 1 + 1 < w2.heap.size := lR2.lt
    have hSB : ∀ W, Below w2.heap.size w2 W → SPush w.heap.size a n c lim ⟨p0, p1, p2, p3, p4, p5⟩ W := fun W hW => ⟨fi2_cells (lF2.below hW lF2.lt), push_pk (lP2.below hW lP2.lt)⟩
    clear q0 q1 q2 q3 q4 q5 xf0 xf1 xp0 xp1 xp2 xp3 xp4 xp5 hW0 lF1 lR1 lP1 lF lR lP H0
    go_cut [6] from 16 (fun s wx => ∃ (V g4 c4 : Nat), s = .pointer (some ⟨V, 0, none⟩) ∧ Lies wx V #[.slice (some ⟨g4, 0, none⟩) (n + 1) c4, .int .i64 lim] 84 ∧ PO w2.heap.size wx (some ⟨g4, 0, none⟩) (n + 1) c4 g ∧ Below w2.heap.size w2 wx)
    case first =>
      go_region_held3 (fun w' => SPush w.heap.size a n c lim ⟨p0, p1, p2, p3, p4, p5⟩ w') (first | exact hSB _ (by (repeat first | (with_reducible exact Below.refl _ _) | (with_reducible assumption) | (with_reducible apply Below.drew) | (with_reducible refine Below.setCell ?_ (by first | omega | (simp; done) | (simp; omega)) _) | (with_reducible refine Below.alloc ?_ (by first | omega | (simp; done) | (simp; omega)) _))) | fail)
        (first | (go_at_call 64; refine (copied_any a n c f _ ((PR.below H2.out (by (repeat first | (with_reducible exact Below.refl _ _) | (with_reducible assumption) | (with_reducible apply Below.drew) | (with_reducible refine Below.setCell ?_ (by first | omega | (simp; done) | (simp; omega)) _) | (with_reducible refine Below.alloc ?_ (by first | omega | (simp; done) | (simp; omega)) _)))).mono (by first | omega | (simp; done) | (simp; omega))) (by omega)).mono ?_; rintro e w3 ⟨x3, c3, rfl, hpo', b3⟩; have hb3 : Below w2.heap.size w2 w3 := Below.trans (by (repeat first | (with_reducible exact Below.refl _ _) | (with_reducible assumption) | (with_reducible apply Below.drew) | (with_reducible refine Below.setCell ?_ (by first | omega | (simp; done) | (simp; omega)) _) | (with_reducible refine Below.alloc ?_ (by first | omega | (simp; done) | (simp; omega)) _))) (b3.mono (by first | omega | (simp; done) | (simp; omega))); have hs3 := b3.size; simp at hs3; have hpo : PO w2.heap.size w3 x3 n c3 f := hpo'.mono (by first | omega | (simp; done) | (simp; omega))) | (refine step_append_pk1 (by rfl) _ _ (by rfl) w2.heap.size x3 n c3 f (by rfl) (by (repeat first | (with_reducible exact hpo) | (with_reducible refine po_drew ?_) | (with_reducible refine po_alloc ?_ _))) _ ⟨p0, p1, p2, p3, p4, p5⟩ (by rfl) (Lies.pk (t := 31) (by (repeat first | (with_reducible refine lies_new' ?_; (simp; done)) | (with_reducible refine Lies.alloc ?_ _) | (with_reducible refine lies_drew ?_) | (with_reducible refine Lies.below ?_ b3 (by first | omega | (simp; done) | (simp; omega)))))) (by omega) (by first | omega | (simp; done) | (simp; omega)) ?_; intro g4 c4 w4 hpo4 hgr4 hat4 hlt4; have hb4 : Below w2.heap.size w2 w4 := Below.grown (B := w2.heap.size) (a := w2) (by (repeat first | (with_reducible exact Below.refl _ _) | (with_reducible assumption) | (with_reducible apply Below.drew) | (with_reducible refine Below.setCell ?_ (by first | omega | (simp; done) | (simp; omega)) _) | (with_reducible refine Below.alloc ?_ (by first | omega | (simp; done) | (simp; omega)) _))) hgr4 (by first | omega | (simp; done) | (simp; omega)) (fun k e => (hpo.own_lt k e).1); have hs4 := hb4.size; (first | (have vz : Lies w4 (w2.heap.size) #[.slice none 0 0, .int .i64 0] 84 := Lies.kept ((Lies.below (lies_drew (Lies.new w2 #[.slice none 0 0, .int .i64 0] 84)) b3 (Lies.lt (Lies.new w2 #[.slice none 0 0, .int .i64 0] 84))).alloc _) hgr4 (own_ne_lo hpo' (Lies.lt (Lies.new w2 #[.slice none 0 0, .int .i64 0] 84))); obtain ⟨z0, z1⟩ := fi2_cells vz; have fz := vz.frozen) | (have vz : Lies w4 (w2.heap.size) #[.slice none 0 0, .int .i64 0] 84 := Lies.kept (Lies.below (lies_drew ((Lies.new w2 #[.slice none 0 0, .int .i64 0] 84).alloc _)) b3 (Lies.lt ((Lies.new w2 #[.slice none 0 0, .int .i64 0] 84).alloc _))) hgr4 (own_ne_lo hpo' (Lies.lt ((Lies.new w2 #[.slice none 0 0, .int .i64 0] 84).alloc _))); obtain ⟨z0, z1⟩ := fi2_cells vz; have fz := vz.frozen) | (have vz : Lies w4 (w3.heap.size) #[.slice none 0 0, .int .i64 0] 84 := Lies.kept ((Lies.new w3 #[.slice none 0 0, .int .i64 0] 84).alloc _) hgr4 (own_ne_hi hpo' (Nat.le_refl _)); obtain ⟨z0, z1⟩ := fi2_cells vz; have fz := vz.frozen) | (have vz : Lies w4 (w3.heap.size + 1) #[.slice none 0 0, .int .i64 0] 84 := Lies.kept (lies_new' (World.size_alloc _ _)) hgr4 (own_ne_hi hpo' (Nat.le_succ _)); obtain ⟨z0, z1⟩ := fi2_cells vz; have fz := vz.frozen) | (have vz : Lies w4 (w2.heap.size + 1) #[.slice none 0 0, .int .i64 0] 84 := Lies.kept (Lies.below (lies_drew (lies_new' (World.size_alloc _ _))) b3 (Lies.lt (lies_new' (vs := #[.slice none 0 0, .int .i64 0]) (t := 84) (World.size_alloc _ _)))) hgr4 (own_ne_lo hpo' (Lies.lt (lies_new' (vs := #[.slice none 0 0, .int .i64 0]) (t := 84) (World.size_alloc _ _)))); obtain ⟨z0, z1⟩ := fi2_cells vz; have fz := vz.frozen) | (have vz : Lies w4 (w3.heap.size) #[.slice none 0 0, .int .i64 0] 84 := Lies.kept ((Lies.new w3 #[.slice none 0 0, .int .i64 0] 84)) hgr4 (own_ne_hi hpo' (Nat.le_refl _)); obtain ⟨z0, z1⟩ := fi2_cells vz; have fz := vz.frozen) | skip)))
      all_goals
        (go_wp2_with fail)
        go_meet
        case rel =>
          have hpo5 : PO w2.heap.size w4 (some ⟨g4, 0, none⟩) (n + 1) c4 g := by rw [← HGF.out]; exact hpo4
          have hat5 := hat4.imp_left (fun e => hpo'.own_lt _ e)
          simp at hat5
          refine ⟨_, g4, c4, rfl, ?_, ?_, ?_⟩
          · first
              | (with_reducible exact lies_new' rfl)
              | (with_reducible exact (vz.set0 _).set1 _)
          · first
              | (with_reducible exact po_alloc hpo5 _)
              | (with_reducible refine PO.set_ne (PO.set_ne hpo5 ?_ _ _) ?_ _ _ <;> omega)
          · repeat first | (with_reducible exact hb4) | (with_reducible refine Below.setCell ?_ (by first | omega | (simp; done) | (simp; omega)) _) | (with_reducible refine Below.alloc ?_ (by first | omega | (simp; done) | (simp; omega)) _)
    case rest =>
      obtain ⟨V3, g4, c4, rfl, lO5, po5, b35⟩ := hcut
      have lF5 := lF2.below b35 lF2.lt
      have lR5 := lR2.below b35 lR2.lt
      have H5 : Hid (PR wc.heap.size wc (some ⟨g4, 0, none⟩) (n + 1) g) := po5.zi.pr
      have hc4 := po5.cap
      clear hSB
      obtain ⟨v0, v1⟩ := fi2_cells lO5
      cases hq : fifoB g (n + 1) lim
      case true =>
        obtain rfl : Np = n + 1 := by rw [← HNp.out]; unfold pushN; rw [ho, HGF.out, hq]; rfl
        obtain rfl : okp = true := by rw [← HBp.out]; unfold pushB; rw [ho, HGF.out, hq]; rfl
        clear HNp HBp
        go_wp2_with (go_at_call 74; refine (ififoOk_any _ (n + 1) c4 g lim _ (by omega) hc4 H5.out).mono ?_; rintro e w6 ⟨rfl, b6⟩; rw [hq]; obtain ⟨o0, o1⟩ := fi2_cells (lO5.below b6 lO5.lt); obtain ⟨r0, r1⟩ := fi2_cells (lR5.below b6 lR5.lt); have fr := (lR5.below b6 lR5.lt).frozen)
        refine bodyPost_ret (v := .tuple #[.agg #[.slice (some ⟨g4, 0, none⟩) (n + 1) c4, .int .i64 lim], .bool true]) (by simp [results, Try.results48, go_sem, r0, r1]) rfl ⟨_, c4, rfl, ?_, ?_⟩
        · exact (((po5.below b6).far hlt2 _ _).far hlt2 _ _).mono B2.size
        · have B6 := (B2.trans (b35.mono B2.size)).trans (b6.mono (Nat.le_trans B2.size b35.size))
          exact (B6.setCell (by show w.heap.size ≤ w.heap.size + 1 + 1; omega) _).setCell (by show w.heap.size ≤ w.heap.size + 1 + 1; omega) _
      case false =>
        obtain rfl : n = Np := by rw [← HNp.out]; unfold pushN; rw [ho, HGF.out, hq]; rfl
        obtain rfl : okp = false := by rw [← HBp.out]; unfold pushB; rw [ho, HGF.out, hq]; rfl
        clear HNp HBp
        have hgf2 : ∀ i, i < n → f i = g i := fun i hi => by rw [← HGF.out]; unfold pushF; rw [if_neg (by omega)]
        have HG2 : Hid (∀ i, i < n → f i = g i) := hgf2
        clear hgf2
        go_wp2_with (go_at_call 74; refine (ififoOk_any _ (n + 1) c4 g lim _ (by omega) hc4 H5.out).mono ?_; rintro e w6 ⟨rfl, b6⟩; rw [hq]; have lF6 := lF5.below b6 lF5.lt; have lR6 := lR5.below b6 lR5.lt; have hS1 : SF w.heap.size a n c lim w6 := fi2_cells lF6)
        have B6 := (B2.trans (b35.mono B2.size)).trans (b6.mono (Nat.le_trans B2.size b35.size))
        have hlt6 : w.heap.size + 1 + 1 < w6.heap.size := lR6.lt
        have hm2 : w.heap.size + 1 + 1 ≠ w.heap.size := by omega
        have H6 : Hid (PR w6.heap.size w6 a n f) := (PR.below HP.out B6).mono B6.size
        obtain ⟨xg0, xg1⟩ := fi2_cells lF6
        go_region_held3 (fun w' => w'.cell? ⟨w.heap.size, 0, none⟩ = some (.slice a n c) ∧ w'.cell? ⟨w.heap.size, 1, none⟩ = some (.int .i64 lim)) (first | (with_reducible exact hS2) | (with_reducible exact (hS2.set (w.heap.size + 1 + 1) 0 _ hm2).set (w.heap.size + 1 + 1) 1 _ hm2) | exact ⟨xg0, xg1⟩ | fail) (first | (go_at_call 64; refine (copied_any a n c f _ (PR.drew' H6.out) (by omega)).mono ?_; rintro e w7 ⟨x7, c7, rfl, hpo7, b7⟩; have lR7 := Lies.below (W := w6.drew) lR6 b7 lR6.lt; have hS2 : SF w.heap.size a n c lim w7 := fi2_cells (Lies.below (W := w6.drew) lF6 b7 lF6.lt); obtain ⟨g0, g1⟩ := hS2; have hS2 : SF w.heap.size a n c lim w7 := ⟨g0, g1⟩; obtain ⟨rr0, rr1⟩ := fi2_cells lR7; have fr2 := lR7.frozen))
        all_goals
          go_wp2
          refine bodyPost_ret (v := .tuple #[.agg #[.slice x7 n c7, .int .i64 lim], .bool false]) (by simp [results, Try.results48, go_sem, rr0, rr1]) rfl ⟨x7, c7, rfl, ?_, ?_⟩
          · exact (((hpo7.far (by show _ < w6.heap.size; omega) _ _).far (by show _ < w6.heap.size; omega) _ _).mono B6.size).congr HG2.out
          · have B7 := B6.drew.trans (b7.mono B6.size)
            exact (B7.setCell (by show w.heap.size ≤ w.heap.size + 1 + 1; omega) _).setCell (by show w.heap.size ≤ w.heap.size + 1 + 1; omega) _

end Go.Proofs.Ytmjggolllijamaa

/-
  A PACKET PUT INTO A SHAPE BY THE PROGRAM: ShapePush.
-/
namespace Go.Proofs.Ytmjggolllijamaa
open Go.RowKit
set_option linter.unusedVariables false

theorem line_more {f : Nat → Pk} {n : Nat} {p : Pk} (h1 : lineB f n = true) (hp : p.good = true) (h2 : ∀ k, k < n → (f k).tm ≤ p.tm ∧ (f k).id ≠ p.id) : lineB (pushF f n p) (n + 1) = true := by
  unfold lineB at h1 ⊢
  have hl : lineP f n := of_decide_eq_true h1
  refine decide_eq_true fun j hj => ?_
  by_cases e : j = n
  · subst e
    refine ⟨by simp [pushF, hp], fun k hk => ?_⟩
    have hne : k ≠ j := by omega
    simp only [pairP, pushF, if_true, if_neg hne]
    exact h2 k hk
  · have hjn : j < n := by omega
    obtain ⟨g1, g2⟩ := hl j hjn
    refine ⟨by simpa [pushF, e] using g1, fun k hk => ?_⟩
    have hne : k ≠ n := by omega
    simp only [pairP, pushF, if_neg e, if_neg hne]
    exact g2 k hk
theorem line_less {f : Nat → Pk} {n : Nat} {p : Pk} (h : lineB (pushF f n p) (n + 1) = true) : ∀ k, k < n → (f k).tm ≤ p.tm ∧ (f k).id ≠ p.id := fun k hk => by
  have hl : lineP (pushF f n p) (n + 1) := of_decide_eq_true h
  have := (hl n (by omega)).2 k hk
  have hne : k ≠ n := by omega
  simpa only [pairP, pushF, if_true, if_neg hne] using this
theorem fits_of {s : Sh} {L : Nat → Ln} {ts : List Int} {p : Pk} {h : Nat} (hs : shP s 4 L ts) (hg : p.good = true) (hh : p.host = (h : Int)) (h4 : h < 4) (hp : shpP s L p) : pushB (L h).f (L h).n 40 p = true := by
  obtain ⟨_, _, hf, _⟩ := hs.2.2.2.2 h h4
  have hlim : s.lim ≤ 40 := hs.1.2.2.2.2.2
  have hn : (L h).n ≤ cntF L 4 := cntF_le L h4
  have hc := hp.1
  unfold pushB pushOk
  rw [hf, hg]
  have hl : lineB (L h).f (L h).n = true := by unfold fifoB at hf; simp only [Bool.and_eq_true] at hf; exact hf.2.2
  have := line_more hl hg (fun k hk => ⟨(hp.2 h h4 k hk).2 hh.symm, (hp.2 h h4 k hk).1⟩)
  unfold fifoB
  rw [this]
  simp [inB]
  omega
theorem no_fit {s : Sh} {L : Nat → Ln} {ts : List Int} {p : Pk} {h : Nat} (hs : shP s 4 L ts) (hg : p.good = true) (hh : p.host = (h : Int)) (h4 : h < 4) (hp : pushB (L h).f (L h).n 40 p = false) : shpB s L p = false :=
  decide_eq_false fun e => by rw [fits_of hs hg hh h4 e] at hp; cases hp
theorem full_no {s : Sh} {L : Nat → Ln} {p : Pk} (h : (cntF L 4 : Int) = s.lim) : shpB s L p = false := decide_eq_false fun e => by have := e.1; omega
theorem hid_no {s : Sh} {L : Nat → Ln} {p : Pk} (h : hidB L p.id = true) : shpB s L p = false := decide_eq_false fun e => by
  have : noId L p.id := fun i hi k hk => (e.2 i hi k hk).1
  unfold hidB at h
  simp [this] at h
theorem all_fits {s : Sh} {L : Nat → Ln} {ts : List Int} {p : Pk} {h : Nat} (hs : shP s 4 L ts) (hh : p.host = (h : Int)) (h1 : pushB (L h).f (L h).n 40 p = true) (h2 : (cntF L 4 : Int) ≠ s.lim) (h3 : hidB L p.id = false) : shpB s L p = true := by
  refine decide_eq_true ⟨?_, fun i hi k hk => ⟨?_, fun e => ?_⟩⟩
  · have := hs.2.2.1; omega
  · have : noId L p.id := by unfold hidB at h3; simpa using h3
    exact this i hi k hk
  · obtain rfl : i = h := by rw [hh] at e; omega
    unfold pushB fifoB at h1
    simp only [Bool.and_eq_true] at h1
    exact (line_less h1.2.2.2 k hk).1
theorem push_yes {f : Nat → Pk} {n : Nat} {p : Pk} (h : pushB f n 40 p = true) : pushN f n 40 p = n + 1 := by
  unfold pushB at h
  simp only [Bool.and_eq_true] at h
  unfold pushN
  rw [if_pos h.1, if_pos h.2]

/-- A line's packets put, which lie apart from all. -/
theorem put_both {base : Nat} {W : World} {B n1 cy1 : Nat} {A : Nat → Option Addr} {C : Nat → Nat} {L : Nat → Ln} {y1 : Option Addr} {tn1 : Nat → Int} {h : Nat} (h4 : h < 4) (lq : LQ base W B 4 A C L) (tq : TQ base W y1 n1 cy1 tn1 B 4 A)
    {x : Option Addr} {m cx : Nat} {f : Nat → Pk} (po : PO base W x m cx f) (hxB : ∀ g, x = some g → g.block ≠ B) (hxA : ∀ i, i < 4 → Off (A i) x) (hxy : Off x y1) :
    LQ base (W.setCell ⟨B, h * 9, none⟩ (.slice x m cx)) B 4 (fun i => if i = h then x else A i) (fun i => if i = h then cx else C i) (fun i => if i = h then ⟨m, f, (L h).sh, (L h).cd⟩ else L i) ∧
    TQ base (W.setCell ⟨B, h * 9, none⟩ (.slice x m cx)) y1 n1 cy1 tn1 B 4 (fun i => if i = h then x else A i) := by
  obtain ⟨vs, t, hs, h1, h2⟩ := lq.sits
  refine ⟨⟨lq.lo, ⟨_, t, hs.set (h * 9) _, by simpa using h1, lv_set0 h1 h4 h2 x cx m f⟩, fun i hi => ?_, fun i hi g hg => ?_, fun i k hi hk' hne => ?_⟩, tq.1.keep (set_keep _ _ tq.2.1), tq.2.1, fun i hi => ?_⟩ <;> (try dsimp only at *)
  · by_cases e : i = h
    · subst e
      simp only [if_true]
      exact po.keep (set_keep _ _ hxB)
    · rw [if_neg e, if_neg e, if_neg e]
      exact (lq.own i hi).keep (set_keep _ _ fun g hg => lq.off i hi g hg)
  · by_cases e : i = h
    · rw [if_pos e] at hg; exact hxB g hg
    · rw [if_neg e] at hg; exact lq.off i hi g hg
  · by_cases e1 : i = h
    · by_cases e2 : k = h
      · omega
      · rw [if_pos e1, if_neg e2]; exact (hxA k hk').symm
    · by_cases e2 : k = h
      · rw [if_neg e1, if_pos e2]; exact hxA i hi
      · rw [if_neg e1, if_neg e2]; exact lq.apart i k hi hk' hne
  · by_cases e : i = h
    · rw [if_pos e]; exact hxy
    · rw [if_neg e]; exact tq.2.2 i hi
/-- One number more in Turn, the Shape's own cell set. -/
theorem turn_both {base : Nat} {W w8 : World} {B n cy V : Nat} {A : Nat → Option Addr} {C : Nat → Nat} {L : Nat → Ln} {y : Option Addr} {tn : Nat → Int} {cells : Array Value} {T : TypeId} {o : Obj} {g cy' : Nat} {f' : Nat → Int} (lq : LQ base W B 4 A C L) (tq : TQ base W y n cy tn B 4 A)
    (sv : Sits W V cells T) (hVB : V ≠ B) (hVA : ∀ i, i < 4 → ∀ g, A i = some g → g.block ≠ V) (hVy : ∀ g, y = some g → g.block ≠ V) {x : Option Addr} {m cx : Nat} {f : Nat → Pk} (po : PO base W x m cx f) (hxV : ∀ g, x = some g → g.block ≠ V) (hxy : Off x y)
    (hgr : (W.alloc o).grownBy w8 (Value.slice y n cy).ownBlock) (hat : (Value.slice y n cy).ownBlock = some g ∨ g = (W.alloc o).heap.size) (hj : JO base w8 (some ⟨g, 0, none⟩) (n + 1) cy' f') (hbw : base ≤ W.heap.size) (hbV : base ≤ V) :
    LQ base (w8.setCell ⟨V, 6, none⟩ (.slice (some ⟨g, 0, none⟩) (n + 1) cy')) B 4 A C L ∧ TQ base (w8.setCell ⟨V, 6, none⟩ (.slice (some ⟨g, 0, none⟩) (n + 1) cy')) (some ⟨g, 0, none⟩) (n + 1) cy' f' B 4 A ∧
    Sits (w8.setCell ⟨V, 6, none⟩ (.slice (some ⟨g, 0, none⟩) (n + 1) cy')) V (cells.setIfInBounds 6 (.slice (some ⟨g, 0, none⟩) (n + 1) cy')) T ∧ PO base (w8.setCell ⟨V, 6, none⟩ (.slice (some ⟨g, 0, none⟩) (n + 1) cy')) x m cx f ∧ Off x (some ⟨g, 0, none⟩) ∧ Below base W (w8.setCell ⟨V, 6, none⟩ (.slice (some ⟨g, 0, none⟩) (n + 1) cy')) ∧
    ∀ k, k < W.heap.size → (∀ a, y = some a → k ≠ a.block) → k ≠ V → (w8.setCell ⟨V, 6, none⟩ (.slice (some ⟨g, 0, none⟩) (n + 1) cy')).heap[k]? = W.heap[k]? := by
  obtain ⟨hk6, hy6⟩ := turn_grown hgr hat
  have noff : ∀ u, Undr W.heap.size u → Off u y → Off u (some ⟨g, 0, none⟩) := fun u hu ho a b e1 e2 e => by
    cases e2
    rcases hy6 with ⟨c, e3, e4⟩ | e3
    · exact ho a c e1 e3 (by rw [e4]; exact e)
    · have := hu a e1; have e' : a.block = g := e; omega
  have hgV : ∀ a, (some ⟨g, 0, none⟩ : Option Addr) = some a → a.block ≠ V := fun a ha e => by
    cases ha
    rcases hy6 with ⟨b, hb, e2⟩ | e2
    · exact hVy b hb (by rw [e2]; exact e)
    · have := sv.lt; have e' : g = V := e; omega
  have hgB : ∀ a, (some ⟨g, 0, none⟩ : Option Addr) = some a → a.block ≠ B := fun a ha e => by
    cases ha
    rcases hy6 with ⟨b, hb, e2⟩ | e2
    · exact tq.2.1 b hb (by rw [e2]; exact e)
    · have := lq.lt; have e' : g = B := e; omega
  refine ⟨lq.keep ?_ fun i hi a ha => ?_, ⟨hj.keep (set_keep _ _ hgV), hgB, fun i hi => noff _ (lq.own i hi).under (tq.2.2 i hi)⟩, ?_, ?_, noff _ po.under hxy, ?_, fun k hk h1 h2 => (Below.heap_setCell _ _ _ k h2).trans (hk6 k hk h1)⟩
  · rw [Below.heap_setCell _ _ _ B (by show B ≠ V; omega)]
    exact hk6 B lq.lt fun a ha e => tq.2.1 a ha e.symm
  · rw [Below.heap_setCell _ _ _ a.block (hVA i hi a ha)]
    exact hk6 a.block ((lq.own i hi).under a ha) fun b hb e => tq.2.2 i hi a b ha hb e
  · exact (show Sits w8 V cells T from (hk6 V sv.lt (fun a ha e => hVy a ha e.symm)).trans sv).set 6 _
  · exact (po.keep fun a ha => hk6 a.block (po.under a ha) fun b hb e => hxy a b ha hb e).keep (set_keep _ _ hxV)
  · exact (Below.grown (B := base) (a := W) ((Below.refl _ W).alloc hbw _) hgr (by simp; omega) (fun j e => (JO.own_lt tq.1 j e).1)).setCell hbV _

set_option maxRecDepth 100000 in
set_option maxHeartbeats 4000000 in
theorem ishapePush_any (s : Sh) (a : Option Addr) (N ca : Nat) (b : Option Addr) (n c : Nat) (L : Nat → Ln) (tn : Nat → Int) (p : Pk) (w : World)
    (hN : N ≤ 1048576) (hcn : cntF L N ≤ 1048576) (hnn : n ≤ 1048576) (hP : LR w.heap.size w a N L) (hb : Row .i64 w b n tn) :
    Calls Try.prog 15 #[shVal s a N ca b n c, p.val] w fun e w' =>
      (mayB s N L ((List.range n).map tn) p = false ∧ e = .returned (.tuple #[shVal ⟨0, 0, 0, 0, 0⟩ none 0 0 none 0 0, .bool false]) ∧ Below w.heap.size w w') ∨
      (mayB s N L ((List.range n).map tn) p = true ∧ ∃ (B : Nat) (A : Nat → Option Addr) (C : Nat → Nat) (cl : Nat) (y : Option Addr) (n1 cy : Nat) (tn1 : Nat → Int), e = .returned (.tuple #[shVal s (some ⟨B, 0, none⟩) 4 cl y n1 cy, .bool (shpB s L p)]) ∧ LQ w.heap.size w' B 4 A C (outL s L p) ∧ TQ w.heap.size w' y n1 cy tn1 B 4 A ∧ (List.range n1).map tn1 = outT s L ((List.range n).map tn) p ∧ n1 ≤ 1000 ∧ Below w.heap.size w w') := by
  have HP : Hid (LR w.heap.size w a N L) := hP
  have HRB : Hid (Row .i64 w b n tn) := hb
  have HN : Hid (N ≤ 1048576) := hN
  have HCN : Hid (cntF L N ≤ 1048576) := hcn
  have HNN : Hid (n ≤ 1048576) := hnn
  clear hP hb hN hcn hnn
  obtain ⟨ts, hts⟩ : ∃ l, (List.range n).map tn = l := ⟨_, rfl⟩
  have HTS : Hid ((List.range n).map tn = ts) := hts
  rw [hts]
  clear hts
  obtain ⟨W0, hW0⟩ : ∃ W, ((w.alloc (.cells (shCells s a N ca b n c) 29)).alloc (.cells (pkCells p) 31)).alloc (.cells shZero 29) = W := ⟨_, rfl⟩
  have s0 : Sits W0 w.heap.size (shCells s a N ca b n c) 29 := by rw [← hW0]; exact ((Sits.new _ _ _).alloc _).alloc _
  have s1 : Sits W0 (w.heap.size + 1) (pkCells p) 31 := by rw [← hW0]; exact (Sits.new' (by simp)).alloc _
  have s2 : Sits W0 (w.heap.size + 1 + 1) shZero 29 := by rw [← hW0]; exact Sits.new' (by simp)
  have b0 : Below w.heap.size w W0 := by rw [← hW0]; exact (((Below.refl _ w).alloc (Nat.le_refl _) _).alloc (by simp) _).alloc (by simp; omega) _
  have z0 : W0.heap.size = w.heap.size + 1 + 1 + 1 := by rw [← hW0]; simp
  have HW0 : Hid (((w.alloc (.cells (shCells s a N ca b n c) 29)).alloc (.cells (pkCells p) 31)).alloc (.cells shZero 29) = W0) := hW0
  have HS0 : Hid (Sits W0 w.heap.size (shCells s a N ca b n c) 29) := s0
  have HS1 : Hid (Sits W0 (w.heap.size + 1) (pkCells p) 31) := s1
  have HS2 : Hid (Sits W0 (w.heap.size + 1 + 1) shZero 29) := s2
  have HB0 : Hid (Below w.heap.size w W0) := b0
  have HZ0 : Hid (W0.heap.size = w.heap.size + 1 + 1 + 1) := z0
  have x0 := s0.cell 0
  have x1 := s0.cell 1
  have x2 := s0.cell 2
  have x3 := s0.cell 3
  have x4 := s0.cell 4
  have x5 := s0.cell 5
  have x6 := s0.cell 6
  clear s0 s1 s2 b0 z0 hW0
  have HA : Hid (∀ W, Below W0.heap.size W0 W → (Sits W w.heap.size (shCells s a N ca b n c) 29 ∧ Sits W (w.heap.size + 1) (pkCells p) 31 ∧ Sits W (w.heap.size + 1 + 1) shZero 29) ∧ Below w.heap.size w W) := fun W hW => ⟨⟨Sits.below HS0.out hW (Sits.lt HS0.out), Sits.below HS1.out hW (Sits.lt HS1.out), Sits.below HS2.out hW (Sits.lt HS2.out)⟩, (HB0.out).trans (hW.mono (HB0.out).size)⟩
  cases t0 : shB s N L ts
  case false =>
    have HE : Hid (mayB s N L ts p = false) := by show _ = _; unfold mayB; rw [t0]; rfl
    go_enter Try.func15, Try.ntmps15
    go_upto_region 1 with fail
    rw [HW0.out]
    go_wp2_with (go_at_call 21; refine (ishapeOk_any s a N ca b n c L tn _ HN.out HCN.out HNN.out (LR.go HP.out HB0.out (HB0.out).size) (Row.below HRB.out HB0.out)).mono ?_; rintro e w1 ⟨rfl, b1⟩; rw [HTS.out, t0]; obtain ⟨⟨_, _, r2⟩, _⟩ := HA.out _ b1; have r2_0 := r2.cell 0; have r2_1 := r2.cell 1; have r2_2 := r2.cell 2; have r2_3 := r2.cell 3; have r2_4 := r2.cell 4; have r2_5 := r2.cell 5; have r2_6 := r2.cell 6; have rf := r2.frozen; have HR2 : Hid (Sits w1 (w.heap.size + 1 + 1) shZero 29) := r2; have HB1 : Hid (Below W0.heap.size W0 w1) := b1; clear r2 b1)
    refine bodyPost_ret (ret_shb2 Try.results15 rfl rfl (((((((Sits.set HR2.out 0 (.int .i64 0)).set 1 (.int .i64 0)).set 2 (.int .i64 0)).set 3 (.int .i64 0)).set 4 (.int .i64 0)).set 5 (.slice none 0 0)).set 6 (.slice none 0 0))) rfl ?_
    exact .inl ⟨HE.out, rfl, ((((((((HA.out _ HB1.out).2.setCell (show w.heap.size ≤ w.heap.size + 1 + 1 by omega) _).setCell (show w.heap.size ≤ w.heap.size + 1 + 1 by omega) _).setCell (show w.heap.size ≤ w.heap.size + 1 + 1 by omega) _).setCell (show w.heap.size ≤ w.heap.size + 1 + 1 by omega) _).setCell (show w.heap.size ≤ w.heap.size + 1 + 1 by omega) _).setCell (show w.heap.size ≤ w.heap.size + 1 + 1 by omega) _).setCell (show w.heap.size ≤ w.heap.size + 1 + 1 by omega) _)⟩
  case true =>
  cases t1 : p.good
  case false =>
    have HE : Hid (mayB s N L ts p = false) := by show _ = _; unfold mayB; rw [t0, t1]; rfl
    go_enter Try.func15, Try.ntmps15
    go_upto_region 1 with fail
    rw [HW0.out]
    go_wp2_with (first | (go_at_call 21; refine (ishapeOk_any s a N ca b n c L tn _ HN.out HCN.out HNN.out (LR.go HP.out HB0.out (HB0.out).size) (Row.below HRB.out HB0.out)).mono ?_; rintro e w1 ⟨rfl, b1⟩; rw [HTS.out, t0]; obtain ⟨⟨_, r1, _⟩, _⟩ := HA.out _ b1; have r1_0 := r1.cell 0; have r1_1 := r1.cell 1; have r1_2 := r1.cell 2; have r1_3 := r1.cell 3; have r1_4 := r1.cell 4; have r1_5 := r1.cell 5; have HB0' : Hid (Below W0.heap.size W0 w1) := b1; clear r1 b1) | (go_at_call 47; refine (ipktOk_any p _).mono ?_; rintro e w2 ⟨rfl, k2⟩; rw [t1]; have b2 := (HB0'.out).trans (k2.1.mono (HB0'.out).size); obtain ⟨⟨_, _, r2⟩, _⟩ := HA.out _ b2; have r2_0 := r2.cell 0; have r2_1 := r2.cell 1; have r2_2 := r2.cell 2; have r2_3 := r2.cell 3; have r2_4 := r2.cell 4; have r2_5 := r2.cell 5; have r2_6 := r2.cell 6; have rf := r2.frozen; have HR2 : Hid (Sits w2 (w.heap.size + 1 + 1) shZero 29) := r2; have HB1 : Hid (Below W0.heap.size W0 w2) := b2; clear r2 b2 k2))
    refine bodyPost_ret (ret_shb2 Try.results15 rfl rfl (((((((Sits.set HR2.out 0 (.int .i64 0)).set 1 (.int .i64 0)).set 2 (.int .i64 0)).set 3 (.int .i64 0)).set 4 (.int .i64 0)).set 5 (.slice none 0 0)).set 6 (.slice none 0 0))) rfl ?_
    exact .inl ⟨HE.out, rfl, ((((((((HA.out _ HB1.out).2.setCell (show w.heap.size ≤ w.heap.size + 1 + 1 by omega) _).setCell (show w.heap.size ≤ w.heap.size + 1 + 1 by omega) _).setCell (show w.heap.size ≤ w.heap.size + 1 + 1 by omega) _).setCell (show w.heap.size ≤ w.heap.size + 1 + 1 by omega) _).setCell (show w.heap.size ≤ w.heap.size + 1 + 1 by omega) _).setCell (show w.heap.size ≤ w.heap.size + 1 + 1 by omega) _).setCell (show w.heap.size ≤ w.heap.size + 1 + 1 by omega) _)⟩
  case true =>
  have hE : mayB s N L ts p = true := by unfold mayB; rw [t0, t1]; rfl
  have HE : Hid (mayB s N L ts p = true) := hE
  obtain ⟨hsp, hpg⟩ := may_parts hE
  obtain rfl : N = 4 := hsp.2.1
  have HSP : Hid (shP s 4 L ((List.range n).map tn)) := by show shP _ _ _ _; rw [HTS.out]; exact hsp
  obtain ⟨hh, h4⟩ := host_of hpg
  have HH : Hid (p.host = ((p.host.toNat : Nat) : Int)) := hh
  have H4 : Hid (p.host.toNat < 4) := h4
  have hlim : s.lim ≤ 40 := hsp.1.2.2.2.2.2
  have hcl : (cntF L 4 : Int) ≤ s.lim := hsp.2.2.1
  have HC40 : Hid (cntF L 4 ≤ 40) := by show _ ≤ _; omega
  have HN4 : Hid (n ≤ 4) := turn_len HSP.out
  clear hE hsp hpg hh h4 hlim hcl
  go_enter Try.func15, Try.ntmps15
  go_upto_region 1 with fail
  rw [HW0.out]
  clear HW0
  go_upto_region 3 with (first | (go_at_call 21; refine (ishapeOk_any s a 4 ca b n c L tn _ HN.out HCN.out HNN.out (LR.go HP.out HB0.out (HB0.out).size) (Row.below HRB.out HB0.out)).mono ?_; rintro e w1 ⟨rfl, b1⟩; rw [HTS.out, t0]; obtain ⟨⟨_, r1, _⟩, _⟩ := HA.out _ b1; have r1_0 := r1.cell 0; have r1_1 := r1.cell 1; have r1_2 := r1.cell 2; have r1_3 := r1.cell 3; have r1_4 := r1.cell 4; have r1_5 := r1.cell 5; have HB1 : Hid (Below W0.heap.size W0 w1) := b1; clear r1 b1) | (go_at_call 47; refine (ipktOk_any p _).mono ?_; rintro e w2 ⟨rfl, k2⟩; rw [t1]; have HB2 : Hid (Below W0.heap.size W0 w2) := (HB1.out).trans (k2.1.mono (HB1.out).size); clear k2))
  clear t0 t1 x0 x1 x2 x3 x4 x5 x6 r1_0 r1_1 r1_2 r1_3 r1_4 r1_5
  obtain ⟨⟨r0, _, _⟩, bw2⟩ := HA.out _ HB2.out
  have HBW2 : Hid (Below w.heap.size w w2) := bw2
  have c0 := r0.cell 0
  have c1 := r0.cell 1
  have c2 := r0.cell 2
  have c3 := r0.cell 3
  have c4 := r0.cell 4
  have c5 := r0.cell 5
  have c6 := r0.cell 6
  clear r0 bw2
  go_upto_region 4 with (go_at_call 32; refine (iownShape_any s a ca b n c L tn _ HCN.out HNN.out (LR.go HP.out HBW2.out (HBW2.out).size) (Row.below HRB.out HBW2.out)).mono ?_; rintro e w3 ⟨B, A, C, cl, y, cy, rfl, lq, tq, b3⟩; have HLQ : Hid (LQ w2.heap.size w3 B 4 A C L) := lq; have HTQ : Hid (TQ w2.heap.size w3 y n cy tn B 4 A) := tq; have HB3 : Hid (Below w2.heap.size w2 w3) := b3; clear lq tq b3)
  obtain ⟨v3, hv3⟩ : ∃ v, w3.alloc (.cells (shCells s (some ⟨B, 0, none⟩) 4 cl y n cy) 29) = v := ⟨_, rfl⟩
  obtain ⟨V, hV⟩ : ∃ V, w3.heap.size = V := ⟨_, rfl⟩
  have sV : Sits v3 V (shCells s (some ⟨B, 0, none⟩) 4 cl y n cy) 29 := by rw [← hv3]; exact Sits.new' hV
  have ba : Below w3.heap.size w3 v3 := by rw [← hv3]; exact (Below.refl _ _).alloc (Nat.le_refl _) _
  have lq3 : LQ w2.heap.size v3 B 4 A C L := (HLQ.out).below ba
  have tq3 : TQ w2.heap.size v3 y n cy tn B 4 A := (HTQ.out).below ba
  have hbV : w2.heap.size ≤ V := by rw [← hV]; exact (HB3.out).size
  have hVB : V ≠ B := by have := (HLQ.out).lt; omega
  have hVA : ∀ i, i < 4 → ∀ g, A i = some g → g.block ≠ V := fun i hi g hg => by have := ((HLQ.out).own i hi).under g hg; omega
  have hVy : ∀ g, y = some g → g.block ≠ V := fun g hg => by have := (HTQ.out).1.undr g hg; omega
  have b23 : Below w2.heap.size w2 v3 := (HB3.out).trans (ba.mono (HB3.out).size)
  rw [hv3, hV]
  have b03 : Below W0.heap.size W0 v3 := (HB2.out).trans (b23.mono (HB2.out).size)
  obtain ⟨⟨_, r1, _⟩, _⟩ := HA.out _ b03
  clear c0 c1 c2 c3 c4 c5 c6
  have p0 := r1.cell 0
  have p1 := r1.cell 1
  have p2 := r1.cell 2
  have p3 := r1.cell 3
  have p4 := r1.cell 4
  have p5 := r1.cell 5
  obtain ⟨h, hh, h4⟩ : ∃ h : Nat, p.host = (h : Int) ∧ h < 4 := ⟨p.host.toNat, HH.out, H4.out⟩
  have hht : p.host.toNat = h := by omega
  have HHT : Hid (p.host.toNat = h) := hht
  have HHH : Hid (p.host = (h : Int)) := hh
  have HSV : Hid (Sits v3 V (shCells s (some ⟨B, 0, none⟩) 4 cl y n cy) 29) := sV
  have HLQ3 : Hid (LQ w2.heap.size v3 B 4 A C L) := lq3
  have HTQ3 : Hid (TQ w2.heap.size v3 y n cy tn B 4 A) := tq3
  have HVB : Hid (V ≠ B) := hVB
  have HVA : Hid (∀ i, i < 4 → ∀ g, A i = some g → g.block ≠ V) := hVA
  have HVY : Hid (∀ g, y = some g → g.block ≠ V) := hVy
  have H23 : Hid (Below w2.heap.size w2 v3) := b23
  have H03 : Hid (Below W0.heap.size W0 v3) := b03
  have y5 := sV.cell 5
  have q2 : v3.cell? ⟨w.heap.size + 1, 2, none⟩ = some (.int .i64 (h : Int)) := by rw [← hh]; exact p2
  have hlti : (h : Int) < 4 := by omega
  have hk0 : (0 : Int) ≤ (h : Int) := by omega
  have HR1 : Hid (Sits v3 (w.heap.size + 1) (pkCells p) 31) := r1
  clear hv3 hV sV ba lq3 tq3 hVB hVA hVy b23 b03 r1 HLQ HTQ HB3 p0 p1 p2 p3 p4 p5 hht hh
  go_upto_region 5 with fail
  clear q2 y5 hlti hk0
  have r1 := HR1.out
  have p0 := r1.cell 0
  have p1 := r1.cell 1
  have p2 := r1.cell 2
  have p3 := r1.cell 3
  have p4 := r1.cell 4
  have p5 := r1.cell 5
  have cA := ((HLQ3.out).at h4).1
  have hnh : (L h).n ≤ 40 := Nat.le_trans (cntF_le L h4) HC40.out
  clear r1
  have l1 := Sits.lt HR1.out
  have lB := (HLQ3.out).lt
  go_cut [8, 9] from 10 (fun s8 s9 wx => ∃ (F : Nat) (x : Option Addr) (cx : Nat), s8 = .pointer (some ⟨F, 0, none⟩) ∧ s9 = .bool (pushB (L h).f (L h).n 40 p) ∧ Sits wx F #[.slice x (pushN (L h).f (L h).n 40 p) cx, .int .i64 (pushL (L h).f (L h).n 40 p)] 84 ∧ PO v3.heap.size wx x (pushN (L h).f (L h).n 40 p) cx (pushF (L h).f (L h).n p) ∧ Below v3.heap.size v3 wx ∧ v3.heap.size ≤ F ∧ ∀ g, x = some g → g.block ≠ F)
  case first =>
    go_region_with (first | (go_at_call 49; refine (queueOf_any (A h) (L h).n (C h) _).mono ?_; rintro e w4 ⟨rfl, b4'⟩; have b4 : Below v3.heap.size v3 w4 := Below.trans (by (repeat first | (with_reducible exact Below.refl _ _) | (with_reducible assumption) | (with_reducible exact HB4.out) | (with_reducible apply Below.drew) | (with_reducible refine Below.alloc ?_ (by first | omega | (simp; done) | (simp; omega)) _))) (b4'.mono (by first | (exact Nat.le_refl _) | omega | (simp; done) | (simp; omega))); (first | (have vz : Sits w4 v3.heap.size #[.slice none 0 0, .int .i64 0] 84 := Sits.below (Sits.new v3.drew #[.slice none 0 0, .int .i64 0] 84) b4' (Sits.lt (Sits.new v3.drew #[.slice none 0 0, .int .i64 0] 84))) | skip); have r4 := Sits.below HR1.out b4 (Sits.lt HR1.out); have q0 := r4.cell 0; have q1 := r4.cell 1; have q2 := r4.cell 2; have q3 := r4.cell 3; have q4 := r4.cell 4; have q5 := r4.cell 5; have l4 := r4.lt; have hs4 := b4.size; have HB4 : Hid (Below v3.heap.size v3 w4) := b4; clear b4 b4' r4) | (go_at_call 48; refine (ipush_any (A h) (L h).n (C h) (L h).f 40 p _ (by omega) ((HLQ3.out).own h h4).cap ((((HLQ3.out).own h h4).pr.below (by (repeat first | (with_reducible exact Below.refl _ _) | (with_reducible assumption) | (with_reducible exact HB4.out) | (with_reducible apply Below.drew) | (with_reducible refine Below.alloc ?_ (by first | omega | (simp; done) | (simp; omega)) _)))).mono (by first | omega | (simp; omega)))).mono ?_; rintro e w5 ⟨x, cx, rfl, po5, b5⟩; have b35 : Below v3.heap.size v3 w5 := Below.trans (by (repeat first | (with_reducible exact Below.refl _ _) | (with_reducible assumption) | (with_reducible exact HB4.out) | (with_reducible apply Below.drew) | (with_reducible refine Below.alloc ?_ (by first | omega | (simp; done) | (simp; omega)) _))) (b5.mono (by first | omega | (simp; omega))); have po6 : PO v3.heap.size w5 x (pushN (L h).f (L h).n 40 p) cx (pushF (L h).f (L h).n p) := po5.mono (by first | omega | (simp; omega)); (first | (have vz5 : Sits w5 w4.heap.size #[.slice none 0 0, .int .i64 0] 84 := Sits.below (Sits.new w4 #[.slice none 0 0, .int .i64 0] 84) b5 (Sits.lt (Sits.new w4 #[.slice none 0 0, .int .i64 0] 84)); have hab : ∀ g, x = some g → g.block ≠ w4.heap.size := (fun g hg => by have := po5.above g hg; simp at this; omega)) | (have vz5 : Sits w5 v3.heap.size #[.slice none 0 0, .int .i64 0] 84 := Sits.below vz b5 (Sits.lt vz); have hab : ∀ g, x = some g → g.block ≠ v3.heap.size := (fun g hg => by have := po5.above g hg; have := vz.lt; omega)) | skip); (first | (have z0 := vz5.cell 0; have z1 := vz5.cell 1; have zf := vz5.frozen) | skip)))
    all_goals
      (go_wp2_with fail)
      go_meet
      case rel =>
        first
          | exact ⟨_, x, cx, rfl, rfl, Sits.new w5 _ _, PO.below po6 ((Below.refl _ _).alloc (Nat.le_refl _) _), b35.alloc b35.size _, b35.size, fun g hg => by have := po6.under g hg; omega⟩
          | exact ⟨_, x, cx, rfl, rfl, (vz5.set 0 _).set 1 _, (po6.keep (set_keep _ _ hab)).keep (set_keep _ _ hab), (b35.setCell (by first | exact hs4 | exact Nat.le_refl _) _).setCell (by first | exact hs4 | exact Nat.le_refl _) _, by first | exact hs4 | exact Nat.le_refl _, hab⟩
  case rest =>
    obtain ⟨F, x, cx, rfl, rfl, sF, po6, b6, hF, hxF⟩ := hcut
    have HF : Hid (Sits wc F #[.slice x (pushN (L h).f (L h).n 40 p) cx, .int .i64 (pushL (L h).f (L h).n 40 p)] 84) := sF
    have HPO : Hid (PO v3.heap.size wc x (pushN (L h).f (L h).n 40 p) cx (pushF (L h).f (L h).n p)) := po6
    have HB6 : Hid (Below v3.heap.size v3 wc) := b6
    have HXF : Hid (∀ g, x = some g → g.block ≠ F) := hxF
    have H0c : Hid (Below W0.heap.size W0 wc) := (H03.out).trans (b6.mono (H03.out).size)
    have HSVc : Hid (Sits wc V (shCells s (some ⟨B, 0, none⟩) 4 cl y n cy) 29) := Sits.below HSV.out b6 (Sits.lt HSV.out)
    have HLQc : Hid (LQ w2.heap.size wc B 4 A C L) := by
      refine (HLQ3.out).keep (b6.block B (HLQ3.out).lt) fun i hi => below_keep b6 ((HLQ3.out).own i hi).under
    have HTQc : Hid (TQ w2.heap.size wc y n cy tn B 4 A) := (HTQ3.out).below b6
    have hz0 := HZ0.out
    have hw2 : W0.heap.size ≤ w2.heap.size := (HB2.out).size
    have hsc := (H0c.out).size
    have HBW : Hid (∀ w', Below wc.heap.size wc w' → Below w.heap.size w w') := fun w' hw' => (HA.out _ ((H0c.out).trans (hw'.mono (H0c.out).size))).2
    obtain ⟨⟨r0, r1, _⟩, _⟩ := HA.out _ H0c.out
    have c4 := r0.cell 4
    have c5 := r0.cell 5
    have p0' := r1.cell 0
    clear p0 p1 p2 p3 p4 p5
    have p0 := p0'
    clear p0' r0 r1 sF po6 b6 hxF cA l1 lB
    cases tf : pushB (L h).f (L h).n 40 p
    case false =>
      have HNO : Hid (shpB s L p = false) := no_fit HSP.out (may_parts HE.out).2 HHH.out h4 tf
      go_upto_region 6 with fail
      refine wp_region_quiet (C := fun w' => Below wc.heap.size wc w') (by kernel_rfl) (by kernel_rfl) ((Below.refl _ _).drew) ?_
      simp only []
      repeat (first
        | go_big_quiet_skip
        | (go_big_quiet_want
           unfold Oper.quiet
           apply Exists.intro
           refine ⟨fun w' hw' => ?_, ?_⟩
           (have z4 := (hw'.cell (p := ⟨w.heap.size, 4, none⟩) (by show w.heap.size < _; omega)).trans c4
            have z5 := (hw'.cell (p := ⟨w.heap.size, 5, none⟩) (by show w.heap.size < _; omega)).trans c5
            have e0 := (hw'.cell (p := ⟨w.heap.size + 1, 0, none⟩) (by show w.heap.size + 1 < _; omega)).trans p0
            go_simp
            first
              | (go_at_call 50; refine (icountOf_any a 4 ca L _ (by omega) HCN.out (LR.go HP.out (HBW.out _ hw') (HBW.out _ hw').size)).mono ?_; rintro e w1 ⟨rfl, hb1⟩; exact ⟨rfl, hw'.trans (hb1.mono hw'.size)⟩)
              | (go_at_call 51; refine (ihasId_any a ca L p.id _ HCN.out (LR.go HP.out (HBW.out _ hw') (HBW.out _ hw').size)).mono ?_; rintro e w1 ⟨rfl, hb1⟩; exact ⟨rfl, hw'.trans (hb1.mono hw'.size)⟩)
              | exact rfl)
           simp only [Act.put, List.setIfInBounds_toArray, List.set_cons_zero, List.set_cons_succ]
           go_big_quiet_on))
      refine wpQuiet_nil ?_
      intro w7 hw7
      have sV7 := Sits.below HSVc.out hw7 (Sits.lt HSVc.out)
      obtain ⟨⟨_, _, r2⟩, bw7⟩ := HA.out _ ((H0c.out).trans (hw7.mono (H0c.out).size))
      have d0 := sV7.cell 0
      have d1 := sV7.cell 1
      have d2 := sV7.cell 2
      have d3 := sV7.cell 3
      have d4 := sV7.cell 4
      have d5 := sV7.cell 5
      have d6 := sV7.cell 6
      have r2_0 := r2.cell 0
      have r2_1 := r2.cell 1
      have r2_2 := r2.cell 2
      have r2_3 := r2.cell 3
      have r2_4 := r2.cell 4
      have r2_5 := r2.cell 5
      have r2_6 := r2.cell 6
      have rf := r2.frozen
      have HR2 : Hid (Sits w7 (w.heap.size + 1 + 1) shZero 29) := r2
      have HLQ7 : Hid (LQ w2.heap.size w7 B 4 A C L) := (HLQc.out).below hw7
      have HTQ7 : Hid (TQ w2.heap.size w7 y n cy tn B 4 A) := (HTQc.out).below hw7
      have HBW7 : Hid (Below w.heap.size w w7) := bw7
      clear r2 bw7 sV7 c4 c5 p0
      go_wp2
      refine bodyPost_ret (ret_shb2 Try.results15 rfl rfl (((((((Sits.set HR2.out 0 (.int .i64 s.rt)).set 1 (.int .i64 s.ov)).set 2 (.int .i64 s.nx)).set 3 (.int .i64 s.qt)).set 4 (.int .i64 s.lim)).set 5 (.slice (some ⟨B, 0, none⟩) 4 cl)).set 6 (.slice y n cy))) rfl ?_
      have h0 : w.heap.size + 1 + 1 ≤ w.heap.size + 1 + 1 := Nat.le_refl _
      have h1 : w.heap.size + 1 + 1 < w.heap.size + 1 + 1 + 1 := Nat.lt_succ_self _
      have c9 : Chg (w.heap.size + 1 + 1) (w.heap.size + 1 + 1 + 1) w7 _ := (chg_set (chg_set (chg_set (chg_set (chg_set (chg_set (chg_set (Chg.refl _ _ w7) h0 h1 0 (.int .i64 s.rt)) h0 h1 1 (.int .i64 s.ov)) h0 h1 2 (.int .i64 s.nx)) h0 h1 3 (.int .i64 s.qt)) h0 h1 4 (.int .i64 s.lim)) h0 h1 5 (.slice (some ⟨B, 0, none⟩) 4 cl)) h0 h1 6 (.slice y n cy))
      refine .inr ⟨HE.out, B, A, C, cl, y, n, cy, tn, by rw [HNO.out], ?_, (TQ.chg HTQ7.out c9 (by omega)).mono (by omega), ?_, by have := HN4.out; omega, c9.bel HBW7.out (by omega)⟩
      · have : outL s L p = L := by unfold outL; rw [HNO.out]; rfl
        rw [this]; exact (LQ.chg HLQ7.out c9 (by omega)).mono (by omega)
      · rw [HTS.out]; unfold outT; rw [HNO.out]; rfl
    case true =>
    by_cases t2 : (cntF L 4 : Int) = s.lim
    case pos =>
      have HNO : Hid (shpB s L p = false) := full_no t2
      have t2' : ((cntF L 4 : Int) == s.lim) = true := by simpa using t2
      go_upto_region 6 with fail
      refine wp_region_quiet (C := fun w' => Below wc.heap.size wc w') (by kernel_rfl) (by kernel_rfl) ((Below.refl _ _).drew) ?_
      simp only []
      repeat (first
        | go_big_quiet_skip
        | (go_big_quiet_want
           unfold Oper.quiet
           apply Exists.intro
           refine ⟨fun w' hw' => ?_, ?_⟩
           (have z4 := (hw'.cell (p := ⟨w.heap.size, 4, none⟩) (by show w.heap.size < _; omega)).trans c4
            have z5 := (hw'.cell (p := ⟨w.heap.size, 5, none⟩) (by show w.heap.size < _; omega)).trans c5
            have e0 := (hw'.cell (p := ⟨w.heap.size + 1, 0, none⟩) (by show w.heap.size + 1 < _; omega)).trans p0
            go_simp
            first
              | (go_at_call 50; refine (icountOf_any a 4 ca L _ (by omega) HCN.out (LR.go HP.out (HBW.out _ hw') (HBW.out _ hw').size)).mono ?_; rintro e w1 ⟨rfl, hb1⟩; exact ⟨rfl, hw'.trans (hb1.mono hw'.size)⟩)
              | (go_at_call 51; refine (ihasId_any a ca L p.id _ HCN.out (LR.go HP.out (HBW.out _ hw') (HBW.out _ hw').size)).mono ?_; rintro e w1 ⟨rfl, hb1⟩; exact ⟨rfl, hw'.trans (hb1.mono hw'.size)⟩)
              | exact rfl)
           simp only [Act.put, List.setIfInBounds_toArray, List.set_cons_zero, List.set_cons_succ]
           go_big_quiet_on))
      refine wpQuiet_nil ?_
      intro w7 hw7
      have sV7 := Sits.below HSVc.out hw7 (Sits.lt HSVc.out)
      obtain ⟨⟨_, _, r2⟩, bw7⟩ := HA.out _ ((H0c.out).trans (hw7.mono (H0c.out).size))
      have d0 := sV7.cell 0
      have d1 := sV7.cell 1
      have d2 := sV7.cell 2
      have d3 := sV7.cell 3
      have d4 := sV7.cell 4
      have d5 := sV7.cell 5
      have d6 := sV7.cell 6
      have r2_0 := r2.cell 0
      have r2_1 := r2.cell 1
      have r2_2 := r2.cell 2
      have r2_3 := r2.cell 3
      have r2_4 := r2.cell 4
      have r2_5 := r2.cell 5
      have r2_6 := r2.cell 6
      have rf := r2.frozen
      have HR2 : Hid (Sits w7 (w.heap.size + 1 + 1) shZero 29) := r2
      have HLQ7 : Hid (LQ w2.heap.size w7 B 4 A C L) := (HLQc.out).below hw7
      have HTQ7 : Hid (TQ w2.heap.size w7 y n cy tn B 4 A) := (HTQc.out).below hw7
      have HBW7 : Hid (Below w.heap.size w w7) := bw7
      clear r2 bw7 sV7 c4 c5 p0
      go_wp2
      refine bodyPost_ret (ret_shb2 Try.results15 rfl rfl (((((((Sits.set HR2.out 0 (.int .i64 s.rt)).set 1 (.int .i64 s.ov)).set 2 (.int .i64 s.nx)).set 3 (.int .i64 s.qt)).set 4 (.int .i64 s.lim)).set 5 (.slice (some ⟨B, 0, none⟩) 4 cl)).set 6 (.slice y n cy))) rfl ?_
      have h0 : w.heap.size + 1 + 1 ≤ w.heap.size + 1 + 1 := Nat.le_refl _
      have h1 : w.heap.size + 1 + 1 < w.heap.size + 1 + 1 + 1 := Nat.lt_succ_self _
      have c9 : Chg (w.heap.size + 1 + 1) (w.heap.size + 1 + 1 + 1) w7 _ := (chg_set (chg_set (chg_set (chg_set (chg_set (chg_set (chg_set (Chg.refl _ _ w7) h0 h1 0 (.int .i64 s.rt)) h0 h1 1 (.int .i64 s.ov)) h0 h1 2 (.int .i64 s.nx)) h0 h1 3 (.int .i64 s.qt)) h0 h1 4 (.int .i64 s.lim)) h0 h1 5 (.slice (some ⟨B, 0, none⟩) 4 cl)) h0 h1 6 (.slice y n cy))
      refine .inr ⟨HE.out, B, A, C, cl, y, n, cy, tn, by rw [HNO.out], ?_, (TQ.chg HTQ7.out c9 (by omega)).mono (by omega), ?_, by have := HN4.out; omega, c9.bel HBW7.out (by omega)⟩
      · have : outL s L p = L := by unfold outL; rw [HNO.out]; rfl
        rw [this]; exact (LQ.chg HLQ7.out c9 (by omega)).mono (by omega)
      · rw [HTS.out]; unfold outT; rw [HNO.out]; rfl
    case neg =>
    have t2' : ((cntF L 4 : Int) == s.lim) = false := by simpa using t2
    cases t3 : hidB L p.id
    case true =>
      have HNO : Hid (shpB s L p = false) := hid_no t3
      go_upto_region 6 with fail
      refine wp_region_quiet (C := fun w' => Below wc.heap.size wc w') (by kernel_rfl) (by kernel_rfl) ((Below.refl _ _).drew) ?_
      simp only []
      repeat (first
        | go_big_quiet_skip
        | (go_big_quiet_want
           unfold Oper.quiet
           apply Exists.intro
           refine ⟨fun w' hw' => ?_, ?_⟩
           (have z4 := (hw'.cell (p := ⟨w.heap.size, 4, none⟩) (by show w.heap.size < _; omega)).trans c4
            have z5 := (hw'.cell (p := ⟨w.heap.size, 5, none⟩) (by show w.heap.size < _; omega)).trans c5
            have e0 := (hw'.cell (p := ⟨w.heap.size + 1, 0, none⟩) (by show w.heap.size + 1 < _; omega)).trans p0
            go_simp
            first
              | (go_at_call 50; refine (icountOf_any a 4 ca L _ (by omega) HCN.out (LR.go HP.out (HBW.out _ hw') (HBW.out _ hw').size)).mono ?_; rintro e w1 ⟨rfl, hb1⟩; exact ⟨rfl, hw'.trans (hb1.mono hw'.size)⟩)
              | (go_at_call 51; refine (ihasId_any a ca L p.id _ HCN.out (LR.go HP.out (HBW.out _ hw') (HBW.out _ hw').size)).mono ?_; rintro e w1 ⟨rfl, hb1⟩; exact ⟨rfl, hw'.trans (hb1.mono hw'.size)⟩)
              | exact rfl)
           simp only [Act.put, List.setIfInBounds_toArray, List.set_cons_zero, List.set_cons_succ]
           go_big_quiet_on))
      refine wpQuiet_nil ?_
      intro w7 hw7
      have sV7 := Sits.below HSVc.out hw7 (Sits.lt HSVc.out)
      obtain ⟨⟨_, _, r2⟩, bw7⟩ := HA.out _ ((H0c.out).trans (hw7.mono (H0c.out).size))
      have d0 := sV7.cell 0
      have d1 := sV7.cell 1
      have d2 := sV7.cell 2
      have d3 := sV7.cell 3
      have d4 := sV7.cell 4
      have d5 := sV7.cell 5
      have d6 := sV7.cell 6
      have r2_0 := r2.cell 0
      have r2_1 := r2.cell 1
      have r2_2 := r2.cell 2
      have r2_3 := r2.cell 3
      have r2_4 := r2.cell 4
      have r2_5 := r2.cell 5
      have r2_6 := r2.cell 6
      have rf := r2.frozen
      have HR2 : Hid (Sits w7 (w.heap.size + 1 + 1) shZero 29) := r2
      have HLQ7 : Hid (LQ w2.heap.size w7 B 4 A C L) := (HLQc.out).below hw7
      have HTQ7 : Hid (TQ w2.heap.size w7 y n cy tn B 4 A) := (HTQc.out).below hw7
      have HBW7 : Hid (Below w.heap.size w w7) := bw7
      clear r2 bw7 sV7 c4 c5 p0
      go_wp2
      refine bodyPost_ret (ret_shb2 Try.results15 rfl rfl (((((((Sits.set HR2.out 0 (.int .i64 s.rt)).set 1 (.int .i64 s.ov)).set 2 (.int .i64 s.nx)).set 3 (.int .i64 s.qt)).set 4 (.int .i64 s.lim)).set 5 (.slice (some ⟨B, 0, none⟩) 4 cl)).set 6 (.slice y n cy))) rfl ?_
      have h0 : w.heap.size + 1 + 1 ≤ w.heap.size + 1 + 1 := Nat.le_refl _
      have h1 : w.heap.size + 1 + 1 < w.heap.size + 1 + 1 + 1 := Nat.lt_succ_self _
      have c9 : Chg (w.heap.size + 1 + 1) (w.heap.size + 1 + 1 + 1) w7 _ := (chg_set (chg_set (chg_set (chg_set (chg_set (chg_set (chg_set (Chg.refl _ _ w7) h0 h1 0 (.int .i64 s.rt)) h0 h1 1 (.int .i64 s.ov)) h0 h1 2 (.int .i64 s.nx)) h0 h1 3 (.int .i64 s.qt)) h0 h1 4 (.int .i64 s.lim)) h0 h1 5 (.slice (some ⟨B, 0, none⟩) 4 cl)) h0 h1 6 (.slice y n cy))
      refine .inr ⟨HE.out, B, A, C, cl, y, n, cy, tn, by rw [HNO.out], ?_, (TQ.chg HTQ7.out c9 (by omega)).mono (by omega), ?_, by have := HN4.out; omega, c9.bel HBW7.out (by omega)⟩
      · have : outL s L p = L := by unfold outL; rw [HNO.out]; rfl
        rw [this]; exact (LQ.chg HLQ7.out c9 (by omega)).mono (by omega)
      · rw [HTS.out]; unfold outT; rw [HNO.out]; rfl
    case false =>
      have HYES : Hid (shpB s L p = true) := all_fits HSP.out HHH.out tf t2 t3
      have hpn : pushN (L h).f (L h).n 40 p = (L h).n + 1 := push_yes tf
      rw [hpn] at HF HPO
      go_upto_region 6 with fail
      refine wp_region_quiet (C := fun w' => Below wc.heap.size wc w') (by kernel_rfl) (by kernel_rfl) ((Below.refl _ _).drew) ?_
      simp only []
      repeat (first
        | go_big_quiet_skip
        | (go_big_quiet_want
           unfold Oper.quiet
           apply Exists.intro
           refine ⟨fun w' hw' => ?_, ?_⟩
           (have z4 := (hw'.cell (p := ⟨w.heap.size, 4, none⟩) (by show w.heap.size < _; omega)).trans c4
            have z5 := (hw'.cell (p := ⟨w.heap.size, 5, none⟩) (by show w.heap.size < _; omega)).trans c5
            have e0 := (hw'.cell (p := ⟨w.heap.size + 1, 0, none⟩) (by show w.heap.size + 1 < _; omega)).trans p0
            go_simp
            first
              | (go_at_call 50; refine (icountOf_any a 4 ca L _ (by omega) HCN.out (LR.go HP.out (HBW.out _ hw') (HBW.out _ hw').size)).mono ?_; rintro e w1 ⟨rfl, hb1⟩; exact ⟨rfl, hw'.trans (hb1.mono hw'.size)⟩)
              | (go_at_call 51; refine (ihasId_any a ca L p.id _ HCN.out (LR.go HP.out (HBW.out _ hw') (HBW.out _ hw').size)).mono ?_; rintro e w1 ⟨rfl, hb1⟩; exact ⟨rfl, hw'.trans (hb1.mono hw'.size)⟩)
              | exact rfl)
           simp only [Act.put, List.setIfInBounds_toArray, List.set_cons_zero, List.set_cons_succ]
           go_big_quiet_on))
      refine wpQuiet_nil ?_
      intro w7 hw7
      obtain ⟨⟨r0, r1, r2⟩, bw7⟩ := HA.out _ ((H0c.out).trans (hw7.mono (H0c.out).size))
      have HR0 : Hid (Sits w7 w.heap.size (shCells s a 4 ca b n c) 29) := r0
      have HR1' : Hid (Sits w7 (w.heap.size + 1) (pkCells p) 31) := r1
      have HR2 : Hid (Sits w7 (w.heap.size + 1 + 1) shZero 29) := r2
      have HLQ7 : Hid (LQ w2.heap.size w7 B 4 A C L) := (HLQc.out).below hw7
      have HTQ7 : Hid (TQ w2.heap.size w7 y n cy tn B 4 A) := (HTQc.out).below hw7
      have HBW7 : Hid (Below w.heap.size w w7) := bw7
      have HSV7 : Hid (Sits w7 V (shCells s (some ⟨B, 0, none⟩) 4 cl y n cy) 29) := Sits.below HSVc.out hw7 (Sits.lt HSVc.out)
      have HF7 : Hid (Sits w7 F #[.slice x ((L h).n + 1) cx, .int .i64 (pushL (L h).f (L h).n 40 p)] 84) := Sits.below HF.out hw7 (Sits.lt HF.out)
      have hs3 : w2.heap.size ≤ v3.heap.size := (H23.out).size
      have HPO7 : Hid (PO w2.heap.size w7 x ((L h).n + 1) cx (pushF (L h).f (L h).n p)) := (PO.below HPO.out hw7).mono hs3
      have hab : Above v3.heap.size x := (HPO.out).above
      have lB : B < v3.heap.size := (HLQ3.out).lt
      have lV : V < v3.heap.size := Sits.lt HSV.out
      have lBb : w2.heap.size ≤ B := (HLQ3.out).lo
      have HXB : Hid (∀ g, x = some g → g.block ≠ B) := fun g hg => by have := hab g hg; omega
      have HXV : Hid (∀ g, x = some g → g.block ≠ V) := fun g hg => by have := hab g hg; omega
      have HXA : Hid (∀ i, i < 4 → Off (A i) x) := fun i hi => off_of ((HLQ3.out).own i hi).under hab
      have HXY : Hid (Off x y) := (off_of (HTQ3.out).1.undr hab).symm
      have hFV : F ≠ V := by omega
      have hFB : F ≠ B := by omega
      have HL2 : Hid ((fun i => if i = h then (⟨(L h).n + 1, pushF (L h).f (L h).n p, if (L h).n = 0 then s.qt else (L h).sh, (L h).cd⟩ : Ln) else L i) = shpL s L p h) := by
        show _ = _
        funext i
        unfold shpL shpLn
        by_cases e : i = h
        · rw [if_pos e, if_pos e]; rfl
        · rw [if_neg e, if_neg e]
      have cA := ((HLQ7.out).at h4).1
      have fB := (HLQ7.out).frozen
      have g0 := Sits.cell HF7.out 0
      have hVB := HVB.out
      clear r0 r1 r2 bw7 c4 c5 p0 hpn tf t2 t2' t3 HPO HF HXF HSVc HTQc HLQc hab
      by_cases hz : (L h).n = 0
      case neg =>
        have hz' : (((L h).n : Int) == 0) = false := by simp; omega
        go_upto_region 12 with fail
        obtain ⟨v8, hv8⟩ : ∃ v, w7.setCell ⟨B, h * 9, none⟩ (.slice x ((L h).n + 1) cx) = v := ⟨_, rfl⟩
        obtain ⟨lq8, tq8⟩ := put_both h4 HLQ7.out HTQ7.out HPO7.out HXB.out HXA.out HXY.out
        rw [hv8] at lq8 tq8 ⊢
        have SE : Hid (Sits v8 V (shCells s (some ⟨B, 0, none⟩) 4 cl y n cy) 29) := by show Sits _ _ _ _; rw [← hv8]; exact Sits.other HSV7.out (by omega) _
        have RE : Hid (Sits v8 (w.heap.size + 1 + 1) shZero 29) := by show Sits _ _ _ _; rw [← hv8]; exact Sits.other HR2.out (by omega) _
        have BE : Hid (Below w.heap.size w v8) := by show Below _ _ _; rw [← hv8]; exact (HBW7.out).setCell (show w.heap.size ≤ B by omega) _
        have LE : Hid (LQ w2.heap.size v8 B 4 _ _ _) := lq8
        have TE : Hid (TQ w2.heap.size v8 y n cy tn B 4 _) := tq8
        have HLL : Hid ((fun i => if i = h then (⟨(L h).n + 1, pushF (L h).f (L h).n p, (L h).sh, (L h).cd⟩ : Ln) else L i) = shpL s L p h) := by show _ = _; rw [← HL2.out, if_neg hz]
        have HTT : Hid ((List.range n).map tn = shpT L ((List.range n).map tn) h) := by show _ = _; unfold shpT; rw [if_neg hz]
        clear lq8 tq8 hv8 cA fB g0
        have d0 := Sits.cell SE.out 0
        have d1 := Sits.cell SE.out 1
        have d2 := Sits.cell SE.out 2
        have d3 := Sits.cell SE.out 3
        have d4 := Sits.cell SE.out 4
        have d5 := Sits.cell SE.out 5
        have d6 := Sits.cell SE.out 6
        have r2_0 := Sits.cell RE.out 0
        have r2_1 := Sits.cell RE.out 1
        have r2_2 := Sits.cell RE.out 2
        have r2_3 := Sits.cell RE.out 3
        have r2_4 := Sits.cell RE.out 4
        have r2_5 := Sits.cell RE.out 5
        have r2_6 := Sits.cell RE.out 6
        have rf := Sits.frozen RE.out
        go_wp2
        refine bodyPost_ret (ret_shb2 Try.results15 rfl rfl (((((((Sits.set RE.out 0 (.int .i64 s.rt)).set 1 (.int .i64 s.ov)).set 2 (.int .i64 s.nx)).set 3 (.int .i64 s.qt)).set 4 (.int .i64 s.lim)).set 5 (.slice (some ⟨B, 0, none⟩) 4 cl)).set 6 (.slice y n cy))) rfl ?_
        have h0 : w.heap.size + 1 + 1 ≤ w.heap.size + 1 + 1 := Nat.le_refl _
        have h1 : w.heap.size + 1 + 1 < w.heap.size + 1 + 1 + 1 := Nat.lt_succ_self _
        have c9 : Chg (w.heap.size + 1 + 1) (w.heap.size + 1 + 1 + 1) v8 _ := (chg_set (chg_set (chg_set (chg_set (chg_set (chg_set (chg_set (Chg.refl _ _ v8) h0 h1 0 (.int .i64 s.rt)) h0 h1 1 (.int .i64 s.ov)) h0 h1 2 (.int .i64 s.nx)) h0 h1 3 (.int .i64 s.qt)) h0 h1 4 (.int .i64 s.lim)) h0 h1 5 (.slice (some ⟨B, 0, none⟩) 4 cl)) h0 h1 6 (.slice y n cy))
        first
          | refine .inr ⟨HE.out, B, (fun i => if i = h then x else A i), (fun i => if i = h then cx else C i), cl, y, n, cy, tn, by rw [HYES.out], ?_, (TQ.chg TE.out c9 (by omega)).mono (by omega), ?_, by have := HN4.out; omega, c9.bel BE.out (by omega)⟩
          | refine .inr ⟨HE.out, B, (fun i => if i = h then x else A i), (fun i => if i = h then cx else C i), cl, y, n, cy, by rw [HYES.out], ?_, tn, (TQ.chg TE.out c9 (by omega)).mono (by omega), ?_, by have := HN4.out; omega, c9.bel BE.out (by omega)⟩
        · have : outL s L p = shpL s L p h := by unfold outL; rw [HYES.out, HHT.out]; rfl
          rw [this, ← HLL.out]; exact (LQ.chg LE.out c9 (by omega)).mono (by omega)
        · rw [HTT.out, HTS.out]; unfold outT; rw [HYES.out, HHT.out]; rfl
      case pos =>
        have hz' : (((L h).n : Int) == 0) = true := by simpa using hz
        have HZ : Hid ((L h).n = 0) := hz
        clear hz
        have HRW : Hid ((w7.alloc (.cells #[.int .i64 p.host] 3)).cell? ⟨w7.heap.size, 0, none⟩ = some (.int .i64 p.host)) := (Sits.new w7 #[.int .i64 p.host] 3).cell 0
        have hni : n ≤ 4 := HN4.out
        have z6 := Sits.cell HSV7.out 6
        have e2 := Sits.cell HR1'.out 2
        have hs7 : w2.heap.size ≤ w7.heap.size := by have := (HLQ7.out).lt; omega
        have lV7 : V < w7.heap.size := Sits.lt HSV7.out
        have HTQA : Hid (JO w2.heap.size (w7.alloc (.cells #[.int .i64 p.host] 3)) y n cy tn) := JO.alloc (HTQ7.out).1 _
        go_upto_region 10 with (at_builtin; refine wpList_append_in1 rfl _ _ rfl w2.heap.size y n cy tn rfl HTQA.out w7.heap.size p.host rfl HRW.out (by omega) (by simp; omega) ?_; intro g6 cy' w8 hj6 hgr hat6 hlt6; obtain ⟨hk6, hy6⟩ := turn_grown hgr hat6; have e6 := hk6 V lV7 (fun a ha e => HVY.out a ha e.symm); have d6 := (cell_of_block e6 6).trans z6; have f6 := (frozen_of_block e6 6).trans (Sits.frozen HSV7.out 6); have HALL : Hid _ := turn_both HLQ7.out HTQ7.out HSV7.out HVB.out HVA.out HVY.out HPO7.out HXV.out HXY.out hgr hat6 hj6 hs7 hbV; clear hgr hk6 hj6 hy6 e6 hat6 hlt6)
        obtain ⟨v8, hv8⟩ : ∃ v, w8.setCell ⟨V, 6, none⟩ (.slice (some ⟨g6, 0, none⟩) (n + 1) cy') = v := ⟨_, rfl⟩
        have hall := HALL.out
        rw [hv8] at hall ⊢
        obtain ⟨lq8, tq8, sv8, po8, off8, b8, k8⟩ := hall
        clear HALL
        have yl : ∀ a, y = some a → w2.heap.size ≤ a.block ∧ a.block < v3.heap.size := fun a ha => ⟨(HTQ3.out).1.abov a ha, (HTQ3.out).1.undr a ha⟩
        have r0 : Sits v8 w.heap.size (shCells s a 4 ca b n c) 29 := (k8 w.heap.size (Sits.lt HR0.out) (fun a ha => by have := (yl a ha).1; omega) (by omega)).trans HR0.out
        have r2 : Sits v8 (w.heap.size + 1 + 1) shZero 29 := (k8 (w.heap.size + 1 + 1) (Sits.lt HR2.out) (fun a ha => by have := (yl a ha).1; omega) (by omega)).trans HR2.out
        have rF : Sits v8 F #[.slice x ((L h).n + 1) cx, .int .i64 (pushL (L h).f (L h).n 40 p)] 84 := (k8 F (Sits.lt HF7.out) (fun a ha => by have := (yl a ha).2; omega) hFV).trans HF7.out
        have bw8 : Below w.heap.size w v8 := (HBW7.out).trans (b8.mono (by omega))
        have HLQ8 : Hid (LQ w2.heap.size v8 B 4 A C L) := lq8
        have HTQ8 : Hid (TQ w2.heap.size v8 (some ⟨g6, 0, none⟩) (n + 1) cy' (fun i => if i = n then p.host else tn i) B 4 A) := tq8
        have HSV8 : Hid (Sits v8 V (shCells s (some ⟨B, 0, none⟩) 4 cl (some ⟨g6, 0, none⟩) (n + 1) cy') 29) := sv8
        have HPO8 : Hid (PO w2.heap.size v8 x ((L h).n + 1) cx (pushF (L h).f (L h).n p)) := po8
        have HOF8 : Hid (Off x (some ⟨g6, 0, none⟩)) := off8
        have HBW8 : Hid (Below w.heap.size w v8) := bw8
        have HR28 : Hid (Sits v8 (w.heap.size + 1 + 1) shZero 29) := r2
        have HF8 : Hid (Sits v8 F #[.slice x ((L h).n + 1) cx, .int .i64 (pushL (L h).f (L h).n 40 p)] 84) := rF
        have x3 := r0.cell 3
        have ab := (lq8.at h4).2.1
        have af := lq8.frozen
        clear hv8 lq8 tq8 sv8 po8 off8 b8 k8 r0 r2 rF bw8 cA fB g0 z6 e2 d6 f6 HLQ7 HTQ7 HPO7 HRW HTQA
        go_upto_region 11 with fail
        obtain ⟨v9, hv9⟩ : ∃ v, v8.setCell ⟨B, h * 9 + 1, none⟩ (.int .i64 s.qt) = v := ⟨_, rfl⟩
        have lq9 := (HLQ8.out).short h4 s.qt
        rw [hv9] at lq9 ⊢
        have tq9 : TQ w2.heap.size v9 (some ⟨g6, 0, none⟩) (n + 1) cy' (fun i => if i = n then p.host else tn i) B 4 A := by rw [← hv9]; exact ⟨(HTQ8.out).1.keep (set_keep _ _ (HTQ8.out).2.1), (HTQ8.out).2.1, (HTQ8.out).2.2⟩
        have po9 : PO w2.heap.size v9 x ((L h).n + 1) cx (pushF (L h).f (L h).n p) := by rw [← hv9]; exact (HPO8.out).keep (set_keep _ _ HXB.out)
        have HF9 : Hid (Sits v9 F #[.slice x ((L h).n + 1) cx, .int .i64 (pushL (L h).f (L h).n 40 p)] 84) := by show Sits _ _ _ _; rw [← hv9]; exact Sits.other HF8.out hFB _
        have HSV9 : Hid (Sits v9 V (shCells s (some ⟨B, 0, none⟩) 4 cl (some ⟨g6, 0, none⟩) (n + 1) cy') 29) := by show Sits _ _ _ _; rw [← hv9]; exact Sits.other HSV8.out hVB _
        have HR29 : Hid (Sits v9 (w.heap.size + 1 + 1) shZero 29) := by show Sits _ _ _ _; rw [← hv9]; exact Sits.other HR28.out (by omega) _
        have HBW9 : Hid (Below w.heap.size w v9) := by show Below _ _ _; rw [← hv9]; exact (HBW8.out).setCell (show w.heap.size ≤ B by omega) _
        obtain ⟨lq10, tq10⟩ := put_both h4 lq9 tq9 po9 HXB.out HXA.out HOF8.out
        have cA := (lq9.at h4).1
        have fB := lq9.frozen
        have g0 := Sits.cell HF9.out 0
        have LE0 : Hid (LQ w2.heap.size (v9.setCell ⟨B, h * 9, none⟩ (.slice x ((L h).n + 1) cx)) B 4 _ _ _) := lq10
        have TE0 : Hid (TQ w2.heap.size (v9.setCell ⟨B, h * 9, none⟩ (.slice x ((L h).n + 1) cx)) (some ⟨g6, 0, none⟩) (n + 1) cy' (fun i => if i = n then p.host else tn i) B 4 _) := tq10
        clear hv9 lq9 tq9 po9 x3 ab af lq10 tq10 HLQ8 HTQ8 HPO8
        go_upto_region 12 with fail
        obtain ⟨v10, hv10⟩ : ∃ v, v9.setCell ⟨B, h * 9, none⟩ (.slice x ((L h).n + 1) cx) = v := ⟨_, rfl⟩
        have LE := LE0
        have TE := TE0
        rw [hv10] at LE TE ⊢
        have SE : Hid (Sits v10 V (shCells s (some ⟨B, 0, none⟩) 4 cl (some ⟨g6, 0, none⟩) (n + 1) cy') 29) := by show Sits _ _ _ _; rw [← hv10]; exact Sits.other HSV9.out (by omega) _
        have RE : Hid (Sits v10 (w.heap.size + 1 + 1) shZero 29) := by show Sits _ _ _ _; rw [← hv10]; exact Sits.other HR29.out (by omega) _
        have BE : Hid (Below w.heap.size w v10) := by show Below _ _ _; rw [← hv10]; exact (HBW9.out).setCell (show w.heap.size ≤ B by omega) _
        have HLL : Hid ((fun i => if i = h then (⟨(L h).n + 1, pushF (L h).f (L h).n p, ((fun i => if i = h then (⟨(L h).n, (L h).f, s.qt, (L h).cd⟩ : Ln) else L i) h).sh, ((fun i => if i = h then (⟨(L h).n, (L h).f, s.qt, (L h).cd⟩ : Ln) else L i) h).cd⟩ : Ln) else (fun i => if i = h then (⟨(L h).n, (L h).f, s.qt, (L h).cd⟩ : Ln) else L i) i) = shpL s L p h) := by
          show _ = _
          rw [← HL2.out]
          funext i
          by_cases e : i = h
          · have hz := HZ.out
            simp [e, hz]
          · simp [e]
        have HTT : Hid ((List.range (n + 1)).map (fun i => if i = n then p.host else tn i) = shpT L ((List.range n).map tn) h) := by show _ = _; unfold shpT; rw [if_pos HZ.out, map_snoc, HHH.out]
        obtain ⟨tn9, htn9⟩ : ∃ f : Nat → Int, (fun i => if i = n then p.host else tn i) = f := ⟨_, rfl⟩
        rw [htn9] at TE HTT
        clear LE0 TE0 hv10 cA fB g0 htn9
        have d0 := Sits.cell SE.out 0
        have d1 := Sits.cell SE.out 1
        have d2 := Sits.cell SE.out 2
        have d3 := Sits.cell SE.out 3
        have d4 := Sits.cell SE.out 4
        have d5 := Sits.cell SE.out 5
        have d6 := Sits.cell SE.out 6
        have r2_0 := Sits.cell RE.out 0
        have r2_1 := Sits.cell RE.out 1
        have r2_2 := Sits.cell RE.out 2
        have r2_3 := Sits.cell RE.out 3
        have r2_4 := Sits.cell RE.out 4
        have r2_5 := Sits.cell RE.out 5
        have r2_6 := Sits.cell RE.out 6
        have rf := Sits.frozen RE.out
        go_wp2
        refine bodyPost_ret (ret_shb2 Try.results15 rfl rfl (((((((Sits.set RE.out 0 (.int .i64 s.rt)).set 1 (.int .i64 s.ov)).set 2 (.int .i64 s.nx)).set 3 (.int .i64 s.qt)).set 4 (.int .i64 s.lim)).set 5 (.slice (some ⟨B, 0, none⟩) 4 cl)).set 6 (.slice (some ⟨g6, 0, none⟩) (n + 1) cy'))) rfl ?_
        have h0 : w.heap.size + 1 + 1 ≤ w.heap.size + 1 + 1 := Nat.le_refl _
        have h1 : w.heap.size + 1 + 1 < w.heap.size + 1 + 1 + 1 := Nat.lt_succ_self _
        have c9 : Chg (w.heap.size + 1 + 1) (w.heap.size + 1 + 1 + 1) v10 _ := (chg_set (chg_set (chg_set (chg_set (chg_set (chg_set (chg_set (Chg.refl _ _ v10) h0 h1 0 (.int .i64 s.rt)) h0 h1 1 (.int .i64 s.ov)) h0 h1 2 (.int .i64 s.nx)) h0 h1 3 (.int .i64 s.qt)) h0 h1 4 (.int .i64 s.lim)) h0 h1 5 (.slice (some ⟨B, 0, none⟩) 4 cl)) h0 h1 6 (.slice (some ⟨g6, 0, none⟩) (n + 1) cy'))
        first
          | refine .inr ⟨HE.out, B, (fun i => if i = h then x else A i), (fun i => if i = h then cx else C i), cl, (some ⟨g6, 0, none⟩), (n + 1), cy', tn9, by rw [HYES.out], ?_, (TQ.chg TE.out c9 (by omega)).mono (by omega), ?_, by have := HN4.out; omega, c9.bel BE.out (by omega)⟩
          | refine .inr ⟨HE.out, B, (fun i => if i = h then x else A i), (fun i => if i = h then cx else C i), cl, (some ⟨g6, 0, none⟩), (n + 1), cy', by rw [HYES.out], ?_, tn9, (TQ.chg TE.out c9 (by omega)).mono (by omega), ?_, by have := HN4.out; omega, c9.bel BE.out (by omega)⟩
        · have : outL s L p = shpL s L p h := by unfold outL; rw [HYES.out, HHT.out]; rfl
          rw [this, ← HLL.out]; exact (LQ.chg LE.out c9 (by omega)).mono (by omega)
        · rw [HTT.out, HTS.out]; unfold outT; rw [HYES.out, HHT.out]; rfl

end Go.Proofs.Ytmjggolllijamaa
