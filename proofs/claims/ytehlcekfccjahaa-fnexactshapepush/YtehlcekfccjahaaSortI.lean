/-
  A SHORT LIST OF NUMBERS IS SORTED: slices.Sort OF AT MOST TWELVE; slices.Equal; a list copied.
-/
import Derived.Test.YtehlcekfccjahaaAppIn
import Derived.Test.YtehlcekfccjahaaLen
import Derived.Test.YtehlcekfccjahaaLines2
namespace Go.Proofs.Ytehlcekfccjahaa
open Go.RowKit
set_option linter.unusedVariables false

/-- In order on the first k. -/
def srt (g : Nat → Int) (k : Nat) : Prop := ∀ p q, p < q → q < k → g p ≤ g q
/-- In order up to i, but for what is at j. -/
def insI (g : Nat → Int) (i j : Nat) : Prop := ∀ p q, p < q → q ≤ i → q ≠ j → g p ≤ g q
/-- Two neighbours exchanged. -/
def swp (g : Nat → Int) (j : Nat) (i : Nat) : Int := if i = j then g (j - 1) else if i = j - 1 then g j else g i
theorem insI_start {g : Nat → Int} {i : Nat} (h : srt g i) : insI g i i := fun p q h1 h2 h3 => h p q h1 (by omega)
theorem insI_zero {g : Nat → Int} {i : Nat} (h : insI g i 0) : srt g (i + 1) := fun p q h1 h2 => h p q h1 (by omega) (by omega)
theorem insI_stop {g : Nat → Int} {i j : Nat} (h : insI g i j) (hj : ¬ g j < g (j - 1)) (hji : j ≤ i) : srt g (i + 1) := fun p q h1 h2 => by
  by_cases e : q = j
  · subst e
    by_cases e2 : p = q - 1
    · subst e2; omega
    · have := h p (q - 1) (by omega) (by omega) (by omega)
      omega
  · exact h p q h1 (by omega) e
theorem insI_step {g : Nat → Int} {i j : Nat} (h : insI g i j) (hj : g j < g (j - 1)) (h0 : 0 < j) (hji : j ≤ i) : insI (swp g j) i (j - 1) := fun p q h1 h2 h3 => by
  unfold swp
  by_cases e1 : q = j
  · subst e1
    rw [if_pos rfl, if_neg (by omega)]
    by_cases e2 : p = q - 1
    · rw [if_pos e2]; omega
    · rw [if_neg e2]; exact h p (q - 1) (by omega) (by omega) (by omega)
  · rw [if_neg e1, if_neg h3]
    by_cases e2 : p = j
    · rw [if_pos e2]; exact h (j - 1) q (by omega) h2 e1
    · rw [if_neg e2]
      by_cases e3 : p = j - 1
      · rw [if_pos e3]; exact h j q (by omega) h2 e1
      · rw [if_neg e3]; exact h p q h1 h2 e1
def swi (j i : Nat) : Nat := if i = j then j - 1 else if i = j - 1 then j else i
theorem swp_perm (g : Nat → Int) (n j : Nat) (h0 : 0 < j) (hj : j < n) : ((List.range n).map (swp g j)).Perm ((List.range n).map g) := by
  have e : (List.range n).map (swp g j) = ((List.range n).map (swi j)).map g := by
    rw [List.map_map]
    refine List.map_congr_left fun i _ => ?_
    simp only [swp, swi, Function.comp]
    split
    · rfl
    · split <;> rfl
  rw [e]
  refine List.Perm.map g ((List.perm_ext_iff_of_nodup ?_ List.nodup_range).2 fun v => ?_)
  · refine List.pairwise_map.2 (List.nodup_range.imp fun {a b} h e => h ?_)
    unfold swi at e
    split at e <;> split at e <;> (try split at e) <;> (try split at e) <;> omega
  · simp only [List.mem_map, List.mem_range]
    constructor
    · rintro ⟨i, hi, rfl⟩
      unfold swi
      split
      · omega
      · split <;> omega
    · intro hv
      refine ⟨swi j v, ?_, ?_⟩
      · unfold swi
        split
        · omega
        · split <;> omega
      · unfold swi
        by_cases a : v = j
        · subst a; rw [if_pos rfl, if_neg (by omega), if_pos rfl]
        · rw [if_neg a]
          by_cases b : v = j - 1
          · subst b; rw [if_pos rfl, if_pos rfl]
          · rw [if_neg b, if_neg a, if_neg b]

theorem cless_any (x y : Int) (w : World) :
    Calls Try.prog 70 #[.int .i64 x, .int .i64 y] w fun e w' => e = .returned (.bool (decide (x < y))) ∧ w' = w := by
  go_enter Try.func70, Try.ntmps70
  go_wp2
  go_ret
  exact ⟨rfl, rfl⟩

theorem own_drew {w : World} {B n : Nat} {f : Nat → Int} (h : Own .i64 w B n f) : Own .i64 w.drew B n f := h
theorem chg_drew {L U : Nat} {w w' : World} (h : Chg L U w w') : Chg L U w w'.drew := ⟨h.os, h.tape, h.output, h.size, h.block⟩
theorem Own.cellI {w : World} {B n : Nat} {f : Nat → Int} (h : Own .i64 w B n f) {i : Nat} (hi : i < n) : w.cell? ⟨B, i, none⟩ = some (.int .i64 (f i)) := (h.2 i hi).1

set_option maxHeartbeats 2000000 in
theorem iinsertion_any (B n cap : Nat) (f : Nat → Int) (w : World) (hn : n ≤ 1048576) (ho : Own .i64 w B n f) :
    Calls Try.prog 64 #[.slice (some ⟨B, 0, none⟩) n cap, .int .i64 0, .int .i64 n] w fun e w' => e = .returned (.tuple #[]) ∧ ∃ g : Nat → Int, Own .i64 w' B n g ∧ ((List.range n).map g).Perm ((List.range n).map f) ∧ srt g n ∧ Chg B (B + 1) w w' := by
  have hni : (n : Int) ≤ 1048576 := by omega
  have HO : Hid (Own .i64 w B n f) := ho
  clear ho hn
  go_enter Try.func64, Try.ntmps64
  go_wp2
  go_loopw [6] (fun vi wr => ∃ (i : Nat) (g : Nat → Int), vi = .int .i64 (i : Int) ∧ 1 ≤ i ∧ i ≤ n + 1 ∧ Own .i64 wr B n g ∧ ((List.range n).map g).Perm ((List.range n).map f) ∧ srt g (min i n) ∧ Chg B (B + 1) w wr) (fun vi _ => n + 1 - (intOf vi).toNat)
  case atStart => exact ⟨1, f, rfl, by omega, by omega, HO.out, List.Perm.refl _, fun p q h1 h2 => by omega, Chg.refl _ _ _⟩
  case round =>
    obtain ⟨i, g, rfl, hi1, hi2, hog, hpm, hsr, hch⟩ := hrel
    have HPM : Hid (((List.range n).map g).Perm ((List.range n).map f)) := hpm
    have HSR : Hid (srt g (min i n)) := hsr
    have HCH : Hid (Chg B (B + 1) w wr) := hch
    have HOG : Hid (Own .i64 wr B n g) := hog
    clear hpm hsr hch hog
    by_cases hlt : i < n
    case neg =>
      have hlt' : ¬ (i : Int) < (n : Int) := by omega
      go_wp2
      exact bodyPost_end (v := .tuple #[]) (by simp [results, Try.results64, go_sem]) rfl ⟨rfl, g, HOG.out, HPM.out, fun p q h1 h2 => HSR.out p q h1 (by omega), HCH.out⟩
    case pos =>
    have hlt' : (i : Int) < (n : Int) := by omega
    go_wp2
    go_loopw [7] (fun vj wr2 => ∃ (j : Nat) (h : Nat → Int), vj = .int .i64 (j : Int) ∧ j ≤ i ∧ Own .i64 wr2 B n h ∧ ((List.range n).map h).Perm ((List.range n).map f) ∧ insI h i j ∧ Chg B (B + 1) w wr2) (fun vj _ => (intOf vj).toNat)
    case atStart => exact ⟨i, g, rfl, Nat.le_refl _, HOG.out, HPM.out, insI_start (fun p q h1 h2 => HSR.out p q h1 (by omega)), HCH.out⟩
    case round =>
      clear HOG HPM HSR HCH
      obtain ⟨j, h, rfl, hji, hoh, hpm, hin, hch⟩ := hrel
      have HPM : Hid (((List.range n).map h).Perm ((List.range n).map f)) := hpm
      have HIN : Hid (insI h i j) := hin
      have HCH : Hid (Chg B (B + 1) w wr) := hch
      have HOH : Hid (Own .i64 wr B n h) := hoh
      have hlB := hoh.1
      clear hpm hin hch
      by_cases hj0 : 0 < j
      case neg =>
        have hj0' : decide ((0 : Int) < (j : Int)) = false := by simp; omega
        have HJ : Hid (j = 0) := by show _ = _; omega
        clear hoh
        go_wp2
        refine wp_region_quiet (C := fun w' => Below wr.heap.size wr w') (by kernel_rfl) (by kernel_rfl) ((Below.refl _ _).drew) ?_
        simp only []
        repeat (first
          | go_big_quiet_skip
          | (go_big_quiet_want
             unfold Oper.quiet
             apply Exists.intro
             refine ⟨fun w' hw' => ?_, ?_⟩
             (go_simp
              exact rfl)
             simp only [Act.put, List.setIfInBounds_toArray, List.set_cons_zero, List.set_cons_succ]
             go_big_quiet_on))
        refine wpQuiet_nil ?_
        intro w2 hw2
        go_wp2
        go_roundw
        case rel => exact ⟨i + 1, h, by go_num, by omega, by omega, Own.below HOH.out hw2, HPM.out, fun p q h1 h2 => insI_zero (by have := HIN.out; rw [HJ.out] at this; exact this) p q h1 (by omega), (HCH.out).trans (Chg.of_below hw2)⟩
        case measure => simp [intOf]; omega
      case pos =>
      have hj0' : decide ((0 : Int) < (j : Int)) = true := by simp; omega
      have cj := hoh.cellI (show j < n by omega)
      have fj := (hoh.2 j (by omega)).2
      obtain ⟨m, rfl⟩ : ∃ m, j = m + 1 := ⟨j - 1, by omega⟩
      have cm := hoh.cellI (show m < n by omega)
      have fm := (hoh.2 m (by omega)).2
      have hjn : (m : Int) + 1 < n := by omega
      have hjt : ((m : Int) + 1).toNat = m + 1 := by omega
      have hj1 : decide ((0 : Int) < (m : Int) + 1) = true := decide_eq_true (by omega)
      have hwm : IntKind.i64.wrap (m : Int) = m := by rw [IntKind.wrap_i64]; omega
      have hj2 : ¬ (m : Int) + 1 < 0 := by omega
      have hj3 : (m : Int) < n := by omega
      clear hj0'
      clear hoh
      obtain ⟨u, hu⟩ : ∃ u, h (m + 1) = u := ⟨_, rfl⟩
      obtain ⟨v, hv⟩ : ∃ v, h m = v := ⟨_, rfl⟩
      rw [hu] at cj
      rw [hv] at cm
      have HU : Hid (h (m + 1) = u) := hu
      have HV : Hid (h m = v) := hv
      clear hu hv
      cases hl : decide (u < v)
      case false =>
        go_wp2
        refine wp_region_quiet (C := fun w' => Below wr.heap.size wr w') (by kernel_rfl) (by kernel_rfl) ((Below.refl _ _).drew) ?_
        simp only []
        repeat (first
          | go_big_quiet_skip
          | (go_big_quiet_want
             unfold Oper.quiet
             apply Exists.intro
             refine ⟨fun w' hw' => ?_, ?_⟩
             (have zj := (hw'.cell (p := ⟨B, m + 1, none⟩) hlB).trans cj
              have zm := (hw'.cell (p := ⟨B, m, none⟩) hlB).trans cm
              go_simp
              first
                | (go_at_call 70; refine (cless_any _ _ _).mono ?_; rintro e w4 ⟨rfl, hw4⟩; exact ⟨by rw [hl], by rw [hw4]; exact hw'⟩)
                | exact rfl)
             simp only [Act.put, List.setIfInBounds_toArray, List.set_cons_zero, List.set_cons_succ]
             go_big_quiet_on))
        refine wpQuiet_nil ?_
        intro w2 hw2
        go_wp2
        go_roundw
        case rel => exact ⟨i + 1, h, by go_num, by omega, by omega, Own.below HOH.out hw2, HPM.out, fun p q h1 h2 => insI_stop HIN.out (by simp only [Nat.add_sub_cancel]; rw [HU.out, HV.out]; simpa using hl) hji p q h1 (by omega), (HCH.out).trans (Chg.of_below hw2)⟩
        case measure => simp [intOf]; omega
      case true =>
        have hl' : u < v := by simpa using hl
        have HL : Hid (h (m + 1) < h (m + 1 - 1)) := by show _ < _; simp only [Nat.add_sub_cancel]; rw [HU.out, HV.out]; exact hl'
        clear hl'
        go_wp2
        refine wp_region_quiet (C := fun w' => Below wr.heap.size wr w') (by kernel_rfl) (by kernel_rfl) ((Below.refl _ _).drew) ?_
        simp only []
        repeat (first
          | go_big_quiet_skip
          | (go_big_quiet_want
             unfold Oper.quiet
             apply Exists.intro
             refine ⟨fun w' hw' => ?_, ?_⟩
             (have zj := (hw'.cell (p := ⟨B, m + 1, none⟩) hlB).trans cj
              have zm := (hw'.cell (p := ⟨B, m, none⟩) hlB).trans cm
              go_simp
              first
                | (go_at_call 70; refine (cless_any _ _ _).mono ?_; rintro e w4 ⟨rfl, hw4⟩; exact ⟨by rw [hl], by rw [hw4]; exact hw'⟩)
                | exact rfl)
             simp only [Act.put, List.setIfInBounds_toArray, List.set_cons_zero, List.set_cons_succ]
             go_big_quiet_on))
        refine wpQuiet_nil ?_
        intro w2 hw2
        have zj := (hw2.cell (p := ⟨B, m + 1, none⟩) hlB).trans cj
        have zm := (hw2.cell (p := ⟨B, m, none⟩) hlB).trans cm
        have yj : w2.frozen? ⟨B, m + 1, none⟩ = false := ((Own.below HOH.out hw2).2 (m + 1) (by omega)).2
        have ym : w2.frozen? ⟨B, m, none⟩ = false := ((Own.below HOH.out hw2).2 m (by omega)).2
        have HW2 : Hid (Below wr.heap.size wr w2) := hw2
        clear hw2 cj cm fj fm hl
        go_wp2
        go_region
        all_goals go_wp2
        go_roundw
        case rel =>
          have o1 := Own.set (Own.set (Own.below HOH.out HW2.out) (m + 1) (by omega) v) m (by omega) u
          refine ⟨m, swp h (m + 1), rfl, by omega, own_drew (o1.congr fun t ht => ?_), (swp_perm h n (m + 1) (by omega) (by omega)).trans HPM.out, insI_step HIN.out HL.out (by omega) hji, chg_drew (chg_set (chg_set ((HCH.out).trans (Chg.of_below HW2.out)) (Nat.le_refl _) (Nat.lt_succ_self _) _ _) (Nat.le_refl _) (Nat.lt_succ_self _) _ _)⟩
          unfold swp
          simp only [Nat.add_sub_cancel]
          by_cases e1 : t = m + 1
          · rw [if_neg (by omega), if_pos e1, if_pos e1, HV.out]
          · rw [if_neg e1, if_neg e1]
            by_cases e2 : t = m
            · rw [if_pos e2, if_pos e2, HU.out]
            · rw [if_neg e2, if_neg e2]
        case measure => simp [intOf]

set_option maxHeartbeats 1000000 in
theorem ipdq_any (B n cap : Nat) (f : Nat → Int) (lim : Int) (w : World) (hn : n ≤ 12) (ho : Own .i64 w B n f) :
    Calls Try.prog 61 #[.slice (some ⟨B, 0, none⟩) n cap, .int .i64 0, .int .i64 n, .int .i64 lim] w fun e w' => e = .returned (.tuple #[]) ∧ ∃ g : Nat → Int, Own .i64 w' B n g ∧ ((List.range n).map g).Perm ((List.range n).map f) ∧ srt g n ∧ Chg B (B + 1) w w' := by
  have hni : (n : Int) ≤ 12 := by omega
  have HO : Hid (Own .i64 w B n f) := ho
  have HN : Hid (n ≤ 1048576) := by show _ ≤ _; omega
  clear ho hn
  go_enter Try.func61, Try.ntmps61
  go_wp2
  go_loopw [1, 2] (fun a b wr => a = .int .i64 0 ∧ b = .int .i64 n ∧ wr = w) (fun _ _ _ => 0)
  case atStart => exact ⟨rfl, rfl, rfl⟩
  case round =>
    obtain ⟨rfl, rfl, hwr⟩ := hrel
    subst hwr
    go_wp2_with (go_at_call 64; refine (iinsertion_any B n cap f _ HN.out HO.out).mono ?_; rintro e w1 ⟨rfl, hg⟩)
    exact bodyPost_ret (v := .tuple #[]) (by simp [results, Try.results61, go_sem]) rfl ⟨rfl, hg⟩

theorem ilen_any (x : Int) (h0 : 0 ≤ x) (h1 : x ≤ 12) (w : World) :
    Calls Try.prog 62 #[.int .u64 x] w fun e w' => (∃ r : Int, e = .returned (.int .i64 r)) ∧ w' = w := by
  by_cases hx : 1 ≤ x
  · go_enter Try.func62, Try.ntmps62
    go_wp2_with (go_at_call 74; refine (len64_any x hx (by omega) _).mono ?_; rintro e w1 ⟨rfl, rfl⟩)
    go_ret
    exact ⟨⟨_, rfl⟩, rfl⟩
  · obtain rfl : x = 0 := by omega
    have hz : Calls Try.prog 74 #[.int .u64 0] w fun e w' => (∃ r : Int, e = .returned (.int .i64 r)) ∧ w' = w := by
      have hs := tab_size
      have hg := tab_get
      go_enter Try.func74, Try.ntmps74
      go_wp2
      go_ret
      exact ⟨⟨_, rfl⟩, rfl⟩
    go_enter Try.func62, Try.ntmps62
    go_wp2_with (go_at_call 74; refine hz.mono ?_; rintro e w1 ⟨⟨r, rfl⟩, rfl⟩)
    go_ret
    exact ⟨⟨_, rfl⟩, rfl⟩

set_option maxHeartbeats 1000000 in
theorem isort_any (B n cap : Nat) (f : Nat → Int) (w : World) (hn : n ≤ 12) (ho : Own .i64 w B n f) :
    Calls Try.prog 54 #[.slice (some ⟨B, 0, none⟩) n cap] w fun e w' => e = .returned (.tuple #[]) ∧ ∃ g : Nat → Int, Own .i64 w' B n g ∧ ((List.range n).map g).Perm ((List.range n).map f) ∧ srt g n ∧ Chg B (B + 1) w w' := by
  have HO : Hid (Own .i64 w B n f) := ho
  have HN : Hid (n ≤ 12) := hn
  have hni : (n : Int) ≤ 12 := by omega
  clear ho hn
  go_enter Try.func54, Try.ntmps54
  go_wp2_with (first
    | (go_at_call 62; refine (ilen_any _ (by omega) (by omega) _).mono ?_; rintro e w1 ⟨⟨r, rfl⟩, rfl⟩)
    | (go_at_call 61; refine (ipdq_any B n cap f _ _ HN.out HO.out).mono ?_; rintro e w1 ⟨rfl, hg⟩))
  exact bodyPost_end (v := .tuple #[]) (by simp [results, Try.results54, go_sem]) rfl ⟨rfl, hg⟩

/-- Are both lists one? -/
def eqlB (f : Nat → Int) (n : Nat) (g : Nat → Int) (m : Nat) : Bool := decide ((List.range n).map f = (List.range m).map g)
theorem iequal_any (a : Option Addr) (n ca : Nat) (f : Nat → Int) (b : Option Addr) (m cb : Nat) (g : Nat → Int) (w : World) (hn : n ≤ 1048576) (hm : m ≤ 1048576) (ha : Row .i64 w a n f) (hb : Row .i64 w b m g) :
    Calls Try.prog 55 #[.slice a n ca, .slice b m cb] w fun e w' => e = .returned (.bool (eqlB f n g m)) ∧ Below w.heap.size w w' := by
  have HA : Hid (Row .i64 w a n f) := ha
  have HB : Hid (Row .i64 w b m g) := hb
  have hni : (n : Int) ≤ 1048576 := by omega
  have hmi : (m : Int) ≤ 1048576 := by omega
  clear ha hb hn hm
  by_cases hnm : n = m
  case neg =>
    have hnm' : ((n : Int) != (m : Int)) = true := by simp; omega
    have HE : Hid (false = eqlB f n g m) := by
      show _ = _; symm; unfold eqlB; rw [decide_eq_false_iff_not]; intro h
      have := congrArg List.length h
      simp at this
      exact hnm this
    go_enter Try.func55, Try.ntmps55
    go_wp2
    go_ret
    exact ⟨ret_bool HE.out, Below.refl _ _⟩
  case pos =>
  subst hnm
  go_enter Try.func55, Try.ntmps55
  go_wp2
  go_loopw [13] (fun i wr => ∃ k : Nat, k ≤ n ∧ i = .int .i64 (k : Int) ∧ (∀ j, j < k → f j = g j) ∧ Below w.heap.size w wr) (fun i _ => n - (intOf i).toNat)
  case atStart => exact ⟨0, Nat.zero_le _, rfl, fun j hj => absurd hj (Nat.not_lt_zero _), Below.refl _ _⟩
  case round =>
    obtain ⟨k, hk, rfl, hal, hB⟩ := hrel
    have HAL : Hid (∀ j, j < k → f j = g j) := hal
    clear hal
    by_cases hlt : k < n
    · obtain ⟨b1, o1, rfl, l1, h1⟩ := Row.at HA.out hlt
      obtain ⟨b2, o2, rfl, l2, h2⟩ := Row.at HB.out hlt
      have c1 := (hB.cell (p := ⟨b1, o1 + k, none⟩) l1).trans (h1 k hlt)
      have c2 := (hB.cell (p := ⟨b2, o2 + k, none⟩) l2).trans (h2 k hlt)
      clear h1 h2
      by_cases he : f k = g k
      · have he' : (f k != g k) = false := by simpa using he
        go_wp2
        go_region
        all_goals go_wp2
        all_goals
          go_roundw
          case rel => exact ⟨k + 1, by omega, by go_num, fun j hj => by by_cases e : j = k; · rw [e]; exact he
                                                                        · exact HAL.out j (by omega), hB.drew⟩
          case measure => simp [intOf]; omega
      · have he' : (f k != g k) = true := by simpa using he
        have HE : Hid (false = eqlB f n g n) := by
          show _ = _; symm; unfold eqlB; rw [decide_eq_false_iff_not]; intro h
          have := congrArg (fun l => l[k]?) h
          simp [hlt] at this
          exact he this
        go_wp2
        go_region
        all_goals go_wp2
        all_goals
          go_ret
          exact ⟨ret_bool HE.out, hB.drew⟩
    · obtain rfl : n = k := by omega
      have HE : Hid (true = eqlB f n g n) := by
        show _ = _; symm; unfold eqlB; rw [decide_eq_true_eq]
        exact List.map_congr_left fun j hj => HAL.out j (by simpa using hj)
      go_wp2
      go_ret
      exact ⟨ret_bool HE.out, hB⟩

theorem iinsertion_zero (a : Option Addr) (cap : Nat) (w : World) :
    Calls Try.prog 64 #[.slice a 0 cap, .int .i64 0, .int .i64 0] w fun e w' => e = .returned (.tuple #[]) ∧ w' = w := by
  go_enter Try.func64, Try.ntmps64
  go_wp2
  go_loopw [6] (fun vi wr => vi = .int .i64 1 ∧ wr = w) (fun _ _ => 0)
  case atStart => exact ⟨rfl, rfl⟩
  case round =>
    obtain ⟨rfl, hwr⟩ := hrel
    subst hwr
    go_wp2
    exact bodyPost_end (v := .tuple #[]) (by simp [results, Try.results64, go_sem]) rfl ⟨rfl, rfl⟩

theorem ipdq_zero (a : Option Addr) (cap : Nat) (lim : Int) (w : World) :
    Calls Try.prog 61 #[.slice a 0 cap, .int .i64 0, .int .i64 0, .int .i64 lim] w fun e w' => e = .returned (.tuple #[]) ∧ w' = w := by
  go_enter Try.func61, Try.ntmps61
  go_wp2
  go_loopw [1, 2] (fun a b wr => a = .int .i64 0 ∧ b = .int .i64 0 ∧ wr = w) (fun _ _ _ => 0)
  case atStart => exact ⟨rfl, rfl, rfl⟩
  case round =>
    obtain ⟨rfl, rfl, hwr⟩ := hrel
    subst hwr
    go_wp2_with (go_at_call 64; refine (iinsertion_zero a cap _).mono ?_; rintro e w1 ⟨rfl, rfl⟩)
    exact bodyPost_ret (v := .tuple #[]) (by simp [results, Try.results61, go_sem]) rfl ⟨rfl, rfl⟩

theorem isort_zero (a : Option Addr) (cap : Nat) (w : World) :
    Calls Try.prog 54 #[.slice a 0 cap] w fun e w' => e = .returned (.tuple #[]) ∧ w' = w := by
  go_enter Try.func54, Try.ntmps54
  go_wp2_with (first
    | (go_at_call 62; refine (ilen_any _ (by omega) (by omega) _).mono ?_; rintro e w1 ⟨⟨r, rfl⟩, rfl⟩)
    | (go_at_call 61; refine (ipdq_zero a cap _ _).mono ?_; rintro e w1 ⟨rfl, rfl⟩))
  exact bodyPost_end (v := .tuple #[]) (by simp [results, Try.results54, go_sem]) rfl ⟨rfl, rfl⟩

theorem ret_one {fn : Func} {tmps : Array Value} {W : World} {i B : Nat} {v0 : Value} {t : TypeId} (hr : fn.results = #[.cell i 78]) (hi : tmps[i]?.getD undef = .pointer (some ⟨B, 0, none⟩)) (hs : Sits W B #[v0] t) : (results fn tmps).run Try.prog W = .ok (.agg #[v0]) W := by
  have c0 : W.cell? ⟨B, 0, none⟩ = some v0 := hs.cell 0
  simp [results, hr, hi, go_sem, c0]

set_option maxHeartbeats 1000000 in
theorem ilistOf_any (b : Option Addr) (n c : Nat) (f : Nat → Int) (w : World) (hn : n ≤ 1048576) (hb : Row .i64 w b n f) :
    Calls Try.prog 44 #[.slice b n c] w fun e w' => ∃ (x : Option Addr) (cap : Nat), e = .returned (.agg #[.slice x n cap]) ∧ JO w.heap.size w' x n cap f ∧ Below w.heap.size w w' := by
  have HB : Hid (Row .i64 w b n f) := hb
  clear hb
  go_enter Try.func44, Try.ntmps44
  go_wp2_with (at_builtin; refine wpList_append_inN rfl _ _ rfl (w.heap.size + 1) none 0 0 f rfl (JO.nil _ _ _) b n c f rfl (Row.below HB.out (by go_grown)) (by omega) (by simp) ?_; intro x cap w1 hjo hgr; have hj1 : JO (w.heap.size + 1) w1 x n cap f := JO.congr (f := joinI f 0 f) (by simpa using hjo) (fun i _ => by simp [joinI]); clear hjo; have B1 : Below (w.heap.size + 1) (w.alloc (.cells #[.slice none 0 0] 78)) w1 := Below.grown (B := w.heap.size + 1) (a := w.alloc (.cells #[.slice none 0 0] 78)) (Below.refl _ _) hgr (by simp) (fun k e => by simp [Value.ownBlock] at e); have s1 := (Sits.new w #[.slice none 0 0] 78).below B1 (by omega); have x0 := s1.cell 0; have xf := s1.frozen; have HS1 : Hid (Sits _ _ _ _) := s1.set 0 (.slice x n cap); have HB1 : Hid (Below (w.heap.size + 1) (w.alloc (.cells #[.slice none 0 0] 78)) w1) := B1; have HJ : Hid (JO (w.heap.size + 1) w1 x n cap f) := hj1; clear s1 B1 hj1 hgr)
  refine bodyPost_ret (ret_one Try.results44 rfl HS1.out) rfl ⟨x, cap, rfl, (JO.far HJ.out (by omega) _ _).mono (by omega), ?_⟩
  exact (((Below.refl _ w).alloc (Nat.le_refl _) _).trans ((HB1.out).mono (by omega))).setCell (Nat.le_refl _) _

end Go.Proofs.Ytehlcekfccjahaa
