/-
  WHICH QUEUES ARE WELL: FifoOk OF BOTH SIDES.
-/
import Derived.Test.YtmjggolllijamaaLine
import Derived.Deep.RegionHeld3
import Derived.Deep.Quiet
import Derived.Deep.QuietTactic
import Derived.BigQuiet
namespace Go.Proofs.Ytmjggolllijamaa
open Go.RowKit
set_option linter.unusedVariables false

theorem below_drewN {n : Nat} {w w' : World} (h : Below n w w') (k : Nat) : Below n w (w'.drewN k) := ⟨h.os, h.tape, h.output, h.size, h.block⟩

/-- Is it a queue? -/
def fifoB (f : Nat → Pk) (n : Nat) (lim : Int) : Bool := inB lim 1 40 && (decide ((n : Int) ≤ lim) && lineB f n)

set_option maxHeartbeats 1000000 in
theorem ififoOk_any (a : Option Addr) (n c : Nat) (f : Nat → Pk) (lim : Int) (w : World) (hn : n ≤ 1048576) (hnc : n ≤ c) (hP : PR w.heap.size w a n f) :
    Calls Try.prog 74 #[.agg #[.slice a n c, .int .i64 lim]] w fun e w' => e = .returned (.bool (fifoB f n lim)) ∧ Below w.heap.size w w' := by
  have HP : Hid (PR w.heap.size w a n f) := hP
  clear hP
  unfold fifoB
  cases h1 : inB lim 1 40
  case false =>
    go_enter Try.func74, Try.ntmps74
    go_wp2_with (go_at_call 31; refine (within_any _ _ _ _).mono ?_; rintro e w' ⟨rfl, rfl⟩)
    go_ret
    exact ⟨ret_bool (by simp), by go_grown⟩
  case true =>
  by_cases h2 : (n : Int) ≤ lim
  · have h2' : decide ((n : Int) ≤ lim) = true := by simpa using h2
    have hB0 : Below w.heap.size w (w.alloc (.cells #[.slice a n c, .int .i64 lim] 84)) := (Below.refl _ _).alloc (Nat.le_refl _) _
    have hP0 : Hid (PR (w.alloc (.cells #[.slice a n c, .int .i64 lim] 84)).heap.size (w.alloc (.cells #[.slice a n c, .int .i64 lim] 84)) a n f) := (PR.below HP.out hB0).mono (by simp)
    go_enter Try.func74, Try.ntmps74
    go_wp2_with (first | (go_at_call 31; refine (within_any _ _ _ _).mono ?_; rintro e w' ⟨rfl, rfl⟩) | (go_at_call 91; refine (lineOk_any a n c f _ hn hnc hP0.out).mono ?_; rintro e w' ⟨rfl, hb⟩))
    go_ret
    exact ⟨ret_bool (by simp [h2']), hB0.trans (hb.mono (by simp))⟩
  · have h2' : decide ((n : Int) ≤ lim) = false := by simpa using h2
    go_enter Try.func74, Try.ntmps74
    go_wp2_with (go_at_call 31; refine (within_any _ _ _ _).mono ?_; rintro e w' ⟨rfl, rfl⟩)
    go_ret
    exact ⟨ret_bool (by simp [h2']), by go_grown⟩

/-- j bears with all ahead of it, as the specification asks: the time of the one ahead alone. -/
def atS (f : Nat → Pk) (j : Nat) : Prop := (f j).good = true ∧ (0 < j → (f (j - 1)).tm ≤ (f j).tm) ∧ ∀ k, k < j → (f k).id ≠ (f j).id
theorem line_iff (f : Nat → Pk) (n : Nat) : lineP f n ↔ ∀ j, j < n → atS f j := by
  constructor
  · intro h j hj
    obtain ⟨h1, h2⟩ := h j hj
    exact ⟨h1, fun h0 => (h2 (j - 1) (by omega)).1, fun k hk => (h2 k hk).2⟩
  · intro h
    have mono : ∀ j, j < n → ∀ k, k ≤ j → (f k).tm ≤ (f j).tm := by
      intro j
      induction j with
      | zero => intro _ k hk; have e : k = 0 := by omega
                rw [e]; exact Int.le_refl _
      | succ j ih =>
        intro hj k hk
        by_cases e : k = j + 1
        · subst e; exact Int.le_refl _
        · have h1 := ih (by omega) k (by omega)
          have h2 := (h (j + 1) hj).2.1 (by omega)
          simp at h2
          omega
    intro j hj
    exact ⟨(h j hj).1, fun k hk => ⟨mono j hj k (by omega), (h j hj).2.2 k hk⟩⟩
theorem line_no {f : Nat → Pk} {n j : Nat} (hj : j < n) (h : ¬ atS f j) : lineB f n = false := decide_eq_false fun hl => h ((line_iff f n).1 hl j hj)
theorem line_yes {f : Nat → Pk} {n : Nat} (h : ∀ j, j < n → atS f j) : lineB f n = true := decide_eq_true ((line_iff f n).2 h)

/-- A queue that lies in a variable. -/
@[reducible] def fiObj (a : Option Addr) (n c : Nat) (lim : Int) : Obj := .cells #[.slice a n c, .int .i64 lim] 84
theorem fi_cells {w : World} {b : Nat} {a : Option Addr} {n c : Nat} {lim : Int} (h : w.heap[b]? = some (fiObj a n c lim)) : w.cell? ⟨b, 0, none⟩ = some (.slice a n c) ∧ w.cell? ⟨b, 1, none⟩ = some (.int .i64 lim) := by
  constructor <;> simp [World.cell?, h]

set_option maxRecDepth 100000 in
set_option maxHeartbeats 4000000 in
theorem sfifoOk_any (a : Option Addr) (n c : Nat) (f : Nat → Pk) (lim : Int) (w : World) (hn : n ≤ 1048576) (hnc : n ≤ c) (hP : PR w.heap.size w a n f) :
    Calls Try.prog 54 #[.agg #[.slice a n c, .int .i64 lim]] w fun e w' => e = .returned (.bool (fifoB f n lim)) ∧ Below w.heap.size w w' := by
  have HP : Hid (PR w.heap.size w a n f) := hP
  clear hP
  by_cases hbad : ¬ (1 ≤ lim ∧ lim ≤ 40 ∧ (n : Int) ≤ lim)
  · have HE : Hid (false = fifoB f n lim) := by
      show _ = _
      unfold fifoB inB
      by_cases e : 1 ≤ lim ∧ lim ≤ 40
      · have : ¬ (n : Int) ≤ lim := by omega
        simp [this]
      · simp [e]
    by_cases e1 : lim < 1
    · go_enter Try.func54, Try.ntmps54
      go_wp2
      go_ret
      exact ⟨ret_bool HE.out, by go_grown⟩
    · have e1' : decide (lim < 1) = false := by simpa using e1
      by_cases e2 : 40 < lim
      · go_enter Try.func54, Try.ntmps54
        go_wp2
        go_ret
        exact ⟨ret_bool HE.out, by go_grown⟩
      · have e2' : decide (40 < lim) = false := by simpa using e2
        have e3 : lim < (n : Int) := by omega
        go_enter Try.func54, Try.ntmps54
        go_wp2
        go_ret
        exact ⟨ret_bool HE.out, by go_grown⟩
  · obtain ⟨e1, e2, e3⟩ : 1 ≤ lim ∧ lim ≤ 40 ∧ (n : Int) ≤ lim := by simpa using hbad
    have HE : Hid (fifoB f n lim = lineB f n) := by
      show _ = _
      unfold fifoB inB
      simp [e1, e2, e3]
    clear hbad
    have e1' : decide (lim < 1) = false := by simp; omega
    have e2' : decide (40 < lim) = false := by simp; omega
    have e3' : decide (lim < (n : Int)) = false := by simp; omega
    have hlie : (w.alloc (fiObj a n c lim)).heap[w.heap.size]? = some (fiObj a n c lim) := World.alloc_heap_new w _
    have hB0 : Below w.heap.size w (w.alloc (fiObj a n c lim)) := (Below.refl _ _).alloc (Nat.le_refl _) _
    go_enter Try.func54, Try.ntmps54
    go_wp2
    go_loopw [3] (fun i wr => ∃ k : Nat, k ≤ n ∧ i = .int .i64 k ∧ (∀ j, j < k → atS f j) ∧ Below (w.heap.size + 1) (w.alloc (fiObj a n c lim)) wr) (fun i _ => n - (intOf i).toNat)
    case atStart => exact ⟨0, Nat.zero_le _, rfl, fun j hj => absurd hj (Nat.not_lt_zero _), Below.refl _ _⟩
    case round =>
      obtain ⟨k, hk, rfl, hall, hB⟩ := hrel
      have HA : Hid (∀ j, j < k → atS f j) := hall
      clear hall
      obtain ⟨x0, x1⟩ := fi_cells ((hB.block w.heap.size (by omega)).trans hlie)
      by_cases hlt : k < n
      · obtain ⟨b, off, rfl, hbl, hcs⟩ := PR.at HP.out hlt
        have hBw : Below w.heap.size w wr := hB0.trans (hB.mono (by omega))
        obtain ⟨c0, c1, c2, c3, c4, c5⟩ := (hcs k hlt).below hBw hbl
        cases hg : (f k).good
        case false =>
          have hno : lineB f n = false := line_no hlt (fun h => by rw [h.1] at hg; cases hg)
          have HN : Hid (lineB f n = false) := hno
          clear hno hcs
          go_wp2
          refine wp_region_quiet (C := fun w' => Below (w.heap.size + 1) wr w') (by kernel_rfl) (by kernel_rfl) ((Below.refl _ _).drew) ?_
          simp only []
          repeat (first
            | go_big_quiet_skip
            | (go_big_quiet_want
               unfold Oper.quiet
               apply Exists.intro
               refine ⟨fun w' hw' => ?_, ?_⟩
               (have z0 := (hw'.cell (p := ⟨w.heap.size, 0, none⟩) (by simp)).trans x0
                have y0 := (hw'.cell (p := ⟨b, off + k * 6, none⟩) (by show b < _; omega)).trans c0
                have y1 := (hw'.cell (p := ⟨b, off + k * 6 + 1, none⟩) (by show b < _; omega)).trans c1
                have y2 := (hw'.cell (p := ⟨b, off + k * 6 + 2, none⟩) (by show b < _; omega)).trans c2
                have y3 := (hw'.cell (p := ⟨b, off + k * 6 + 3, none⟩) (by show b < _; omega)).trans c3
                have y4 := (hw'.cell (p := ⟨b, off + k * 6 + 4, none⟩) (by show b < _; omega)).trans c4
                have y5 := (hw'.cell (p := ⟨b, off + k * 6 + 5, none⟩) (by show b < _; omega)).trans c5
                go_simp
                first
                  | (go_at_call 17; refine (spktOk_ex _ _).mono ?_; rintro e w1 ⟨rfl, rfl⟩; exact ⟨by rw [hg], hw'.alloc (by have h1 := hw'.size; have h2 := hB.size; simp at h2; omega) _⟩)
                  | exact rfl)
               simp only [Act.put, List.setIfInBounds_toArray, List.set_cons_zero, List.set_cons_succ]
               go_big_quiet_on))
          refine wpQuiet_nil ?_
          intro w2 hw2
          go_wp2
          go_ret
          exact ⟨ret_bool (by rw [HE.out, HN.out]), hBw.trans (hw2.mono (by omega))⟩
        case true =>
          by_cases hk0 : 0 < k
          · obtain ⟨m, hm⟩ : ∃ m, k - 1 = m := ⟨_, rfl⟩
            have d4 := ((hcs m (by omega)).below hBw hbl).2.2.2.2.1
            have hk1 : (0 : Int) < (k : Int) := by omega
            have hmi : (k : Int) - 1 = (m : Int) := by omega
            have hmw : IntKind.i64.wrap (m : Int) = (m : Int) := by rw [IntKind.wrap_i64]; omega
            have hml : (m : Int) < (n : Int) := by omega
            by_cases htm : (f k).tm < (f m).tm
            · have HN : Hid (lineB f n = false) := line_no hlt (fun h => by have := h.2.1 hk0; rw [hm] at this; omega)
              clear hcs
              go_wp2
              refine wp_region_quiet (C := fun w' => Below (w.heap.size + 1) wr w') (by kernel_rfl) (by kernel_rfl) ((Below.refl _ _).drew) ?_
              simp only []
              repeat (first
                | go_big_quiet_skip
                | (go_big_quiet_want
                   unfold Oper.quiet
                   apply Exists.intro
                   refine ⟨fun w' hw' => ?_, ?_⟩
                   (have z0 := (hw'.cell (p := ⟨w.heap.size, 0, none⟩) (by simp)).trans x0
                    have y0 := (hw'.cell (p := ⟨b, off + k * 6, none⟩) (by show b < _; omega)).trans c0
                    have y1 := (hw'.cell (p := ⟨b, off + k * 6 + 1, none⟩) (by show b < _; omega)).trans c1
                    have y2 := (hw'.cell (p := ⟨b, off + k * 6 + 2, none⟩) (by show b < _; omega)).trans c2
                    have y3 := (hw'.cell (p := ⟨b, off + k * 6 + 3, none⟩) (by show b < _; omega)).trans c3
                    have y4 := (hw'.cell (p := ⟨b, off + k * 6 + 4, none⟩) (by show b < _; omega)).trans c4
                    have y5 := (hw'.cell (p := ⟨b, off + k * 6 + 5, none⟩) (by show b < _; omega)).trans c5
                    have p4 := (hw'.cell (p := ⟨b, off + m * 6 + 4, none⟩) (by show b < _; omega)).trans d4
                    go_simp
                    first
                      | (go_at_call 17; refine (spktOk_ex _ _).mono ?_; rintro e w1 ⟨rfl, rfl⟩; exact ⟨by rw [hg], hw'.alloc (by have h1 := hw'.size; have h2 := hB.size; simp at h2; omega) _⟩)
                      | exact rfl)
                   simp only [Act.put, List.setIfInBounds_toArray, List.set_cons_zero, List.set_cons_succ]
                   go_big_quiet_on))
              refine wpQuiet_nil ?_
              intro w2 hw2
              go_wp2
              go_ret
              exact ⟨ret_bool (by rw [HE.out, HN.out]), hBw.trans (hw2.mono (by omega))⟩
            · have htm' : decide ((f k).tm < (f m).tm) = false := by simpa using htm
              have HT : Hid (0 < k → (f (k - 1)).tm ≤ (f k).tm) := fun _ => by rw [hm]; omega
              have HC : Hid (∀ i, i < n → PAt w b (off + i * 6) (f i)) := hcs
              clear hcs
              go_wp2
              refine wp_region_quiet (C := fun w' => Below (w.heap.size + 1) wr w') (by kernel_rfl) (by kernel_rfl) ((Below.refl _ _).drew) ?_
              simp only []
              repeat (first
                | go_big_quiet_skip
                | (go_big_quiet_want
                   unfold Oper.quiet
                   apply Exists.intro
                   refine ⟨fun w' hw' => ?_, ?_⟩
                   (have z0 := (hw'.cell (p := ⟨w.heap.size, 0, none⟩) (by simp)).trans x0
                    have y0 := (hw'.cell (p := ⟨b, off + k * 6, none⟩) (by show b < _; omega)).trans c0
                    have y1 := (hw'.cell (p := ⟨b, off + k * 6 + 1, none⟩) (by show b < _; omega)).trans c1
                    have y2 := (hw'.cell (p := ⟨b, off + k * 6 + 2, none⟩) (by show b < _; omega)).trans c2
                    have y3 := (hw'.cell (p := ⟨b, off + k * 6 + 3, none⟩) (by show b < _; omega)).trans c3
                    have y4 := (hw'.cell (p := ⟨b, off + k * 6 + 4, none⟩) (by show b < _; omega)).trans c4
                    have y5 := (hw'.cell (p := ⟨b, off + k * 6 + 5, none⟩) (by show b < _; omega)).trans c5
                    have p4 := (hw'.cell (p := ⟨b, off + m * 6 + 4, none⟩) (by show b < _; omega)).trans d4
                    go_simp
                    first
                      | (go_at_call 17; refine (spktOk_ex _ _).mono ?_; rintro e w1 ⟨rfl, rfl⟩; exact ⟨by rw [hg], hw'.alloc (by have h1 := hw'.size; have h2 := hB.size; simp at h2; omega) _⟩)
                      | exact rfl)
                   simp only [Act.put, List.setIfInBounds_toArray, List.set_cons_zero, List.set_cons_succ]
                   go_big_quiet_on))
              refine wpQuiet_nil ?_
              clear hm hmi hmw hml d4 htm htm' hk1
              intro w2 hw2
              go_wp2
              go_loopw [4] (fun i wr2 => ∃ j : Nat, j ≤ k ∧ i = .int .i64 j ∧ (∀ t, t < j → (f t).id ≠ (f k).id) ∧ Below (w.heap.size + 1) wr wr2) (fun i _ => k - (intOf i).toNat)
              case atStart => exact ⟨0, Nat.zero_le _, rfl, fun t ht => absurd ht (Nat.not_lt_zero _), hw2⟩
              case round =>
                rename_i wr2
                obtain ⟨j, hj, rfl, hids, hw3⟩ := hrel
                have HI : Hid (∀ t, t < j → (f t).id ≠ (f k).id) := hids
                clear hids
                have z0 := (hw3.cell (p := ⟨w.heap.size, 0, none⟩) (by simp)).trans x0
                have y0 := (hw3.cell (p := ⟨b, off + k * 6, none⟩) (by show b < _; omega)).trans c0
                by_cases hjk : j < k
                · have v0 := (((HC.out j (by omega)).below hBw hbl).below hw3 (by omega)).1
                  have hjn : (j : Int) < (n : Int) := by omega
                  by_cases hid : (f j).id = (f k).id
                  · have HN : Hid (lineB f n = false) := line_no hlt (fun h => h.2.2 j hjk hid)
                    have hid' : ((f j).id == (f k).id) = true := by simpa using hid
                    go_wp2
                    go_quiet (fail)
                    go_wp2
                    go_ret
                    exact ⟨ret_bool (by rw [HE.out, HN.out]), hBw.trans ((below_drewN hw3 _).mono (by omega))⟩
                  · have hid' : ((f j).id == (f k).id) = false := by simpa using hid
                    go_wp2
                    go_quiet (fail)
                    go_wp2
                    go_roundw
                    case rel => exact ⟨j + 1, by omega, by go_num, fun t ht => by by_cases e : t = j; · rw [e]; exact hid
                                                                                  · exact HI.out t (by omega), below_drewN hw3 _⟩
                    case measure => simp [intOf]; omega
                · obtain rfl : j = k := by omega
                  go_wp2
                  go_roundw
                  case rel => exact ⟨j + 1, by omega, by go_num, fun t ht => by by_cases e : t = j; · rw [e]; exact ⟨hg, HT.out, HI.out⟩
                                                                                · exact HA.out t (by omega), hB.trans hw3⟩
                  case measure => simp [intOf]; omega
          · have hk1 : decide ((0 : Int) < (k : Int)) = false := by simp; omega
            have HT : Hid (0 < k → (f (k - 1)).tm ≤ (f k).tm) := fun h => absurd h hk0
            have HC : Hid (∀ i, i < n → PAt w b (off + i * 6) (f i)) := hcs
            clear hcs
            go_wp2
            refine wp_region_quiet (C := fun w' => Below (w.heap.size + 1) wr w') (by kernel_rfl) (by kernel_rfl) ((Below.refl _ _).drew) ?_
            simp only []
            repeat (first
              | go_big_quiet_skip
              | (go_big_quiet_want
                 unfold Oper.quiet
                 apply Exists.intro
                 refine ⟨fun w' hw' => ?_, ?_⟩
                 (have z0 := (hw'.cell (p := ⟨w.heap.size, 0, none⟩) (by simp)).trans x0
                  have y0 := (hw'.cell (p := ⟨b, off + k * 6, none⟩) (by show b < _; omega)).trans c0
                  have y1 := (hw'.cell (p := ⟨b, off + k * 6 + 1, none⟩) (by show b < _; omega)).trans c1
                  have y2 := (hw'.cell (p := ⟨b, off + k * 6 + 2, none⟩) (by show b < _; omega)).trans c2
                  have y3 := (hw'.cell (p := ⟨b, off + k * 6 + 3, none⟩) (by show b < _; omega)).trans c3
                  have y4 := (hw'.cell (p := ⟨b, off + k * 6 + 4, none⟩) (by show b < _; omega)).trans c4
                  have y5 := (hw'.cell (p := ⟨b, off + k * 6 + 5, none⟩) (by show b < _; omega)).trans c5
                  go_simp
                  first
                    | (go_at_call 17; refine (spktOk_ex _ _).mono ?_; rintro e w1 ⟨rfl, rfl⟩; exact ⟨by rw [hg], hw'.alloc (by have h1 := hw'.size; have h2 := hB.size; simp at h2; omega) _⟩)
                    | exact rfl)
                 simp only [Act.put, List.setIfInBounds_toArray, List.set_cons_zero, List.set_cons_succ]
                 go_big_quiet_on))
            refine wpQuiet_nil ?_
            clear hk1
            intro w2 hw2
            go_wp2
            go_loopw [4] (fun i wr2 => ∃ j : Nat, j ≤ k ∧ i = .int .i64 j ∧ (∀ t, t < j → (f t).id ≠ (f k).id) ∧ Below (w.heap.size + 1) wr wr2) (fun i _ => k - (intOf i).toNat)
            case atStart => exact ⟨0, Nat.zero_le _, rfl, fun t ht => absurd ht (Nat.not_lt_zero _), hw2⟩
            case round =>
              rename_i wr2
              obtain ⟨j, hj, rfl, hids, hw3⟩ := hrel
              have HI : Hid (∀ t, t < j → (f t).id ≠ (f k).id) := hids
              clear hids
              have z0 := (hw3.cell (p := ⟨w.heap.size, 0, none⟩) (by simp)).trans x0
              have y0 := (hw3.cell (p := ⟨b, off + k * 6, none⟩) (by show b < _; omega)).trans c0
              by_cases hjk : j < k
              · have v0 := (((HC.out j (by omega)).below hBw hbl).below hw3 (by omega)).1
                have hjn : (j : Int) < (n : Int) := by omega
                by_cases hid : (f j).id = (f k).id
                · have HN : Hid (lineB f n = false) := line_no hlt (fun h => h.2.2 j hjk hid)
                  have hid' : ((f j).id == (f k).id) = true := by simpa using hid
                  go_wp2
                  go_quiet (fail)
                  go_wp2
                  go_ret
                  exact ⟨ret_bool (by rw [HE.out, HN.out]), hBw.trans ((below_drewN hw3 _).mono (by omega))⟩
                · have hid' : ((f j).id == (f k).id) = false := by simpa using hid
                  go_wp2
                  go_quiet (fail)
                  go_wp2
                  go_roundw
                  case rel => exact ⟨j + 1, by omega, by go_num, fun t ht => by by_cases e : t = j; · rw [e]; exact hid
                                                                                · exact HI.out t (by omega), below_drewN hw3 _⟩
                  case measure => simp [intOf]; omega
              · obtain rfl : j = k := by omega
                go_wp2
                go_roundw
                case rel => exact ⟨j + 1, by omega, by go_num, fun t ht => by by_cases e : t = j; · rw [e]; exact ⟨hg, HT.out, HI.out⟩
                                                                              · exact HA.out t (by omega), hB.trans hw3⟩
                case measure => simp [intOf]; omega
      · obtain rfl : k = n := by omega
        go_wp2
        go_ret
        exact ⟨ret_bool (by rw [HE.out, line_yes HA.out]), hB0.trans (hB.mono (by omega))⟩

end Go.Proofs.Ytmjggolllijamaa
