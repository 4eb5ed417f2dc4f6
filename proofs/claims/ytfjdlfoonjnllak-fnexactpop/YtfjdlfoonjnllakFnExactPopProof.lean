/-
  Whatever queue the law FnExactPop is given, it returns true and leaves all that lay as it was: the program's Pop answers as the specification's, in memory of its own; no condition.
-/
import Derived.Test.YtfjdlfoonjnllakRows
import Derived.WalkKit
import Derived.ProofKit
import Derived.OpenShut
import Derived.Test.YtfjdlfoonjnllakPopQ
import Derived.Test.YtfjdlfoonjnllakPkMark
import Derived.Deep.RegionHeld3
import Derived.Deep.Slices
import Derived.ShutString
import Derived.ChangeOld
import Derived.Below
namespace Go.Proofs.Ytfjdlfoonjnllak.fnExactPop
open Go.ChangeShapes Go.WideShapes Go.ChangeAt Go.RowKit
open Go.ChangeMaps (open_string shut_string)
set_option linter.unusedVariables false

theorem own : ownKnob Try.prog.godebug = none := by kernel_rfl
theorem laidOut : laidOutB Try.prog = true := by kernel_rfl
theorem cellsInt : Try.prog.cellsOf 3 = 1 := by kernel_rfl
theorem cellsPkt : Try.prog.cellsOf 34 = 6 := by kernel_rfl
theorem cellsFifo : Try.prog.cellsOf 32 = 2 := by kernel_rfl
theorem cellsSlice : Try.prog.cellsOf 30 = 1 := by kernel_rfl


set_option maxHeartbeats 4000000 in
theorem walk (a0 : Option Addr) (len0 cap0 : Nat) (lim0 : Int) (f0 : Nat → Pk) (w : World) (w0 : FifoIn w a0 len0 cap0 lim0 f0) :
    Calls Try.prog 5 #[.agg #[.slice a0 len0 cap0, .int .i64 lim0]] w fun e w' => e = .returned (.bool true) ∧ Below w.heap.size w w' := by
  obtain ⟨hlim, hcap, hmx, hrow, hin⟩ := w0
  have hmax : (len0 : Int) ≤ 9223372036854775807 := by unfold maxLen at hmx; omega
  have HR : Hid (PR w.heap.size w a0 len0 f0) := hrow
  clear hrow hin hmx
  by_cases hbig : 1048576 < (len0 : Int)
  · go_enter Try.func5, Try.ntmps5
    go_wp2_with (go_at_call 14; refine (szFifo_any a0 len0 cap0 lim0 1048576 _ hmax (by omega) (by omega)).mono ?_; rintro o v1 ⟨rfl, b1⟩; rw [if_pos hbig])
    go_ret
    exact ⟨rfl, ((Below.refl w.heap.size w).alloc (Nat.le_refl _) _).trans (b1.mono (by simp <;> omega))⟩
  · have hn : len0 ≤ 1048576 := by omega
    have hsz : decide (1048576 - (len0 : Int) < 0) = false := by simp; omega
    obtain ⟨N, hN⟩ : ∃ N, popN f0 len0 lim0 = N := ⟨_, rfl⟩
    obtain ⟨L, hL⟩ : ∃ L, popL f0 len0 lim0 = L := ⟨_, rfl⟩
    obtain ⟨ok, hok⟩ : ∃ ok, popB f0 len0 lim0 = ok := ⟨_, rfl⟩
    obtain ⟨P, hPk⟩ : ∃ P, popP f0 len0 lim0 = P := ⟨_, rfl⟩
    have hNn : N ≤ 1048576 := by rw [← hN]; unfold popN; split <;> omega
    obtain ⟨G, hG⟩ : ∃ G, (popF f0) = G := ⟨_, rfl⟩
    have HS : Hid (∀ (W : World) (d : Option Addr), PR W.heap.size W d len0 f0 → Calls Try.prog 19 #[.agg #[.slice d len0 len0, .int .i64 lim0]] W fun e w' => ∃ (x : Option Addr) (cap : Nat), e = .returned (.tuple #[.agg #[.slice x N cap, .int .i64 L], P.val, .bool ok]) ∧ PO W.heap.size w' x N cap G ∧ Below W.heap.size W w') := fun W d hd => by
      refine (spop_any d len0 len0 f0 lim0 W hn (Nat.le_refl _) hd).mono ?_
      rintro e w' ⟨x, cap, rfl, h1, h2⟩
      rw [hN, hG] at h1
      rw [hN, hL, hok, hPk]
      exact ⟨x, cap, rfl, h1, h2⟩
    have HI : Hid (∀ (W : World) (d : Option Addr), PR W.heap.size W d len0 f0 → Calls Try.prog 20 #[.agg #[.slice d len0 len0, .int .i64 lim0]] W fun e w' => ∃ (x : Option Addr) (cap : Nat), e = .returned (.tuple #[.agg #[.slice x N cap, .int .i64 L], P.val, .bool ok]) ∧ PO W.heap.size w' x N cap G ∧ Below W.heap.size W w') := fun W d hd => by
      refine (ipop_any d len0 len0 f0 lim0 W hn (Nat.le_refl _) hd).mono ?_
      rintro e w' ⟨x, cap, rfl, h1, h2⟩
      rw [hN, hG] at h1
      rw [hN, hL, hok, hPk]
      exact ⟨x, cap, rfl, h1, h2⟩
    clear hN hL hok hPk hG
    obtain ⟨P0, P1, P2, P3, P4, P5⟩ := P
    have lA : Lies (w.alloc (.cells #[.slice a0 len0 cap0, .int .i64 lim0] 32)) w.heap.size #[.slice a0 len0 cap0, .int .i64 lim0] 32 := Lies.new _ _ _
    have B : Below w.heap.size w (w.alloc (.cells #[.slice a0 len0 cap0, .int .i64 lim0] 32)) := (Below.refl _ _).alloc (Nat.le_refl _) _
    cases ok
    all_goals
      go_enter Try.func5, Try.ntmps5
      go_wp2_with (go_at_call 14; refine (szFifo_any a0 len0 cap0 lim0 1048576 _ hmax (by omega) (by omega)).mono ?_; rintro o v1 ⟨rfl, b1⟩; rw [if_neg hbig]; obtain ⟨clA0, clA1⟩ := fi2_cells (Lies.below lA b1 lA.lt); have clAt := (Lies.below lA b1 lA.lt).lt)
      replace lA := Lies.below lA b1 lA.lt
      replace B := B.trans (b1.mono B.size)
      clear clA0 clA1 clAt
      clear b1
      have HR' : Hid (PR _ _ a0 len0 f0) := (PR.below HR.out B).mono B.size
      have t1 := B.size
      go_wp2_with (go_at_call 16; refine (toFifo_any a0 len0 cap0 lim0 f0 _ HR'.out hn).mono ?_; rintro o v2 ⟨d2, rfl, z2, b1⟩)
      replace lA := Lies.below lA b1 lA.lt
      replace B := B.trans (b1.mono B.size)
      have t2 := b1.size
      clear b1 HR'
      have t3 := B.size
      go_wp2_with (go_at_call 19; refine (HS.out _ d2 (ZI.pr z2)).mono ?_; rintro o v4 ⟨x4, c4, rfl, zw, b1⟩; obtain ⟨clA0, clA1⟩ := fi2_cells (Lies.below lA b1 lA.lt); have clAt := (Lies.below lA b1 lA.lt).lt)
      replace lA := Lies.below lA b1 lA.lt
      replace z2 := ZI.below z2 b1
      replace B := B.trans (b1.mono B.size)
      clear clA0 clA1 clAt
      have t4 := b1.size
      replace zw := PO.zi zw
      obtain ⟨Lw, hLw⟩ : ∃ n, v2.heap.size = n := ⟨_, rfl⟩
      rw [hLw] at zw t3 t4
      clear z2 b1 hLw t1 t2
      obtain ⟨V4, hV⟩ : ∃ V, v4.heap.size = V := ⟨_, rfl⟩
      obtain ⟨yV4, hA⟩ : ∃ x, ((v4).alloc (.cells (#[.slice x4 N c4, .int .i64 L]) 24)).alloc (.cells (pkCells ⟨P0, P1, P2, P3, P4, P5⟩) 38) = x := ⟨_, rfl⟩
      have lw : Lies yV4 (V4) (#[.slice x4 N c4, .int .i64 L]) 24 := by rw [← hA, ← hV]; have := (Lies.new (v4) (#[.slice x4 N c4, .int .i64 L]) 24).alloc (.cells (pkCells ⟨P0, P1, P2, P3, P4, P5⟩) 38); simpa using this
      have lq : Lies yV4 (V4 + 1) (pkCells ⟨P0, P1, P2, P3, P4, P5⟩) 38 := by rw [← hA, ← hV]; have := Lies.new ((v4).alloc (.cells (#[.slice x4 N c4, .int .i64 L]) 24)) (pkCells ⟨P0, P1, P2, P3, P4, P5⟩) 38; simpa using this
      have bA : Below v4.heap.size v4 yV4 := by rw [← hA]; go_grown
      replace lA := Lies.below lA bA lA.lt
      replace zw := ZI.below zw bA
      replace B := B.trans (bA.mono B.size)
      rw [hA, hV]
      rw [hV] at zw t4
      have t5 : V4 + 1 < yV4.heap.size := lq.lt
      clear hA hV bA
      obtain ⟨Lx, hLx⟩ : ∃ n, yV4.heap.size = n := ⟨_, rfl⟩
      rw [hLx] at t5
      have HR' : Hid (PR _ _ a0 len0 f0) := (PR.below HR.out B).mono B.size
      have t1 := B.size
      go_wp2_with (go_at_call 16; refine (toFifo_any a0 len0 cap0 lim0 f0 _ HR'.out hn).mono ?_; rintro o v5 ⟨d5, rfl, zx, b1⟩)
      replace lA := Lies.below lA b1 lA.lt
      replace lw := Lies.below lw b1 lw.lt
      replace lq := Lies.below lq b1 lq.lt
      replace zw := ZI.below zw b1
      replace B := B.trans (b1.mono B.size)
      have t2 := b1.size
      clear b1 HR'
      rw [hLx] at zx t1 t2
      obtain ⟨V5, hV⟩ : ∃ V, v5.heap.size = V := ⟨_, rfl⟩
      obtain ⟨yV5, hA⟩ : ∃ x, (v5).alloc (.cells (#[.slice d5 len0 len0, .int .i64 lim0]) 24) = x := ⟨_, rfl⟩
      have lx : Lies yV5 (V5) (#[.slice d5 len0 len0, .int .i64 lim0]) 24 := by rw [← hA, ← hV]; have := Lies.new (v5) (#[.slice d5 len0 len0, .int .i64 lim0]) 24; simpa using this
      have bA : Below v5.heap.size v5 yV5 := by rw [← hA]; go_grown
      replace lA := Lies.below lA bA lA.lt
      replace lw := Lies.below lw bA lw.lt
      replace lq := Lies.below lq bA lq.lt
      replace zw := ZI.below zw bA
      replace zx := ZI.below zx bA
      replace B := B.trans (bA.mono B.size)
      rw [hA, hV]
      rw [hV] at zx t2
      have t6 : V5 < yV5.heap.size := lx.lt
      clear hA hV bA hLx t1
      obtain ⟨Lg, hLg⟩ : ∃ n, yV5.heap.size = n := ⟨_, rfl⟩
      replace t6 : V5 < Lg := by rw [← hLg]; omega
      go_wp2_with (go_at_call 20; refine (HI.out _ d5 (ZI.pr zx)).mono ?_; rintro o v7 ⟨x7, c7, rfl, zg, b1⟩; obtain ⟨clw0, clw1⟩ := fi2_cells (Lies.below lw b1 lw.lt); have clwt := (Lies.below lw b1 lw.lt).lt)
      replace lA := Lies.below lA b1 lA.lt
      replace lw := Lies.below lw b1 lw.lt
      replace lq := Lies.below lq b1 lq.lt
      replace lx := Lies.below lx b1 lx.lt
      replace zw := ZI.below zw b1
      replace zx := ZI.below zx b1
      replace B := B.trans (b1.mono B.size)
      clear clw0 clw1 clwt
      have t8 := b1.size
      replace zg := PO.zi zg
      rw [hLg] at zg t8
      clear b1 hLg
      obtain ⟨V7, hV⟩ : ∃ V, v7.heap.size = V := ⟨_, rfl⟩
      obtain ⟨yV7, hA⟩ : ∃ x, ((v7).alloc (.cells (#[.slice x7 N c7, .int .i64 L]) 24)).alloc (.cells (pkCells ⟨P0, P1, P2, P3, P4, P5⟩) 38) = x := ⟨_, rfl⟩
      have lg : Lies yV7 (V7) (#[.slice x7 N c7, .int .i64 L]) 24 := by rw [← hA, ← hV]; have := (Lies.new (v7) (#[.slice x7 N c7, .int .i64 L]) 24).alloc (.cells (pkCells ⟨P0, P1, P2, P3, P4, P5⟩) 38); simpa using this
      have lh : Lies yV7 (V7 + 1) (pkCells ⟨P0, P1, P2, P3, P4, P5⟩) 38 := by rw [← hA, ← hV]; have := Lies.new ((v7).alloc (.cells (#[.slice x7 N c7, .int .i64 L]) 24)) (pkCells ⟨P0, P1, P2, P3, P4, P5⟩) 38; simpa using this
      have bA : Below v7.heap.size v7 yV7 := by rw [← hA]; go_grown
      replace lA := Lies.below lA bA lA.lt
      replace lw := Lies.below lw bA lw.lt
      replace lq := Lies.below lq bA lq.lt
      replace lx := Lies.below lx bA lx.lt
      replace zw := ZI.below zw bA
      replace zx := ZI.below zx bA
      replace zg := ZI.below zg bA
      replace B := B.trans (bA.mono B.size)
      rw [hA, hV]
      rw [hV] at zg t8
      clear hA hV bA
      go_wp2_with (go_at_call 11; refine (eqFifo_yes x7 x4 N c7 c4 L G _ (ZI.pr zg) (ZI.pr zw) hNn).mono ?_; rintro o v8 ⟨rfl, b1⟩; obtain ⟨clh0, clh1, clh2, clh3, clh4, clh5⟩ := Lies.pk (Lies.below lh b1 lh.lt); simp only [Nat.zero_add] at clh1 clh2 clh3 clh4 clh5; have clht := (Lies.below lh b1 lh.lt).lt; obtain ⟨clq0, clq1, clq2, clq3, clq4, clq5⟩ := Lies.pk (Lies.below lq b1 lq.lt); simp only [Nat.zero_add] at clq1 clq2 clq3 clq4 clq5; have clqt := (Lies.below lq b1 lq.lt).lt)
      replace lA := Lies.below lA b1 lA.lt
      replace lw := Lies.below lw b1 lw.lt
      replace lq := Lies.below lq b1 lq.lt
      replace lx := Lies.below lx b1 lx.lt
      replace lg := Lies.below lg b1 lg.lt
      replace lh := Lies.below lh b1 lh.lt
      replace zw := ZI.below zw b1
      replace zx := ZI.below zx b1
      replace zg := ZI.below zg b1
      replace B := B.trans (b1.mono B.size)
      clear clh0 clh1 clh2 clh3 clh4 clh5 clht clq0 clq1 clq2 clq3 clq4 clq5 clqt
      clear b1
      go_wp2_with (go_at_call 21; refine (eqPkt_yes ⟨P0, P1, P2, P3, P4, P5⟩ _).mono ?_; rintro o v8p ⟨rfl, k1⟩)
      replace lA := Lies.below lA k1.1 lA.lt
      replace lw := Lies.below lw k1.1 lw.lt
      replace lq := Lies.below lq k1.1 lq.lt
      replace lx := Lies.below lx k1.1 lx.lt
      replace lg := Lies.below lg k1.1 lg.lt
      replace lh := Lies.below lh k1.1 lh.lt
      replace zw := ZI.below zw k1.1
      replace zx := ZI.below zx k1.1
      replace zg := ZI.below zg k1.1
      replace B := B.trans (k1.1.mono B.size)
      clear k1
      obtain ⟨y1, y2⟩ := fi2_cells lx
      obtain ⟨k1, k2⟩ := fi2_cells lA
      go_region_held3 (fun w' => (w'.cell? ⟨V5, 0, none⟩ = some (.slice d5 len0 len0) ∧ w'.cell? ⟨V5, 1, none⟩ = some (.int .i64 lim0)) ∧ (w'.cell? ⟨w.heap.size, 0, none⟩ = some (.slice a0 len0 cap0) ∧ w'.cell? ⟨w.heap.size, 1, none⟩ = some (.int .i64 lim0))) (first | exact ⟨⟨y1, y2⟩, ⟨k1, k2⟩⟩ | go_keep | exact ⟨fi2_cells (Lies.below (W := v8p.drew) lx b7 lx.lt), fi2_cells (Lies.below (W := v8p.drew) lA b7 lA.lt)⟩ | exact ⟨fi2_cells ((Lies.below (W := v8p.drew) lx b7 lx.lt).below b8 (Lies.below (W := v8p.drew) lx b7 lx.lt).lt), fi2_cells ((Lies.below (W := v8p.drew) lA b7 lA.lt).below b8 (Lies.below (W := v8p.drew) lA b7 lA.lt).lt)⟩) (first | (go_at_call 16; refine (toFifo_any a0 len0 cap0 lim0 f0 _ ((PR.below HR.out B.drew).mono B.size) hn).mono ?_; rintro o v9 ⟨d9, rfl, z9, b7⟩) | (go_at_call 11; refine (eqFifo_yes d5 d9 len0 len0 len0 lim0 f0 _ ((PR.below (w := v8p.drew) (ZI.pr zx) b7).mono b7.size) (ZI.pr z9) hn).mono ?_; rintro o v10 ⟨rfl, b8⟩))
      replace lA := Lies.below (W := v8p.drew) lA b7 lA.lt
      replace lw := Lies.below (W := v8p.drew) lw b7 lw.lt
      replace lq := Lies.below (W := v8p.drew) lq b7 lq.lt
      replace lx := Lies.below (W := v8p.drew) lx b7 lx.lt
      replace lg := Lies.below (W := v8p.drew) lg b7 lg.lt
      replace lh := Lies.below (W := v8p.drew) lh b7 lh.lt
      replace zw := ZI.below (w := v8p.drew) zw b7
      replace zx := ZI.below (w := v8p.drew) zx b7
      replace zg := ZI.below (w := v8p.drew) zg b7
      replace B := B.drew.trans (b7.mono B.size)
      replace lA := Lies.below lA b8 lA.lt
      replace lw := Lies.below lw b8 lw.lt
      replace lq := Lies.below lq b8 lq.lt
      replace lx := Lies.below lx b8 lx.lt
      replace lg := Lies.below lg b8 lg.lt
      replace lh := Lies.below lh b8 lh.lt
      replace zw := ZI.below zw b8
      replace zx := ZI.below zx b8
      replace zg := ZI.below zg b8
      replace B := B.trans (b8.mono B.size)
      clear b7 b8 z9 y1 y2 k1 k2
      have hk1 : decide (1 + (len0 : Int) * 6 < 0) = false := by simp; omega
      have hk2 : decide (1 + (N : Int) * 6 < 0) = false := by simp; omega
      obtain ⟨clx0, clx1⟩ := fi2_cells lx
      have hLs : Lx ≤ _ := Nat.le_of_lt (Nat.lt_of_le_of_lt (Nat.le_trans (by omega) (Nat.le_refl V7)) lg.lt)
      go_wp2_with (go_at_call 12; refine (markFifo_zi Lx V5 d5 len0 len0 lim0 (flat f0) 1 _ zx hn (by omega) (by omega)).mono ?_; rintro o v11 ⟨rfl, zn, c1⟩; obtain ⟨clg0, clg1⟩ := fi2_cells (Lies.chg lg c1 (by omega)); have clgt := (Lies.chg lg c1 (by omega)).lt; obtain ⟨clw0, clw1⟩ := fi2_cells (Lies.chg lw c1 (by omega)); have clwt := (Lies.chg lw c1 (by omega)).lt)
      replace lA := Lies.chg lA c1 (by omega)
      replace lw := Lies.chg lw c1 (by omega)
      replace lq := Lies.chg lq c1 (by omega)
      replace lx := Lies.chg lx c1 (by omega)
      replace lg := Lies.chg lg c1 (by omega)
      replace lh := Lies.chg lh c1 (by omega)
      replace zw := ZI.chg zw c1 (by omega)
      replace zg := ZI.chg zg c1 (by omega)
      replace B := B.trans ((c1.below hLs).mono (by omega))
      clear c1 hLs clg0 clg1 clgt clw0 clw1 clwt
      clear zx zn clx0 clx1
      go_wp2_with (go_at_call 11; refine (eqFifo_yes x7 x4 N c7 c4 L G _ (ZI.pr zg) (ZI.pr zw) hNn).mono ?_; rintro o v12 ⟨rfl, b1⟩; obtain ⟨clh0, clh1, clh2, clh3, clh4, clh5⟩ := Lies.pk (Lies.below lh b1 lh.lt); simp only [Nat.zero_add] at clh1 clh2 clh3 clh4 clh5; have clht := (Lies.below lh b1 lh.lt).lt; obtain ⟨clq0, clq1, clq2, clq3, clq4, clq5⟩ := Lies.pk (Lies.below lq b1 lq.lt); simp only [Nat.zero_add] at clq1 clq2 clq3 clq4 clq5; have clqt := (Lies.below lq b1 lq.lt).lt)
      replace lA := Lies.below lA b1 lA.lt
      replace lw := Lies.below lw b1 lw.lt
      replace lq := Lies.below lq b1 lq.lt
      replace lx := Lies.below lx b1 lx.lt
      replace lg := Lies.below lg b1 lg.lt
      replace lh := Lies.below lh b1 lh.lt
      replace zw := ZI.below zw b1
      replace zg := ZI.below zg b1
      replace B := B.trans (b1.mono B.size)
      clear clh0 clh1 clh2 clh3 clh4 clh5 clht clq0 clq1 clq2 clq3 clq4 clq5 clqt
      clear b1
      go_wp2_with (go_at_call 21; refine (eqPkt_yes ⟨P0, P1, P2, P3, P4, P5⟩ _).mono ?_; rintro o v12p ⟨rfl, k1⟩; obtain ⟨clg0, clg1⟩ := fi2_cells (Lies.below lg k1.1 lg.lt); have clgt := (Lies.below lg k1.1 lg.lt).lt)
      replace lA := Lies.below lA k1.1 lA.lt
      replace lw := Lies.below lw k1.1 lw.lt
      replace lq := Lies.below lq k1.1 lq.lt
      replace lx := Lies.below lx k1.1 lx.lt
      replace lg := Lies.below lg k1.1 lg.lt
      replace lh := Lies.below lh k1.1 lh.lt
      replace zw := ZI.below zw k1.1
      replace zg := ZI.below zg k1.1
      replace B := B.trans (k1.1.mono B.size)
      clear clg0 clg1 clgt
      clear k1
      have hLs : Lg ≤ _ := Nat.le_of_lt (Nat.lt_of_le_of_lt (Nat.le_trans (by omega) (Nat.le_refl V7)) lg.lt)
      go_wp2_with (go_at_call 12; refine (markFifo_zi Lg V7 x7 N c7 L (flat G) 1 _ zg hNn (by omega) (by omega)).mono ?_; rintro o v13 ⟨rfl, zn, c1⟩; obtain ⟨dg0, dg1⟩ := fi2_cells (Lies.chg lg c1 (by omega)))
      replace lA := Lies.chg lA c1 (by omega)
      replace lw := Lies.chg lw c1 (by omega)
      replace lq := Lies.chg lq c1 (by omega)
      replace lx := Lies.chg lx c1 (by omega)
      replace lg := Lies.chg lg c1 (by omega)
      replace lh := Lies.chg lh c1 (by omega)
      replace zw := ZI.chg zw c1 (by omega)
      replace B := B.trans ((c1.below hLs).mono (by omega))
      replace zg := zn
      clear c1 hLs zn dg0 dg1
      go_wp2_with (go_at_call 13; refine (heldFifo_any x7 N c7 L 1 _ (ZI.row zg) hNn (by omega) (by omega)).mono ?_; rintro o v14 ⟨rfl, b1⟩; obtain ⟨clA0, clA1⟩ := fi2_cells (Lies.below lA b1 lA.lt); have clAt := (Lies.below lA b1 lA.lt).lt)
      replace lA := Lies.below lA b1 lA.lt
      replace lw := Lies.below lw b1 lw.lt
      replace lq := Lies.below lq b1 lq.lt
      replace lx := Lies.below lx b1 lx.lt
      replace lg := Lies.below lg b1 lg.lt
      replace lh := Lies.below lh b1 lh.lt
      replace zw := ZI.below zw b1
      replace zg := ZI.below zg b1
      replace B := B.trans (b1.mono B.size)
      clear clA0 clA1 clAt
      clear b1 t3 t4 t5 t2 t6 t8
      have HR' : Hid (PR _ _ a0 len0 f0) := (PR.below HR.out B).mono B.size
      have t1 := B.size
      go_wp2_with (go_at_call 16; refine (toFifo_any a0 len0 cap0 lim0 f0 _ HR'.out hn).mono ?_; rintro o v15 ⟨d15, rfl, z15, b1⟩)
      replace lA := Lies.below lA b1 lA.lt
      replace lw := Lies.below lw b1 lw.lt
      replace lq := Lies.below lq b1 lq.lt
      replace lx := Lies.below lx b1 lx.lt
      replace lg := Lies.below lg b1 lg.lt
      replace lh := Lies.below lh b1 lh.lt
      replace zw := ZI.below zw b1
      replace zg := ZI.below zg b1
      replace B := B.trans (b1.mono B.size)
      have t2 := b1.size
      clear b1 HR'
      go_wp2_with (go_at_call 20; refine (HI.out _ d15 (ZI.pr z15)).mono ?_; rintro o v17 ⟨x17, c17, rfl, zh, b1⟩; obtain ⟨clw0, clw1⟩ := fi2_cells (Lies.below lw b1 lw.lt); have clwt := (Lies.below lw b1 lw.lt).lt)
      replace lA := Lies.below lA b1 lA.lt
      replace lw := Lies.below lw b1 lw.lt
      replace lq := Lies.below lq b1 lq.lt
      replace lx := Lies.below lx b1 lx.lt
      replace lg := Lies.below lg b1 lg.lt
      replace lh := Lies.below lh b1 lh.lt
      replace zw := ZI.below zw b1
      replace zg := ZI.below zg b1
      replace z15 := ZI.below z15 b1
      replace B := B.trans (b1.mono B.size)
      clear clw0 clw1 clwt
      clear z15
      replace zh := PO.zi zh
      clear b1
      obtain ⟨V17, hV⟩ : ∃ V, v17.heap.size = V := ⟨_, rfl⟩
      obtain ⟨yV17, hA⟩ : ∃ x, ((v17).alloc (.cells (#[.slice x17 N c17, .int .i64 L]) 24)).alloc (.cells (pkCells ⟨P0, P1, P2, P3, P4, P5⟩) 38) = x := ⟨_, rfl⟩
      have ln : Lies yV17 (V17) (#[.slice x17 N c17, .int .i64 L]) 24 := by rw [← hA, ← hV]; have := (Lies.new (v17) (#[.slice x17 N c17, .int .i64 L]) 24).alloc (.cells (pkCells ⟨P0, P1, P2, P3, P4, P5⟩) 38); simpa using this
      have lm : Lies yV17 (V17 + 1) (pkCells ⟨P0, P1, P2, P3, P4, P5⟩) 38 := by rw [← hA, ← hV]; have := Lies.new ((v17).alloc (.cells (#[.slice x17 N c17, .int .i64 L]) 24)) (pkCells ⟨P0, P1, P2, P3, P4, P5⟩) 38; simpa using this
      have bA : Below v17.heap.size v17 yV17 := by rw [← hA]; go_grown
      replace lA := Lies.below lA bA lA.lt
      replace lw := Lies.below lw bA lw.lt
      replace lq := Lies.below lq bA lq.lt
      replace lx := Lies.below lx bA lx.lt
      replace lg := Lies.below lg bA lg.lt
      replace lh := Lies.below lh bA lh.lt
      replace zw := ZI.below zw bA
      replace zg := ZI.below zg bA
      replace zh := ZI.below zh bA
      replace B := B.trans (bA.mono B.size)
      rw [hA, hV]
      clear hA hV bA
      go_wp2_with (go_at_call 11; refine (eqFifo_yes x17 x4 N c17 c4 L G _ (ZI.pr zh) (ZI.pr zw) hNn).mono ?_; rintro o v18 ⟨rfl, b1⟩; obtain ⟨clm0, clm1, clm2, clm3, clm4, clm5⟩ := Lies.pk (Lies.below lm b1 lm.lt); simp only [Nat.zero_add] at clm1 clm2 clm3 clm4 clm5; have clmt := (Lies.below lm b1 lm.lt).lt; obtain ⟨clq0, clq1, clq2, clq3, clq4, clq5⟩ := Lies.pk (Lies.below lq b1 lq.lt); simp only [Nat.zero_add] at clq1 clq2 clq3 clq4 clq5; have clqt := (Lies.below lq b1 lq.lt).lt)
      replace lA := Lies.below lA b1 lA.lt
      replace lw := Lies.below lw b1 lw.lt
      replace lq := Lies.below lq b1 lq.lt
      replace lx := Lies.below lx b1 lx.lt
      replace lg := Lies.below lg b1 lg.lt
      replace lh := Lies.below lh b1 lh.lt
      replace ln := Lies.below ln b1 ln.lt
      replace lm := Lies.below lm b1 lm.lt
      replace zw := ZI.below zw b1
      replace zg := ZI.below zg b1
      replace zh := ZI.below zh b1
      replace B := B.trans (b1.mono B.size)
      clear clm0 clm1 clm2 clm3 clm4 clm5 clmt clq0 clq1 clq2 clq3 clq4 clq5 clqt
      clear b1
      go_wp2_with (go_at_call 21; refine (eqPkt_yes ⟨P0, P1, P2, P3, P4, P5⟩ _).mono ?_; rintro o v19 ⟨rfl, k1⟩; obtain ⟨clg0, clg1⟩ := fi2_cells (Lies.below lg k1.1 lg.lt); have clgt := (Lies.below lg k1.1 lg.lt).lt)
      replace lA := Lies.below lA k1.1 lA.lt
      replace lw := Lies.below lw k1.1 lw.lt
      replace lq := Lies.below lq k1.1 lq.lt
      replace lx := Lies.below lx k1.1 lx.lt
      replace lg := Lies.below lg k1.1 lg.lt
      replace lh := Lies.below lh k1.1 lh.lt
      replace ln := Lies.below ln k1.1 ln.lt
      replace lm := Lies.below lm k1.1 lm.lt
      replace zw := ZI.below zw k1.1
      replace zg := ZI.below zg k1.1
      replace zh := ZI.below zh k1.1
      replace B := B.trans (k1.1.mono B.size)
      clear clg0 clg1 clgt
      clear k1
      go_wp2_with (go_at_call 13; refine (heldFifo_any x7 N c7 L 1 _ (ZI.row zg) hNn (by omega) (by omega)).mono ?_; rintro o v20 ⟨rfl, b1⟩)
      replace lA := Lies.below lA b1 lA.lt
      replace lw := Lies.below lw b1 lw.lt
      replace lq := Lies.below lq b1 lq.lt
      replace lx := Lies.below lx b1 lx.lt
      replace lg := Lies.below lg b1 lg.lt
      replace lh := Lies.below lh b1 lh.lt
      replace ln := Lies.below ln b1 ln.lt
      replace lm := Lies.below lm b1 lm.lt
      replace zw := ZI.below zw b1
      replace zg := ZI.below zg b1
      replace zh := ZI.below zh b1
      replace B := B.trans (b1.mono B.size)
      go_ret
      exact ⟨rfl, B⟩

section
variable {H : Type} {enc : TypeId × Value → H} {W : World} {base : Nat} {sp : Nat → Bool} {held : Bool}

theorem openInt {n : Nat} {c : Value} {y : DataW H × List MemPlace} (h : DataW.trod enc Try.prog W base sp held n 3 [c] = some y) : ∃ z : Int, c = .int .i64 z ∧ (-9223372036854775808 ≤ z ∧ z ≤ 9223372036854775807) := by
  obtain ⟨z, h1, _, hw⟩ := DataW.trod_int Try.underlying3 h
  simp only [List.cons.injEq, and_true] at h1
  exact ⟨z, h1, bd hw⟩

theorem openPkt {fuel : Nat} {cs : List Value} {x : DataW H × List MemPlace} (h : DataW.trod enc Try.prog W base sp held fuel 34 cs = some x) :
    ∃ r : Pk, r.In ∧ cs = [.int .i64 r.id, .int .i64 r.flow, .int .i64 r.host, .int .i64 r.size, .int .i64 r.tm, .int .i64 r.ecn] := by
  obtain ⟨xs, n, rfl, hx, hl, hxl, hall⟩ := DataW.trod_struct Try.underlying34 h
  rw [cellsPkt] at hl
  match cs, hl with
  | [c0, c1, c2, c3, c4, c5], _ =>
  match xs, hxl with
  | [y0, y1, y2, y3, y4, y5], _ =>
  have b0 : DataW.trod enc Try.prog W base sp held n 3 (([c0, c1, c2, c3, c4, c5].drop 0).take (Try.prog.cellsOf 3)) = some y0 := hall 0 _ rfl
  rw [cellsInt] at b0
  replace b0 : DataW.trod enc Try.prog W base sp held n 3 [c0] = some y0 := b0
  have b1 : DataW.trod enc Try.prog W base sp held n 3 (([c0, c1, c2, c3, c4, c5].drop 1).take (Try.prog.cellsOf 3)) = some y1 := hall 1 _ rfl
  rw [cellsInt] at b1
  replace b1 : DataW.trod enc Try.prog W base sp held n 3 [c1] = some y1 := b1
  have b2 : DataW.trod enc Try.prog W base sp held n 3 (([c0, c1, c2, c3, c4, c5].drop 2).take (Try.prog.cellsOf 3)) = some y2 := hall 2 _ rfl
  rw [cellsInt] at b2
  replace b2 : DataW.trod enc Try.prog W base sp held n 3 [c2] = some y2 := b2
  have b3 : DataW.trod enc Try.prog W base sp held n 3 (([c0, c1, c2, c3, c4, c5].drop 3).take (Try.prog.cellsOf 3)) = some y3 := hall 3 _ rfl
  rw [cellsInt] at b3
  replace b3 : DataW.trod enc Try.prog W base sp held n 3 [c3] = some y3 := b3
  have b4 : DataW.trod enc Try.prog W base sp held n 3 (([c0, c1, c2, c3, c4, c5].drop 4).take (Try.prog.cellsOf 3)) = some y4 := hall 4 _ rfl
  rw [cellsInt] at b4
  replace b4 : DataW.trod enc Try.prog W base sp held n 3 [c4] = some y4 := b4
  have b5 : DataW.trod enc Try.prog W base sp held n 3 (([c0, c1, c2, c3, c4, c5].drop 5).take (Try.prog.cellsOf 3)) = some y5 := hall 5 _ rfl
  rw [cellsInt] at b5
  replace b5 : DataW.trod enc Try.prog W base sp held n 3 [c5] = some y5 := b5
  obtain ⟨z0, rfl, i0⟩ := openInt (y := y0) b0
  obtain ⟨z1, rfl, i1⟩ := openInt (y := y1) b1
  obtain ⟨z2, rfl, i2⟩ := openInt (y := y2) b2
  obtain ⟨z3, rfl, i3⟩ := openInt (y := y3) b3
  obtain ⟨z4, rfl, i4⟩ := openInt (y := y4) b4
  obtain ⟨z5, rfl, i5⟩ := openInt (y := y5) b5
  exact ⟨⟨z0, z1, z2, z3, z4, z5⟩, ⟨i0, i1, i2, i3, i4, i5⟩, rfl⟩

theorem openPkts {fuel : Nat} {cs : List Value} {x : DataW H × List MemPlace} (h : DataW.trod enc Try.prog W base sp held fuel 30 cs = some x) :
    ∃ (a : Option Addr) (len cap : Nat) (f : Nat → Pk), cs = [.slice a len cap] ∧ len ≤ cap ∧ cap ≤ maxLen ∧ PR W.heap.size W a len f ∧ ∀ i, i < len → (f i).In := by
  rcases Go.Deep.open_slice Try.underlying30 h with ⟨rfl, _⟩ | ⟨a, len, cap, m, n, D, Pl, rfl, hb, hl, hm, hmm, _, hx⟩
  · exact ⟨none, 0, 0, fun _ => default, rfl, Nat.le_refl _, Nat.zero_le _, .inl rfl, fun i hi => absurd hi (Nat.not_lt_zero _)⟩
  · have hlm : len ≤ m := by rw [hmm]; split <;> omega
    have each : ∀ i, i < len → ∃ r : Pk, r.In ∧ (∀ t, t < 6 → W.cell? ((a.add (i * 6)).add t) = some (.int .i64 (r.nth t))) := by
      intro i hi
      obtain ⟨cs', h1, h2⟩ := hx i (by omega)
      rw [cellsPkt] at h1
      obtain ⟨_, hlen, hcell⟩ := World.cells?_some h1
      obtain ⟨r, hr, rfl⟩ := openPkt h2
      refine ⟨r, hr, fun t ht => ?_⟩
      have := hcell t (by omega)
      rw [this]
      have hc : t = 0 ∨ t = 1 ∨ t = 2 ∨ t = 3 ∨ t = 4 ∨ t = 5 := by omega
      rcases hc with rfl | rfl | rfl | rfl | rfl | rfl <;> rfl
    obtain ⟨f, hf⟩ := Go.Deep.choose_lt each
    refine ⟨some a, len, cap, f, rfl, hl, hm, ?_, fun i hi => (hf i hi).1⟩
    by_cases h0 : len = 0
    · exact .inl h0
    · obtain ⟨b, off, inner⟩ := a
      have hc0 := (hf 0 (by omega)).2 0 (by omega)
      have hin : inner = none := by simpa [Addr.add] using World.cell?_spot hc0
      subst hin
      refine .inr ⟨b, off, rfl, World.block_lt_of_cell? W _ hc0, fun i hi => ?_⟩
      have hh : ∀ t, t < 6 → W.cell? ⟨b, off + i * 6 + t, none⟩ = some (.int .i64 ((f i).nth t)) := fun t ht => by
        have := (hf i hi).2 t ht
        rw [Go.WideShapes.add_plain, Go.WideShapes.add_plain] at this
        exact this
      exact ⟨hh 0 (by omega), hh 1 (by omega), hh 2 (by omega), hh 3 (by omega), hh 4 (by omega), hh 5 (by omega)⟩

theorem openFifo {fuel : Nat} {cs : List Value} {x : DataW H × List MemPlace} (h : DataW.trod enc Try.prog W base sp held fuel 32 cs = some x) :
    ∃ (a : Option Addr) (len cap : Nat) (lim : Int) (f : Nat → Pk), FifoIn W a len cap lim f ∧ cs = [.slice a len cap, .int .i64 lim] := by
  obtain ⟨xs, n, rfl, hx, hl, hxl, hall⟩ := DataW.trod_struct Try.underlying32 h
  rw [cellsFifo] at hl
  match cs, hl with
  | [c0, c1], _ =>
  match xs, hxl with
  | [y0, y1], _ =>
  have b0 : DataW.trod enc Try.prog W base sp held n 30 (([c0, c1].drop 0).take (Try.prog.cellsOf 30)) = some y0 := hall 0 _ rfl
  rw [cellsSlice] at b0
  replace b0 : DataW.trod enc Try.prog W base sp held n 30 [c0] = some y0 := b0
  have b1 : DataW.trod enc Try.prog W base sp held n 3 (([c0, c1].drop 1).take (Try.prog.cellsOf 3)) = some y1 := hall 1 _ rfl
  rw [cellsInt] at b1
  replace b1 : DataW.trod enc Try.prog W base sp held n 3 [c1] = some y1 := b1
  obtain ⟨z, rfl, iz⟩ := openInt (y := y1) b1
  obtain ⟨a, len, cap, f, hs, h1, h2, h3, h4⟩ := openPkts (x := y0) b0
  simp only [List.cons.injEq, and_true] at hs
  subst hs
  exact ⟨a, len, cap, z, f, ⟨iz, h1, h2, h3, h4⟩, rfl⟩

end

set_option maxRecDepth 100000 in
theorem lifted (os : Os) (started : os.Started) (H : Type) (enc : TypeId × Value → H) :
    ReturnsInHanded {} Try.checked os 5 .any (Rows.fnExactPopSpec.pre6 enc Try.prog Try.f5 Rows.fnExactPopRow.domain false) (Rows.fnExactPopSpec.post enc Try.prog Try.f5 false true false false) := by
  refine returnsInHanded_of_change (C := Try.checked) own started (by kernel_rfl) Try.func5
    (ChangeSpec.witness6 (enc := enc) (C := Try.checked) false ⟨#[], #[.agg #[.slice none 0 0, .int .i64 0]], []⟩ 8 (by kernel_rfl) (by kernel_rfl) (by kernel_rfl) (by kernel_rfl)) ?_
  intro W base args ds gs before hval0 hW hcnd _
  have hval : ∀ (j : Nat) t v, Try.f5.params[j]? = some t → args[j]? = some v → Value.okWide Try.prog W .any base t v := hval0
  have hW' := hW
  obtain ⟨p, q, hA0, hV, rfl, hfz, hnd⟩ := hW
  have hA : DataW.TrodAll enc Try.prog W 0 (fun _ => true) true Try.f5.params.toList args.toList ds p := hA0
  rw [Try.params5] at hA hval
  obtain ⟨v0, vs0, d0, ds0, p0, q0, hargs, rfl, rfl, h0, r0⟩ := trodAll_cons hA
  obtain ⟨rfl, rfl, rfl⟩ := trodAll_nil r0
  obtain rfl : args = #[v0] := by cases args; simp_all
  obtain ⟨rfl, rfl⟩ := trodVars_none hV
  have k0 := h0
  have lt0 : ∀ x ∈ p0, x.block < W.heap.size := by obtain ⟨m, hm⟩ := k0; exact DataW.trod_lt m _ _ _ hm
  obtain ⟨cs0, rfl, hcs0⟩ := okWide_struct Try.underlying32 (hval 0 32 v0 rfl rfl)
  obtain ⟨a0, len0, cap0, lim0, f0, hin0, hrc0⟩ : ∃ (a : Option Addr) (len cap : Nat) (lim : Int) (f : Nat → Pk), FifoIn W a len cap lim f ∧ cs0 = #[.slice a len cap, .int .i64 lim] := by
    obtain ⟨fuel, hf⟩ := h0
    obtain ⟨a, len, cap, lim, f, hin, hcs'⟩ := openFifo hf
    have hc2 : cs0 = (cs0.toList).toArray := by simp
    have hcl : cs0.toList = [.slice a len cap, .int .i64 lim] := by simpa [Value.cells] using hcs'
    rw [hcl] at hc2
    exact ⟨a, len, cap, lim, f, hin, hc2⟩
  subst hrc0
  clear hA0 hval0
  refine (walk a0 len0 cap0 lim0 f0 W hin0).mono fun e W' ⟨he, bel⟩ => ?_
  subst he
  exact ⟨_, rfl, _, _, _, [], _, [], hW', trodAll_mk1 (shut_bool Try.underlying4 _), (trodAll_cons_mk (Below.trod laidOut (by kernel_rfl) (of_decide_eq_true (by kernel_rfl)) k0 bel lt0) trodAll_mk0), rfl, bel.frame _, fun h => by cases h⟩

theorem over : Rows.fnExactPopRow.holds Try.pinned (OpenSpec.ofChange Rows.fnExactPopSpec) :=
  OpenClaim.holds_of_wide 5 Try.f5 rfl rfl rfl rfl rfl rfl rfl ⟨rfl, rfl, rfl, rfl, rfl⟩ rfl rfl rfl rfl rfl (by kernel_rfl) Try.func5 (by kernel_rfl)
    (of_decide_eq_true (by kernel_rfl)) (by unfold Func.isWrapper; first | (rw [if_pos (by decide +kernel)]; kernel_rfl) | (rw [if_neg (by decide +kernel)]; exact ⟨rfl, rfl⟩))
    (fun os started H enc _ => lifted os started H enc)

theorem proved : Rows.FnExactPopSaid := over
end Go.Proofs.Ytfjdlfoonjnllak.fnExactPop
namespace Go.Proofs.Ytfjdlfoonjnllak
theorem fnExactPop_holds : Rows.FnExactPopSaid := fnExactPop.proved
#print axioms fnExactPop_holds
end Go.Proofs.Ytfjdlfoonjnllak
