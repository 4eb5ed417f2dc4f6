/-
  Whatever receiver and segment the law FnExactRecvSeg is given, where the program's error lies in its variable, it returns true and leaves all that lay as it was: the program's RecvSeg answers as the specification's, in memory of its own; no condition.
-/
import Derived.Test.YtcmjnanejeekiaaDoorRows
import Derived.WalkKit
import Derived.ProofKit
import Derived.OpenShut
import Derived.Test.YtcmjnanejeekiaaDoorLaidS
import Derived.Test.YtcmjnanejeekiaaDoorSegY
import Derived.Test.YtcmjnanejeekiaaDoorSpMark
import Derived.Deep.RegionHeld3
import Derived.Deep.Cut
import Derived.Deep.Slices
import Derived.ShutString
import Derived.ChangeOld
import Derived.Below
namespace Go.Proofs.YtcmjnanejeekiaaDoor.fnExactRecvSeg
open Go.ChangeShapes Go.WideShapes Go.ChangeAt Go.RowKit
open Go.ChangeMaps (open_string shut_string)
set_option linter.unusedVariables false

theorem own : ownKnob Tryd.prog.godebug = none := by kernel_rfl
theorem laidOut : laidOutB Tryd.prog = true := by kernel_rfl
theorem cellsInt : Tryd.prog.cellsOf 3 = 1 := by kernel_rfl
theorem cellsSpan : Tryd.prog.cellsOf 84 = 2 := by kernel_rfl
theorem cellsRecv : Tryd.prog.cellsOf 24 = 2 := by kernel_rfl
theorem cellsSpans : Tryd.prog.cellsOf 22 = 1 := by kernel_rfl

theorem outL_len (nx : Int) (f : Nat → Sp) (n : Nat) (fr to : Int) : (outL nx f n fr to).length ≤ 8 := by
  unfold outL
  split
  · split
    · assumption
    · rename_i h _; rw [spL_len]; exact h.1.2.2.1
  · simp


set_option maxHeartbeats 4000000 in
theorem walk (nx0 : Int) (a0 : Option Addr) (len0 cap0 : Nat) (f0 : Nat → Sp) (z1 : Int) (w1 : (-9223372036854775808 ≤ z1 ∧ z1 ≤ 9223372036854775807)) (z2 : Int) (w2 : (-9223372036854775808 ≤ z2 ∧ z2 ≤ 9223372036854775807)) (w : World) (w0 : RecvIn w nx0 a0 len0 cap0 f0) (hs : ErrSps w) :
    Calls Tryd.prog 3 #[.agg #[.int .i64 nx0, .slice a0 len0 cap0], .int .i64 z1, .int .i64 z2] w fun e w' => e = .returned (.bool true) ∧ Below w.heap.size w w' := by
  obtain ⟨hlim, hcap, hmx, hrow, hin⟩ := w0
  obtain ⟨er, her⟩ := hs
  have HER : Hid (∀ V, Below w.heap.size w V → ErrSp er V) := fun V h => ErrSp.below her h her.lt
  clear her
  have hmax : (len0 : Int) ≤ 9223372036854775807 := by unfold maxLen at hmx; omega
  have HR : Hid (SR w.heap.size w a0 len0 f0) := hrow
  clear hrow hin hmx w1 w2
  by_cases hbig : 1048576 < (len0 : Int)
  · go_enter Tryd.func3, Tryd.ntmps3
    go_wp2_with (go_at_call 5; refine (szRecv_any nx0 a0 len0 cap0 1048576 _ hmax (by omega) (by omega)).mono ?_; rintro o v1 ⟨rfl, b1⟩; rw [if_pos hbig])
    go_ret
    exact ⟨rfl, ((Below.refl w.heap.size w).alloc (Nat.le_refl _) _).trans (b1.mono (by simp <;> omega))⟩
  · have hn : len0 ≤ 1048576 := by omega
    have hsz : decide (1048576 - (len0 : Int) < 0) = false := by simp; omega
    obtain ⟨l, hl⟩ : ∃ l, outL nx0 f0 len0 z1 z2 = l := ⟨_, rfl⟩
    obtain ⟨X, hX⟩ : ∃ X, outN nx0 f0 len0 z1 z2 = X := ⟨_, rfl⟩
    obtain ⟨M, hM⟩ : ∃ M, outM nx0 f0 len0 z1 z2 = M := ⟨_, rfl⟩
    obtain ⟨K, hK⟩ : ∃ K, segK nx0 f0 len0 z1 z2 = K := ⟨_, rfl⟩
    have hNn : l.length ≤ 8 := by rw [← hl]; exact outL_len _ _ _ _ _
    obtain ⟨N, hN⟩ : ∃ N, l.length = N := ⟨_, rfl⟩
    obtain ⟨G, hG⟩ : ∃ G, (fun i => l.getD i default) = G := ⟨_, rfl⟩
    have HS : Hid (∀ (W : World) (d : Option Addr), SR W.heap.size W d len0 f0 → Calls Tryd.prog 6 #[.agg #[.int .i64 nx0, .slice d len0 len0], .int .i64 z1, .int .i64 z2] W fun e w' => ∃ (x : Option Addr) (cap : Nat), e = .returned (.tuple #[.agg #[.int .i64 X, .slice x N cap], .int .i64 M, .bool K]) ∧ ZS W.heap.size w'.heap.size w' x (N * 2) (flatS G) ∧ Below W.heap.size W w') := fun W d hd => by
      refine (srecvSeg_any nx0 d len0 len0 f0 z1 z2 W hd hn).mono ?_
      rintro e w' ⟨x, cap, rfl, h1, h2⟩
      rw [hl] at h1 ⊢
      rw [hX, hM, hK]
      have h3 := OS.zs h1
      rw [hN, hG] at h3
      rw [hN]
      exact ⟨x, cap, rfl, h3, h2⟩
    have HI : Hid (∀ (W : World) (d : Option Addr), Below w.heap.size w W → SR W.heap.size W d len0 f0 → Calls Tryd.prog 8 #[.agg #[.int .i64 nx0, .slice d len0 len0], .int .i64 z1, .int .i64 z2] W fun e w' => ∃ (x : Option Addr) (cap : Nat), e = .returned (.tuple #[.agg #[.int .i64 X, .slice x N cap], .int .i64 M, .bool K]) ∧ ZS W.heap.size w'.heap.size w' x (N * 2) (flatS G) ∧ Below W.heap.size W w') := fun W d hW hd => by
      refine (irecvSeg_any nx0 d len0 len0 f0 z1 z2 er W hd hn (HER.out W hW)).mono ?_
      rintro e w' ⟨x, cap, rfl, h1, h2⟩
      rw [hl] at h1 ⊢
      rw [hX, hM, hK]
      have h3 := OS.zs h1
      rw [hN, hG] at h3
      rw [hN]
      exact ⟨x, cap, rfl, h3, h2⟩
    rw [hN] at hNn
    have hNM : N ≤ 1048576 := by omega
    clear hl hN hG hX hM hK
    have hKK : (K != K) = false := by simp
    have lA : Sits (w.alloc (.cells (rcCells nx0 a0 len0 cap0) 24)) w.heap.size (rcCells nx0 a0 len0 cap0) 24 := Sits.new _ _ _
    have B : Below w.heap.size w (w.alloc (.cells (rcCells nx0 a0 len0 cap0) 24)) := (Below.refl _ _).alloc (Nat.le_refl _) _
    go_enter Tryd.func3, Tryd.ntmps3
    go_upto_region 5 with (go_at_call 5; refine (szRecv_any nx0 a0 len0 cap0 1048576 _ hmax (by omega) (by omega)).mono ?_; rintro o v1 ⟨rfl, b1⟩; rw [if_neg hbig])
    replace lA := Sits.below lA b1 lA.lt
    replace B := B.trans (b1.mono B.size)
    clear b1
    have HR' : Hid (SR _ _ a0 len0 f0) := (SR.below HR.out B).mono B.size
    obtain ⟨qlA0, qlA1⟩ := rc_cells lA
    go_upto_region 6 with (first | (go_at_call 7; refine (toRecv_any nx0 a0 len0 cap0 f0 _ HR'.out hn).mono ?_; rintro o v2 ⟨d2, rfl, z2', b2⟩) | (go_at_call 6; refine (HS.out _ d2 (ZS.sr z2')).mono ?_; rintro o v4 ⟨x4, c4, rfl, zw, b4⟩))
    clear qlA0 qlA1
    clear HR'
    have tA := Nat.lt_of_lt_of_le lA.lt b2.size
    replace lA := Sits.below lA b2 lA.lt
    replace B := B.trans (b2.mono B.size)
    have t4 := b4.size
    replace lA := Sits.below lA b4 lA.lt
    replace B := B.trans (b4.mono B.size)
    obtain ⟨Lw, hLw⟩ : ∃ n, v2.heap.size = n := ⟨_, rfl⟩
    rw [hLw] at zw t4 tA
    clear b2 b4 z2'
    obtain ⟨Vw, hV⟩ : ∃ V, v4.heap.size = V := ⟨_, rfl⟩
    obtain ⟨y4, hA⟩ : ∃ x, v4.alloc (.cells (rcCells X x4 N c4) 28) = x := ⟨_, rfl⟩
    have lw : Sits y4 Vw (rcCells X x4 N c4) 28 := by rw [← hA, ← hV]; exact Sits.new _ _ _
    have bA : Below v4.heap.size v4 y4 := by rw [← hA]; go_grown
    replace lA := Sits.below lA bA lA.lt
    replace zw := ZS.below zw bA
    replace B := B.trans (bA.mono B.size)
    rw [hA, hV]
    rw [hV] at zw t4
    clear hA hV bA
    obtain ⟨Lx, hLx⟩ : ∃ n, y4.heap.size = n := ⟨_, rfl⟩
    have t5 : Vw < Lx := by rw [← hLx]; exact lw.lt
    have HR' : Hid (SR _ _ a0 len0 f0) := (SR.below HR.out B).mono B.size
    obtain ⟨qlA0, qlA1⟩ := rc_cells lA
    go_upto_region 7 with (go_at_call 7; refine (toRecv_any nx0 a0 len0 cap0 f0 _ HR'.out hn).mono ?_; rintro o v5 ⟨d5, rfl, zx, b1⟩)
    clear qlA0 qlA1
    clear HR'
    replace lA := Sits.below lA b1 lA.lt
    replace lw := Sits.below lw b1 lw.lt
    replace zw := ZS.below zw b1
    replace B := B.trans (b1.mono B.size)
    have t6 := b1.size
    rw [hLx] at zx t6
    clear b1
    obtain ⟨Vx, hV⟩ : ∃ V, v5.heap.size = V := ⟨_, rfl⟩
    obtain ⟨y5, hA⟩ : ∃ x, v5.alloc (.cells (rcCells nx0 d5 len0 len0) 28) = x := ⟨_, rfl⟩
    have lx : Sits y5 Vx (rcCells nx0 d5 len0 len0) 28 := by rw [← hA, ← hV]; exact Sits.new _ _ _
    have bA : Below v5.heap.size v5 y5 := by rw [← hA]; go_grown
    replace lA := Sits.below lA bA lA.lt
    replace lw := Sits.below lw bA lw.lt
    replace zw := ZS.below zw bA
    replace zx := ZS.below zx bA
    replace B := B.trans (bA.mono B.size)
    rw [hA, hV]
    rw [hV] at zx t6
    clear hA hV bA
    obtain ⟨Lg, hLg⟩ : ∃ n, y5.heap.size = n := ⟨_, rfl⟩
    have t7 : Vx < Lg := by rw [← hLg]; exact lx.lt
    obtain ⟨qlx0, qlx1⟩ := rc_cells lx
    go_upto_region 8 with (go_at_call 8; refine (HI.out _ d5 B (ZS.sr zx)).mono ?_; rintro o v7 ⟨x7, c7, rfl, zg, b1⟩)
    clear qlx0 qlx1
    replace lA := Sits.below lA b1 lA.lt
    replace lw := Sits.below lw b1 lw.lt
    replace lx := Sits.below lx b1 lx.lt
    replace zw := ZS.below zw b1
    replace zx := ZS.below zx b1
    replace B := B.trans (b1.mono B.size)
    have t8 := b1.size
    rw [hLg] at zg t8
    clear b1
    obtain ⟨Vg, hV⟩ : ∃ V, v7.heap.size = V := ⟨_, rfl⟩
    obtain ⟨y7, hA⟩ : ∃ x, v7.alloc (.cells (rcCells X x7 N c7) 28) = x := ⟨_, rfl⟩
    have lg : Sits y7 Vg (rcCells X x7 N c7) 28 := by rw [← hA, ← hV]; exact Sits.new _ _ _
    have bA : Below v7.heap.size v7 y7 := by rw [← hA]; go_grown
    replace lA := Sits.below lA bA lA.lt
    replace lw := Sits.below lw bA lw.lt
    replace lx := Sits.below lx bA lx.lt
    replace zw := ZS.below zw bA
    replace zx := ZS.below zx bA
    replace zg := ZS.below zg bA
    replace B := B.trans (bA.mono B.size)
    rw [hA, hV]
    rw [hV] at zg t8
    clear hA hV bA hLx hLg
    have t9 : Vg < y7.heap.size := lg.lt
    obtain ⟨qlg0, qlg1⟩ := rc_cells lg
    obtain ⟨qlw0, qlw1⟩ := rc_cells lw
    go_upto_region 10 with (go_at_call 9; refine (eqRecv_yes X x7 x4 N c7 c4 G _ (ZS.sr zg) (ZS.sr zw) hNM).mono ?_; rintro o v8 ⟨rfl, b1⟩)
    clear qlg0 qlg1 qlw0 qlw1
    replace lA := Sits.below lA b1 lA.lt
    replace lw := Sits.below lw b1 lw.lt
    replace lx := Sits.below lx b1 lx.lt
    replace lg := Sits.below lg b1 lg.lt
    replace zw := ZS.below zw b1
    replace zx := ZS.below zx b1
    replace zg := ZS.below zg b1
    replace B := B.trans (b1.mono B.size)
    replace t9 := Nat.le_trans t9 b1.size
    clear b1
    obtain ⟨y1, y2⟩ := rc_cells lx
    obtain ⟨k1, k2⟩ := rc_cells lA
    go_region_held3 (fun w' => (w'.cell? ⟨Vx, 0, none⟩ = some (.int .i64 nx0) ∧ w'.cell? ⟨Vx, 1, none⟩ = some (.slice d5 len0 len0)) ∧ (w'.cell? ⟨w.heap.size, 0, none⟩ = some (.int .i64 nx0) ∧ w'.cell? ⟨w.heap.size, 1, none⟩ = some (.slice a0 len0 cap0))) (first | exact ⟨⟨y1, y2⟩, ⟨k1, k2⟩⟩ | go_keep | exact ⟨rc_cells (Sits.below (W := v8.drew) lx b7 lx.lt), rc_cells (Sits.below (W := v8.drew) lA b7 lA.lt)⟩ | exact ⟨rc_cells ((Sits.below (W := v8.drew) lx b7 lx.lt).below b8 (Sits.below (W := v8.drew) lx b7 lx.lt).lt), rc_cells ((Sits.below (W := v8.drew) lA b7 lA.lt).below b8 (Sits.below (W := v8.drew) lA b7 lA.lt).lt)⟩) (first | (go_at_call 7; refine (toRecv_any nx0 a0 len0 cap0 f0 _ ((SR.below HR.out B.drew).mono B.size) hn).mono ?_; rintro o v9 ⟨d9, rfl, z9, b7⟩) | (go_at_call 9; refine (eqRecv_yes nx0 d5 d9 len0 len0 len0 f0 _ ((SR.below (w := v8.drew) (ZS.sr zx) b7).mono b7.size) (ZS.sr z9) hn).mono ?_; rintro o v10 ⟨rfl, b8⟩))
    replace lA := Sits.below (W := v8.drew) lA b7 lA.lt
    replace lw := Sits.below (W := v8.drew) lw b7 lw.lt
    replace lx := Sits.below (W := v8.drew) lx b7 lx.lt
    replace lg := Sits.below (W := v8.drew) lg b7 lg.lt
    replace zw := ZS.below (w := v8.drew) zw b7
    replace zx := ZS.below (w := v8.drew) zx b7
    replace zg := ZS.below (w := v8.drew) zg b7
    replace B := B.drew.trans (b7.mono B.size)
    replace lA := Sits.below lA b8 lA.lt
    replace lw := Sits.below lw b8 lw.lt
    replace lx := Sits.below lx b8 lx.lt
    replace lg := Sits.below lg b8 lg.lt
    replace zw := ZS.below zw b8
    replace zx := ZS.below zx b8
    replace zg := ZS.below zg b8
    replace B := B.trans (b8.mono B.size)
    replace t9 := Nat.le_trans (Nat.le_trans t9 b7.size) b8.size
    clear b7 b8 z9 y1 y2 k1 k2
    have hk1 : decide (1 + (len0 : Int) * 2 < 0) = false := by simp; omega
    have hk2 : decide (1 + (N : Int) * 2 < 0) = false := by simp; omega
    obtain ⟨qlx0, qlx1⟩ := rc_cells lx
    go_upto_region 14 with (go_at_call 10; refine (markRecv_zs Lx Vx nx0 d5 len0 len0 (flatS f0) 1 _ zx hn (by omega) (by omega)).mono ?_; rintro o v11 ⟨rfl, zn, c1⟩)
    clear qlx0 qlx1
    replace lA := Sits.chg lA c1 (by omega)
    replace lw := Sits.chg lw c1 (by omega)
    replace lx := Sits.chg lx c1 (by omega)
    replace lg := Sits.chg lg c1 (by omega)
    replace zw := ZS.chg zw c1 (by omega)
    replace zg := ZS.chg zg c1 (by omega)
    replace B := B.trans ((c1.below (by omega)).mono (by omega))
    replace t9 := Nat.le_trans t9 c1.size
    clear c1 zn zx
    obtain ⟨qlg0, qlg1⟩ := rc_cells lg
    obtain ⟨qlw0, qlw1⟩ := rc_cells lw
    go_upto_region 17 with (go_at_call 9; refine (eqRecv_yes X x7 x4 N c7 c4 G _ (ZS.sr zg) (ZS.sr zw) hNM).mono ?_; rintro o v12 ⟨rfl, b1⟩)
    clear qlg0 qlg1 qlw0 qlw1
    replace lA := Sits.below lA b1 lA.lt
    replace lw := Sits.below lw b1 lw.lt
    replace lx := Sits.below lx b1 lx.lt
    replace lg := Sits.below lg b1 lg.lt
    replace zw := ZS.below zw b1
    replace zg := ZS.below zg b1
    replace B := B.trans (b1.mono B.size)
    replace t9 := Nat.le_trans t9 b1.size
    clear b1
    obtain ⟨qlg0, qlg1⟩ := rc_cells lg
    go_upto_region 19 with (go_at_call 10; refine (markRecv_zs Lg Vg X x7 N c7 (flatS G) 1 _ zg hNM (by omega) (by omega)).mono ?_; rintro o v13 ⟨rfl, zn, c1⟩)
    clear qlg0 qlg1
    replace lA := Sits.chg lA c1 (by omega)
    replace lw := Sits.chg lw c1 (by omega)
    replace lx := Sits.chg lx c1 (by omega)
    replace lg := Sits.chg lg c1 (by omega)
    replace zw := ZS.chg zw c1 (by omega)
    replace B := B.trans ((c1.below (by omega)).mono (by omega))
    replace t9 := Nat.le_trans t9 c1.size
    replace zg := zn
    clear c1 zn
    obtain ⟨qlg0, qlg1⟩ := rc_cells lg
    go_upto_region 24 with (go_at_call 11; refine (heldRecv_any X x7 N c7 1 _ (ZS.row zg) hNM (by omega) (by omega)).mono ?_; rintro o v14 ⟨rfl, b1⟩)
    clear qlg0 qlg1
    replace lA := Sits.below lA b1 lA.lt
    replace lw := Sits.below lw b1 lw.lt
    replace lx := Sits.below lx b1 lx.lt
    replace lg := Sits.below lg b1 lg.lt
    replace zw := ZS.below zw b1
    replace zg := ZS.below zg b1
    replace B := B.trans (b1.mono B.size)
    clear b1 t9
    have HR' : Hid (SR _ _ a0 len0 f0) := (SR.below HR.out B).mono B.size
    obtain ⟨qlA0, qlA1⟩ := rc_cells lA
    go_upto_region 25 with (first | (go_at_call 7; refine (toRecv_any nx0 a0 len0 cap0 f0 _ HR'.out hn).mono ?_; rintro o v15 ⟨d15, rfl, z15, b2⟩) | (go_at_call 8; refine (HI.out _ d15 (B.trans (b2.mono B.size)) (ZS.sr z15)).mono ?_; rintro o v17 ⟨x17, c17, rfl, zh, b4⟩))
    clear qlA0 qlA1
    clear HR'
    replace lA := Sits.below lA b2 lA.lt
    replace lw := Sits.below lw b2 lw.lt
    replace lx := Sits.below lx b2 lx.lt
    replace lg := Sits.below lg b2 lg.lt
    replace zw := ZS.below zw b2
    replace zg := ZS.below zg b2
    replace B := B.trans (b2.mono B.size)
    replace lA := Sits.below lA b4 lA.lt
    replace lw := Sits.below lw b4 lw.lt
    replace lx := Sits.below lx b4 lx.lt
    replace lg := Sits.below lg b4 lg.lt
    replace zw := ZS.below zw b4
    replace zg := ZS.below zg b4
    replace B := B.trans (b4.mono B.size)
    clear b2 b4 z15
    obtain ⟨Vh, hV⟩ : ∃ V, v17.heap.size = V := ⟨_, rfl⟩
    obtain ⟨y17, hA⟩ : ∃ x, v17.alloc (.cells (rcCells X x17 N c17) 28) = x := ⟨_, rfl⟩
    have lh : Sits y17 Vh (rcCells X x17 N c17) 28 := by rw [← hA, ← hV]; exact Sits.new _ _ _
    have bA : Below v17.heap.size v17 y17 := by rw [← hA]; go_grown
    replace lA := Sits.below lA bA lA.lt
    replace lw := Sits.below lw bA lw.lt
    replace lx := Sits.below lx bA lx.lt
    replace lg := Sits.below lg bA lg.lt
    replace zw := ZS.below zw bA
    replace zg := ZS.below zg bA
    replace zh := ZS.below zh bA
    replace B := B.trans (bA.mono B.size)
    rw [hA, hV]
    clear hA hV bA
    obtain ⟨qlh0, qlh1⟩ := rc_cells lh
    obtain ⟨qlw0, qlw1⟩ := rc_cells lw
    go_upto_region 28 with (go_at_call 9; refine (eqRecv_yes X x17 x4 N c17 c4 G _ (ZS.sr zh) (ZS.sr zw) hNM).mono ?_; rintro o v18 ⟨rfl, b1⟩)
    clear qlh0 qlh1 qlw0 qlw1
    replace lA := Sits.below lA b1 lA.lt
    replace lw := Sits.below lw b1 lw.lt
    replace lx := Sits.below lx b1 lx.lt
    replace lg := Sits.below lg b1 lg.lt
    replace lh := Sits.below lh b1 lh.lt
    replace zw := ZS.below zw b1
    replace zg := ZS.below zg b1
    replace zh := ZS.below zh b1
    replace B := B.trans (b1.mono B.size)
    clear b1
    obtain ⟨qlg0, qlg1⟩ := rc_cells lg
    go_wp2_with (go_at_call 11; refine (heldRecv_any X x7 N c7 1 _ (ZS.row zg) hNM (by omega) (by omega)).mono ?_; rintro o v20 ⟨rfl, b1⟩)
    replace lA := Sits.below lA b1 lA.lt
    replace lw := Sits.below lw b1 lw.lt
    replace lx := Sits.below lx b1 lx.lt
    replace lg := Sits.below lg b1 lg.lt
    replace lh := Sits.below lh b1 lh.lt
    replace zw := ZS.below zw b1
    replace zg := ZS.below zg b1
    replace zh := ZS.below zh b1
    replace B := B.trans (b1.mono B.size)
    go_ret
    exact ⟨rfl, B⟩

section
variable {H : Type} {enc : TypeId × Value → H} {W : World} {base : Nat} {sp : Nat → Bool} {held : Bool}

set_option maxRecDepth 100000 in
theorem openInt {n : Nat} {c : Value} {y : DataW H × List MemPlace} (h : DataW.trod enc Tryd.prog W base sp held n 3 [c] = some y) : ∃ z : Int, c = .int .i64 z ∧ (-9223372036854775808 ≤ z ∧ z ≤ 9223372036854775807) := by
  obtain ⟨z, h1, _, hw⟩ := DataW.trod_int Tryd.underlying3 h
  simp only [List.cons.injEq, and_true] at h1
  exact ⟨z, h1, bd hw⟩

set_option maxRecDepth 100000 in
theorem openSpan {fuel : Nat} {cs : List Value} {x : DataW H × List MemPlace} (h : DataW.trod enc Tryd.prog W base sp held fuel 84 cs = some x) :
    ∃ r : Sp, r.In ∧ cs = [.int .i64 r.fr, .int .i64 r.to] := by
  obtain ⟨xs, n, rfl, hx, hl, hxl, hall⟩ := DataW.trod_struct Tryd.underlying84 h
  rw [cellsSpan] at hl
  match cs, hl with
  | [c0, c1], _ =>
  match xs, hxl with
  | [y0, y1], _ =>
  have b0 : DataW.trod enc Tryd.prog W base sp held n 3 (([c0, c1].drop 0).take (Tryd.prog.cellsOf 3)) = some y0 := hall 0 _ rfl
  rw [cellsInt] at b0
  replace b0 : DataW.trod enc Tryd.prog W base sp held n 3 [c0] = some y0 := b0
  have b1 : DataW.trod enc Tryd.prog W base sp held n 3 (([c0, c1].drop 1).take (Tryd.prog.cellsOf 3)) = some y1 := hall 1 _ rfl
  rw [cellsInt] at b1
  replace b1 : DataW.trod enc Tryd.prog W base sp held n 3 [c1] = some y1 := b1
  obtain ⟨z0, rfl, i0⟩ := openInt (y := y0) b0
  obtain ⟨z1, rfl, i1⟩ := openInt (y := y1) b1
  exact ⟨⟨z0, z1⟩, ⟨i0, i1⟩, rfl⟩

set_option maxRecDepth 100000 in
theorem openSpans {fuel : Nat} {cs : List Value} {x : DataW H × List MemPlace} (h : DataW.trod enc Tryd.prog W base sp held fuel 22 cs = some x) :
    ∃ (a : Option Addr) (len cap : Nat) (f : Nat → Sp), cs = [.slice a len cap] ∧ len ≤ cap ∧ cap ≤ maxLen ∧ SR W.heap.size W a len f ∧ ∀ i, i < len → (f i).In := by
  rcases Go.Deep.open_slice Tryd.underlying22 h with ⟨rfl, _⟩ | ⟨a, len, cap, m, n, D, Pl, rfl, hb, hl, hm, hmm, _, hx⟩
  · exact ⟨none, 0, 0, fun _ => ⟨0, 0⟩, rfl, Nat.le_refl _, Nat.zero_le _, .inl rfl, fun i hi => absurd hi (Nat.not_lt_zero _)⟩
  · have hlm : len ≤ m := by rw [hmm]; split <;> omega
    have each : ∀ i, i < len → ∃ r : Sp, r.In ∧ (∀ t, t < 2 → W.cell? ((a.add (i * 2)).add t) = some (.int .i64 (if t = 0 then r.fr else r.to))) := by
      intro i hi
      obtain ⟨cs', h1, h2⟩ := hx i (by omega)
      rw [cellsSpan] at h1
      obtain ⟨_, hlen, hcell⟩ := World.cells?_some h1
      obtain ⟨r, hr, rfl⟩ := openSpan h2
      refine ⟨r, hr, fun t ht => ?_⟩
      have := hcell t (by omega)
      rw [this]
      have hc : t = 0 ∨ t = 1 := by omega
      rcases hc with rfl | rfl <;> rfl
    obtain ⟨f, hf⟩ := Go.Deep.choose_lt each
    refine ⟨some a, len, cap, f, rfl, hl, hm, ?_, fun i hi => (hf i hi).1⟩
    by_cases h0 : len = 0
    · exact .inl h0
    · obtain ⟨b, off, inner⟩ := a
      have hc0 := (hf 0 (by omega)).2 0 (by omega)
      have hin : inner = none := by simpa [Addr.add] using World.cell?_spot hc0
      subst hin
      refine .inr ⟨b, off, rfl, World.block_lt_of_cell? W _ hc0, fun i hi => ?_⟩
      have hh : ∀ t, t < 2 → W.cell? ⟨b, off + i * 2 + t, none⟩ = some (.int .i64 (if t = 0 then (f i).fr else (f i).to)) := fun t ht => by
        have := (hf i hi).2 t ht
        rw [Go.WideShapes.add_plain, Go.WideShapes.add_plain] at this
        exact this
      exact ⟨hh 0 (by omega), hh 1 (by omega)⟩

set_option maxRecDepth 100000 in
theorem openRecv {fuel : Nat} {cs : List Value} {x : DataW H × List MemPlace} (h : DataW.trod enc Tryd.prog W base sp held fuel 24 cs = some x) :
    ∃ (nx : Int) (a : Option Addr) (len cap : Nat) (f : Nat → Sp), RecvIn W nx a len cap f ∧ cs = [.int .i64 nx, .slice a len cap] := by
  obtain ⟨xs, n, rfl, hx, hl, hxl, hall⟩ := DataW.trod_struct Tryd.underlying24 h
  rw [cellsRecv] at hl
  match cs, hl with
  | [c0, c1], _ =>
  match xs, hxl with
  | [y0, y1], _ =>
  have b0 : DataW.trod enc Tryd.prog W base sp held n 3 (([c0, c1].drop 0).take (Tryd.prog.cellsOf 3)) = some y0 := hall 0 _ rfl
  rw [cellsInt] at b0
  replace b0 : DataW.trod enc Tryd.prog W base sp held n 3 [c0] = some y0 := b0
  have b1 : DataW.trod enc Tryd.prog W base sp held n 22 (([c0, c1].drop 1).take (Tryd.prog.cellsOf 22)) = some y1 := hall 1 _ rfl
  rw [cellsSpans] at b1
  replace b1 : DataW.trod enc Tryd.prog W base sp held n 22 [c1] = some y1 := b1
  obtain ⟨z, rfl, iz⟩ := openInt (y := y0) b0
  obtain ⟨a, len, cap, f, hs, h1, h2, h3, h4⟩ := openSpans (x := y1) b1
  simp only [List.cons.injEq, and_true] at hs
  subst hs
  exact ⟨z, a, len, cap, f, ⟨iz, h1, h2, h3, h4⟩, rfl⟩

end

set_option maxRecDepth 100000 in
theorem lifted (os : Os) (started : os.Started) (H : Type) (enc : TypeId × Value → H) :
    ReturnsInHanded {} Tryd.checked os 3 .any (fun w args => (Rows.fnExactRecvSegSpec.pre enc Tryd.prog Tryd.f3 [] false w args ∧ laidMetH Tryd.prog Rows.fnExactRecvSegRow.laid w) ∧ sizedMet enc Tryd.prog Tryd.f3 (OpenSpec.ofChange Rows.fnExactRecvSegSpec) false w args)
      (Rows.fnExactRecvSegSpec.post enc Tryd.prog Tryd.f3 false true false false) := by
  refine returnsInHanded_of_change_and (C := Tryd.checked) (X := fun w _ => laidMetH Tryd.prog Rows.fnExactRecvSegRow.laid w) (fun _ _ _ hh h => h.of_heap hh) own started (by kernel_rfl) Tryd.func3
    (ChangeSpec.witness_shaped (enc := enc) (C := Tryd.checked) (os := os) (X := fun w _ => laidMetH Tryd.prog Rows.fnExactRecvSegRow.laid w) false (World.doorLaid Tryd.prog 400 os) #[.agg #[.int .i64 0, .slice none 0 0], .int .i64 0, .int .i64 0] 8 rfl (World.shaped_of_RefB (by kernel_rfl) (by kernel_rfl)) (by kernel_rfl) (by kernel_rfl) (by kernel_rfl) (door_met os _)) ?_
  intro W base args ds gs before hval0 hW _ _ hL _
  have hval : ∀ (j : Nat) t v, Tryd.f3.params[j]? = some t → args[j]? = some v → Value.okWide Tryd.prog W .any base t v := hval0
  have hW' := hW
  obtain ⟨p, q, hA0, hV0, rfl, hfz, hnd⟩ := hW
  have hA : DataW.TrodAll enc Tryd.prog W 0 (fun _ => true) true Tryd.f3.params.toList args.toList ds p := hA0
  have hV : DataW.TrodVars enc Tryd.prog W (fun _ => true) ["loop.example/g00453/impl.errNoSpan"] gs q := hV0
  have hV1 := hV
  rw [Tryd.params3] at hA hval
  obtain ⟨v0, vs0, d0, ds0, p0, q0, hargs, rfl, rfl, h0, tl0⟩ := trodAll_cons hA
  obtain ⟨v1, vs1, d1, ds1, p1, q1, rfl, rfl, rfl, h1, tl1⟩ := trodAll_cons tl0
  obtain ⟨v2, vs2, d2, ds2, p2, q2, rfl, rfl, rfl, h2, tl2⟩ := trodAll_cons tl1
  obtain ⟨rfl, rfl, rfl⟩ := trodAll_nil tl2
  obtain rfl : args = #[v0, v1, v2] := by cases args; simp_all
  obtain ⟨gg, tt, gcs, gfuel, gd, gp, rfl, _⟩ := trodVars_one hV1
  have k0 := h0
  have lt0 : ∀ x ∈ p0, x.block < W.heap.size := by obtain ⟨m, hm⟩ := k0; exact DataW.trod_lt m _ _ _ hm
  have k1 := h1
  have lt1 : ∀ x ∈ p1, x.block < W.heap.size := by obtain ⟨m, hm⟩ := k1; exact DataW.trod_lt m _ _ _ hm
  have k2 := h2
  have lt2 : ∀ x ∈ p2, x.block < W.heap.size := by obtain ⟨m, hm⟩ := k2; exact DataW.trod_lt m _ _ _ hm
  obtain ⟨cs0, rfl, hcs0⟩ := okWide_struct Tryd.underlying24 (hval 0 24 v0 rfl rfl)
  obtain ⟨nx0, a0, len0, cap0, f0, hin0, hrc0⟩ : ∃ (nx : Int) (a : Option Addr) (len cap : Nat) (f : Nat → Sp), RecvIn W nx a len cap f ∧ cs0 = #[.int .i64 nx, .slice a len cap] := by
    obtain ⟨fuel, hf⟩ := h0
    obtain ⟨nx, a, len, cap, f, hin, hcs'⟩ := openRecv hf
    have hc2 : cs0 = (cs0.toList).toArray := by simp
    have hcl : cs0.toList = [.int .i64 nx, .slice a len cap] := by simpa [Value.cells] using hcs'
    rw [hcl] at hc2
    exact ⟨nx, a, len, cap, f, hin, hc2⟩
  subst hrc0
  obtain ⟨z1, hzv1, _, _, hzw1⟩ := open_int Tryd.underlying3 (hval 1 3 v1 rfl rfl) h1
  subst hzv1
  obtain ⟨z2, hzv2, _, _, hzw2⟩ := open_int Tryd.underlying3 (hval 2 3 v2 rfl rfl) h2
  subst hzv2
  clear hA0 hV0 hval0
  refine (walk nx0 a0 len0 cap0 f0 z1 (bd hzw1) z2 (bd hzw2) W hin0 (errs_of hL)).mono fun e W' ⟨he, bel⟩ => ?_
  subst he
  exact ⟨_, rfl, _, _, _, [], _, _, hW', trodAll_mk1 (shut_bool Tryd.underlying4 _), (trodAll_cons_mk (Below.trod laidOut (by kernel_rfl) (of_decide_eq_true (by kernel_rfl)) k0 bel lt0) (trodAll_cons_mk (Below.trod laidOut (by kernel_rfl) (of_decide_eq_true (by kernel_rfl)) k1 bel lt1) (trodAll_cons_mk (Below.trod laidOut (by kernel_rfl) (of_decide_eq_true (by kernel_rfl)) k2 bel lt2) trodAll_mk0))), Below.trodVars laidOut bel (by kernel_rfl) hV, bel.frame _, fun h => by cases h⟩

theorem over : Rows.FnExactRecvSegSaid :=
  OpenClaim.holds_of_wide 3 Tryd.f3 rfl rfl rfl rfl rfl rfl rfl ⟨rfl, rfl, rfl, rfl, rfl⟩ rfl rfl rfl rfl rfl (by kernel_rfl) Tryd.func3 (by kernel_rfl)
    (of_decide_eq_true (by kernel_rfl)) (by unfold Func.isWrapper; first | (rw [if_pos (by decide +kernel)]; kernel_rfl) | (rw [if_neg (by decide +kernel)]; exact ⟨rfl, rfl⟩))
    (fun os started H enc _ => lifted os started H enc)

theorem plain (f : FuncId) (fn : Func) (hf : Tryd.pinned.checked.prog.funcNamed "loop.example/g00453/laws.FnExactRecvSeg" = some f) (hfn : Tryd.pinned.checked.prog.funcs[f]? = some fn) :
    false = Tryd.pinned.checked.prog.looks [] ∧ ∀ (j : Nat) t, fn.params[j]? = some t → Tryd.pinned.checked.prog.wantsStandIn t = false := by
  obtain rfl : f = 3 := Option.some.inj ((show Tryd.prog.funcNamed "loop.example/g00453/laws.FnExactRecvSeg" = some 3 by kernel_rfl).symm.trans hf) |>.symm
  obtain rfl : fn = Tryd.f3 := (Option.some.inj (Tryd.func3.symm.trans hfn)).symm
  refine ⟨by kernel_rfl, fun j t ht => ?_⟩
  rw [Tryd.params3] at ht
  have hm := Array.mem_of_getElem? ht
  have hall : (Tryd.f3.params.toList.all fun u => !Tryd.prog.wantsStandIn u) = true := by kernel_rfl
  rw [Tryd.params3] at hall
  exact (show Tryd.prog.wantsStandIn t = false by simpa using List.all_eq_true.1 hall t (by simpa using hm))

theorem proved : Rows.FnExactRecvSegCardSaid :=
  Claim7.holds_tied_plain_at .later [] _ _ _ _ over (fun _ h => by cases h) (by kernel_rfl) (fun _ h => by cases h) fnExactRecvSeg_row_tie rfl ⟨rfl, rfl⟩ (by kernel_rfl) rfl plain (by kernel_rfl)
end Go.Proofs.YtcmjnanejeekiaaDoor.fnExactRecvSeg
namespace Go.Proofs.YtcmjnanejeekiaaDoor
theorem fnExactRecvSeg_holds : Rows.FnExactRecvSegCardSaid := fnExactRecvSeg.proved
#print axioms fnExactRecvSeg_holds
end Go.Proofs.YtcmjnanejeekiaaDoor
