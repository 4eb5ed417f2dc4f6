/-
  Whatever queue and packet the law FnExactPush is given, it returns true and leaves all that lay as it was: the program's Push answers as the specification's, in memory of its own; no condition.
-/
import Derived.Test.YtfjdlfoonjnllakRows
import Derived.WalkKit
import Derived.ProofKit
import Derived.OpenShut
import Derived.Test.YtfjdlfoonjnllakPushL
import Derived.Test.YtfjdlfoonjnllakPkMark
import Derived.Deep.RegionHeld3
import Derived.Deep.Slices
import Derived.ShutString
import Derived.ChangeOld
import Derived.Below
namespace Go.Proofs.Ytfjdlfoonjnllak.fnExactPush
open Go.ChangeShapes Go.WideShapes Go.ChangeAt Go.RowKit
open Go.ChangeMaps (open_string shut_string)
set_option linter.unusedVariables false

theorem own : ownKnob Try.prog.godebug = none := by kernel_rfl
theorem laidOut : laidOutB Try.prog = true := by kernel_rfl
theorem cellsInt : Try.prog.cellsOf 3 = 1 := by kernel_rfl
theorem cellsPkt : Try.prog.cellsOf 34 = 6 := by kernel_rfl
theorem cellsFifo : Try.prog.cellsOf 32 = 2 := by kernel_rfl
theorem cellsSlice : Try.prog.cellsOf 30 = 1 := by kernel_rfl


set_option maxHeartbeats 4000000 in
theorem walk (a0 : Option Addr) (len0 cap0 : Nat) (lim0 : Int) (f0 : Nat → Pk) (p1 : Pk) (w1 : p1.In) (w : World) (w0 : FifoIn w a0 len0 cap0 lim0 f0) :
    Calls Try.prog 4 #[.agg #[.slice a0 len0 cap0, .int .i64 lim0], p1.val] w fun e w' => e = .returned (.bool true) ∧ Below w.heap.size w w' := by
  obtain ⟨hlim, hcap, hmx, hrow, hin⟩ := w0
  have hmax : (len0 : Int) ≤ 9223372036854775807 := by unfold maxLen at hmx; omega
  have HR : Hid (PR w.heap.size w a0 len0 f0) := hrow
  clear hrow hin hmx
  obtain ⟨q0, q1, q2, q3, q4, q5⟩ := p1
  by_cases hbig : 1048576 < (len0 : Int)
  · go_enter Try.func4, Try.ntmps4
    go_wp2_with (go_at_call 14; refine (szFifo_any a0 len0 cap0 lim0 1048576 _ hmax (by omega) (by omega)).mono ?_; rintro o v1 ⟨rfl, b1⟩; rw [if_pos hbig])
    go_ret
    exact ⟨rfl, (((Below.refl w.heap.size w).alloc (Nat.le_refl _) _).alloc (by simp) _).trans (b1.mono (by simp <;> omega))⟩
  · have hn : len0 ≤ 1048576 := by omega
    have hsz : decide (1048576 - (len0 : Int) < 0) = false := by simp; omega
    obtain ⟨N, hN⟩ : ∃ N, pushN f0 len0 lim0 ⟨q0, q1, q2, q3, q4, q5⟩ = N := ⟨_, rfl⟩
    obtain ⟨L, hL⟩ : ∃ L, pushL f0 len0 lim0 ⟨q0, q1, q2, q3, q4, q5⟩ = L := ⟨_, rfl⟩
    obtain ⟨ok, hok⟩ : ∃ ok, pushB f0 len0 lim0 ⟨q0, q1, q2, q3, q4, q5⟩ = ok := ⟨_, rfl⟩
    have hNn : N ≤ 1048576 := by rw [← hN]; exact pushN_le _ _ _ _ hn
    obtain ⟨G, hG⟩ : ∃ G, (pushF f0 len0 ⟨q0, q1, q2, q3, q4, q5⟩) = G := ⟨_, rfl⟩
    have HS : Hid (∀ (W : World) (d : Option Addr), PR W.heap.size W d len0 f0 → Calls Try.prog 15 #[.agg #[.slice d len0 len0, .int .i64 lim0], .agg #[.int .i64 q0, .int .i64 q1, .int .i64 q2, .int .i64 q3, .int .i64 q4, .int .i64 q5]] W fun e w' => ∃ (x : Option Addr) (cap : Nat), e = .returned (.tuple #[.agg #[.slice x N cap, .int .i64 L], .bool ok]) ∧ PO W.heap.size w' x N cap G ∧ Below W.heap.size W w') := fun W d hd => by
      refine (spush_any d len0 len0 f0 lim0 ⟨q0, q1, q2, q3, q4, q5⟩ W hn (Nat.le_refl _) hd).mono ?_
      rintro e w' ⟨x, cap, rfl, h1, h2⟩
      rw [hN, hG] at h1
      rw [hN, hL, hok]
      exact ⟨x, cap, rfl, h1, h2⟩
    have HI : Hid (∀ (W : World) (d : Option Addr), PR W.heap.size W d len0 f0 → Calls Try.prog 18 #[.agg #[.slice d len0 len0, .int .i64 lim0], .agg #[.int .i64 q0, .int .i64 q1, .int .i64 q2, .int .i64 q3, .int .i64 q4, .int .i64 q5]] W fun e w' => ∃ (x : Option Addr) (cap : Nat), e = .returned (.tuple #[.agg #[.slice x N cap, .int .i64 L], .bool ok]) ∧ PO W.heap.size w' x N cap G ∧ Below W.heap.size W w') := fun W d hd => by
      refine (ipush_any d len0 len0 f0 lim0 ⟨q0, q1, q2, q3, q4, q5⟩ W hn (Nat.le_refl _) hd).mono ?_
      rintro e w' ⟨x, cap, rfl, h1, h2⟩
      rw [hN, hG] at h1
      rw [hN, hL, hok]
      exact ⟨x, cap, rfl, h1, h2⟩
    clear hN hL hok hG
    obtain ⟨W0, hW0⟩ : ∃ W, (w.alloc (.cells #[.slice a0 len0 cap0, .int .i64 lim0] 32)).alloc (.cells (pkCells ⟨q0, q1, q2, q3, q4, q5⟩) 34) = W := ⟨_, rfl⟩
    have lA : Lies W0 w.heap.size #[.slice a0 len0 cap0, .int .i64 lim0] 32 := by rw [← hW0]; exact (Lies.new _ _ _).alloc _
    have lP : Lies W0 (w.heap.size + 1) (pkCells ⟨q0, q1, q2, q3, q4, q5⟩) 34 := by rw [← hW0]; have := Lies.new (w.alloc (.cells #[.slice a0 len0 cap0, .int .i64 lim0] 32)) (pkCells ⟨q0, q1, q2, q3, q4, q5⟩) 34; simpa using this
    have B : Below w.heap.size w W0 := by rw [← hW0]; exact ((Below.refl _ _).alloc (Nat.le_refl _) _).alloc (by simp) _
    obtain ⟨ka0, ka1⟩ := fi2_cells lA
    cases ok
    case false =>
      go_enter Try.func4, Try.ntmps4
      go_wp2_with (go_at_call 14; refine (szFifo_any a0 len0 cap0 lim0 1048576 _ hmax (by omega) (by omega)).mono ?_; rintro o v1 ⟨rfl, b1⟩; rw [if_neg hbig]; obtain ⟨clA0, clA1⟩ := fi2_cells (Lies.below lA b1 lA.lt); have clAt := (Lies.below lA b1 lA.lt).lt)
      replace lA := Lies.below lA b1 lA.lt
      replace lP := Lies.below lP b1 lP.lt
      replace B := B.trans (b1.mono B.size)
      clear clA0 clA1 clAt
      clear b1 hW0 ka0 ka1
      have hlt1 : w.heap.size + 1 < v1.heap.size := lP.lt
      have hSB : ∀ W, Below v1.heap.size v1 W → SPush w.heap.size a0 len0 cap0 lim0 ⟨q0, q1, q2, q3, q4, q5⟩ W := fun W hW => ⟨fi2_cells (lA.below hW lA.lt), push_pk (lP.below hW lP.lt)⟩
      go_cut [6, 7] from 21 (fun s6 s7 wx => ∃ (V : Nat) (x : Option Addr) (c : Nat), s6 = .pointer (some ⟨V, 0, none⟩) ∧ s7 = .bool false ∧ Lies wx V #[.slice x N c, .int .i64 L] 24 ∧ v1.heap.size ≤ V ∧ PO v1.heap.size wx x N c G ∧ Below v1.heap.size v1 wx)
      case first =>
        set_option maxRecDepth 100000 in go_region_held3 (fun w' => SPush w.heap.size a0 len0 cap0 lim0 ⟨q0, q1, q2, q3, q4, q5⟩ w') (first | exact hSB _ (by (repeat first | (with_reducible exact Below.refl _ _) | (with_reducible assumption) | (with_reducible apply Below.drew) | (with_reducible refine Below.setCell ?_ (by first | omega | (simp; done) | (simp; omega)) _) | (with_reducible refine Below.alloc ?_ (by first | omega | (simp; done) | (simp; omega)) _))) | fail)
          (first | (go_at_call 16; refine (toFifo_any a0 len0 cap0 lim0 f0 _ ((PR.below HR.out (by (repeat first | (with_reducible exact Below.refl _ _) | (with_reducible assumption) | (with_reducible apply Below.drew) | (with_reducible refine Below.setCell ?_ (by first | omega | (simp; done) | (simp; omega)) _) | (with_reducible refine Below.alloc ?_ (by first | omega | (simp; done) | (simp; omega)) _)))).mono (by first | omega | (simp; done) | (simp; omega))) hn).mono ?_; rintro o v2 ⟨d2, rfl, z2, b7⟩; have hb2 : Below v1.heap.size v1 v2 := Below.trans (by (repeat first | (with_reducible exact Below.refl _ _) | (with_reducible assumption) | (with_reducible apply Below.drew) | (with_reducible refine Below.setCell ?_ (by first | omega | (simp; done) | (simp; omega)) _) | (with_reducible refine Below.alloc ?_ (by first | omega | (simp; done) | (simp; omega)) _))) (b7.mono (by first | omega | (simp; done) | (simp; omega))); have hs2 := b7.size; (try simp at hs2)) | (go_at_call 17; refine (toPkt_any ⟨q0, q1, q2, q3, q4, q5⟩ _).mono ?_; rintro o v3 ⟨rfl, k3⟩; have hb3 : Below v1.heap.size v1 v3 := Below.trans (by (repeat first | (with_reducible exact Below.refl _ _) | (with_reducible assumption) | (with_reducible apply Below.drew) | (with_reducible refine Below.setCell ?_ (by first | omega | (simp; done) | (simp; omega)) _) | (with_reducible refine Below.alloc ?_ (by first | omega | (simp; done) | (simp; omega)) _))) (k3.1.mono (by first | omega | (simp; done) | (simp; omega))); have hb23 : Below v2.heap.size v2 v3 := Below.trans (by (repeat first | (with_reducible exact Below.refl _ _) | (with_reducible assumption) | (with_reducible apply Below.drew) | (with_reducible refine Below.setCell ?_ (by first | omega | (simp; done) | (simp; omega)) _) | (with_reducible refine Below.alloc ?_ (by first | omega | (simp; done) | (simp; omega)) _))) (k3.1.mono (by first | omega | (simp; done) | (simp; omega))); have hs3 := k3.1.size; (try simp at hs3)) | (go_at_call 15; refine (HS.out _ d2 ((PR.below (ZI.pr z2) (by (repeat first | (with_reducible exact Below.refl _ _) | (with_reducible assumption) | (with_reducible apply Below.drew) | (with_reducible refine Below.setCell ?_ (by first | omega | (simp; done) | (simp; omega)) _) | (with_reducible refine Below.alloc ?_ (by first | omega | (simp; done) | (simp; omega)) _)))).mono (by first | omega | (simp; done) | (simp; omega)))).mono ?_; rintro o v4 ⟨x4, c4, rfl, zq, b8⟩; have hb4 : Below v1.heap.size v1 v4 := Below.trans (by (repeat first | (with_reducible exact Below.refl _ _) | (with_reducible assumption) | (with_reducible apply Below.drew) | (with_reducible refine Below.setCell ?_ (by first | omega | (simp; done) | (simp; omega)) _) | (with_reducible refine Below.alloc ?_ (by first | omega | (simp; done) | (simp; omega)) _))) (b8.mono (by first | omega | (simp; done) | (simp; omega))); have hs4 := b8.size; (try simp at hs4); have hpo : PO v1.heap.size v4 x4 N c4 G := zq.mono (by first | omega | (simp; done) | (simp; omega)); (first | (have vz := vz_at (vz_at (vz_at (Lies.new v1 #[.slice none 0 0, .int .i64 0] 24) b7 rfl).1 k3.1 rfl).1 b8 rfl; obtain ⟨z0, z1⟩ := fi2_cells vz.1; have fz := vz.1.frozen) | (have vz := vz_at (vz_at (Lies.new v2 #[.slice none 0 0, .int .i64 0] 24) k3.1 rfl).1 b8 rfl; obtain ⟨z0, z1⟩ := fi2_cells vz.1; have fz := vz.1.frozen) | (have vz := vz_at (Lies.new v3 #[.slice none 0 0, .int .i64 0] 24) b8 rfl; obtain ⟨z0, z1⟩ := fi2_cells vz.1; have fz := vz.1.frozen) | skip)))
        set_option maxRecDepth 100000 in all_goals
          (go_wp2_with fail)
          go_meet
          case rel =>
            refine ⟨_, x4, c4, rfl, rfl, ?_, ?_, ?_, ?_⟩
            · first | (with_reducible exact lies_new' rfl) | (with_reducible exact (vz.1.set0 _).set1 _)
            · first | omega | (simp; omega)
            · first | (with_reducible exact po_alloc hpo _) | exact ((zq.far vz.2 _ _).far vz.2 _ _).mono (by first | omega | (simp; done) | (simp; omega))
            · repeat first | (with_reducible exact hb4) | (with_reducible refine Below.setCell ?_ (by first | omega | (simp; done) | (simp; omega)) _) | (with_reducible refine Below.alloc ?_ (by first | omega | (simp; done) | (simp; omega)) _)
      obtain ⟨V4, x4, c4, rfl, rfl, lw, t4, zw, b4⟩ := hcut
      rename World => yV4
      have t3 := lP.lt
      replace lA := Lies.below lA b4 lA.lt
      replace lP := Lies.below lP b4 lP.lt
      replace B := B.trans (b4.mono B.size)
      have t5 := lw.lt
      replace zw := PO.zi zw
      obtain ⟨Lw, hLw⟩ : ∃ n, v1.heap.size = n := ⟨_, rfl⟩
      rw [hLw] at zw t3 t4
      clear b4 hSB hlt1 hLw
      obtain ⟨Lx, hLx⟩ : ∃ n, yV4.heap.size = n := ⟨_, rfl⟩
      rw [hLx] at t5 zw
      obtain ⟨ka0, ka1⟩ := fi2_cells lA
      have HR' : Hid (PR _ _ a0 len0 f0) := (PR.below HR.out B).mono B.size
      have t1 := B.size
      go_wp2_with (go_at_call 16; refine (toFifo_any a0 len0 cap0 lim0 f0 _ HR'.out hn).mono ?_; rintro o v5 ⟨d5, rfl, zx, b1⟩)
      replace lA := Lies.below lA b1 lA.lt
      replace lP := Lies.below lP b1 lP.lt
      replace lw := Lies.below lw b1 lw.lt
      replace zw := ZI.below zw b1
      replace B := B.trans (b1.mono B.size)
      have t2 := b1.size
      clear b1 HR'
      rw [hLx] at zx t1 t2
      clear ka0 ka1
      obtain ⟨V5, hV⟩ : ∃ V, v5.heap.size = V := ⟨_, rfl⟩
      obtain ⟨yV5, hA⟩ : ∃ x, (v5).alloc (.cells (#[.slice d5 len0 len0, .int .i64 lim0]) 24) = x := ⟨_, rfl⟩
      have lx : Lies yV5 (V5) (#[.slice d5 len0 len0, .int .i64 lim0]) 24 := by rw [← hA, ← hV]; have := Lies.new (v5) (#[.slice d5 len0 len0, .int .i64 lim0]) 24; simpa using this
      have bA : Below v5.heap.size v5 yV5 := by rw [← hA]; go_grown
      replace lA := Lies.below lA bA lA.lt
      replace lP := Lies.below lP bA lP.lt
      replace lw := Lies.below lw bA lw.lt
      replace zw := ZI.below zw bA
      replace zx := ZI.below zx bA
      replace B := B.trans (bA.mono B.size)
      rw [hA, hV]
      rw [hV] at zx t2
      have t6 : V5 < yV5.heap.size := lx.lt
      clear hA hV bA hLx t1
      have hlt1 : w.heap.size + 1 < yV5.heap.size := lP.lt
      have hSB : ∀ W, Below yV5.heap.size yV5 W → SX V5 (w.heap.size + 1) d5 len0 len0 lim0 ⟨q0, q1, q2, q3, q4, q5⟩ W := fun W hW => ⟨fi2_cells (lx.below hW lx.lt), push_pk (lP.below hW lP.lt)⟩
      go_cut [9, 10] from 31 (fun s6 s7 wx => ∃ (V : Nat) (x : Option Addr) (c : Nat), s6 = .pointer (some ⟨V, 0, none⟩) ∧ s7 = .bool false ∧ Lies wx V #[.slice x N c, .int .i64 L] 24 ∧ yV5.heap.size ≤ V ∧ GZ yV5.heap.size wx V x N G ∧ Below yV5.heap.size yV5 wx)
      case first =>
        set_option maxRecDepth 100000 in go_region_held3 (fun w' => SX V5 (w.heap.size + 1) d5 len0 len0 lim0 ⟨q0, q1, q2, q3, q4, q5⟩ w') (first | exact hSB _ (by (repeat first | (with_reducible exact Below.refl _ _) | (with_reducible assumption) | (with_reducible apply Below.drew) | (with_reducible refine Below.setCell ?_ (by first | omega | (simp; done) | (simp; omega)) _) | (with_reducible refine Below.alloc ?_ (by first | omega | (simp; done) | (simp; omega)) _))) | fail)
          (first | (go_at_call 17; refine (toPkt_any ⟨q0, q1, q2, q3, q4, q5⟩ _).mono ?_; rintro o v3 ⟨rfl, k3⟩; have hb3 : Below yV5.heap.size yV5 v3 := Below.trans (by (repeat first | (with_reducible exact Below.refl _ _) | (with_reducible assumption) | (with_reducible apply Below.drew) | (with_reducible refine Below.setCell ?_ (by first | omega | (simp; done) | (simp; omega)) _) | (with_reducible refine Below.alloc ?_ (by first | omega | (simp; done) | (simp; omega)) _))) (k3.1.mono (by first | omega | (simp; done) | (simp; omega))); have hs3 := k3.1.size; (try simp at hs3)) | (go_at_call 18; refine (HI.out _ d5 ((PR.below (ZI.pr zx) (by (repeat first | (with_reducible exact Below.refl _ _) | (with_reducible assumption) | (with_reducible apply Below.drew) | (with_reducible refine Below.setCell ?_ (by first | omega | (simp; done) | (simp; omega)) _) | (with_reducible refine Below.alloc ?_ (by first | omega | (simp; done) | (simp; omega)) _)))).mono (by first | omega | (simp; done) | (simp; omega)))).mono ?_; rintro o v4 ⟨x4, c4, rfl, zq, b8⟩; have hb4 : Below yV5.heap.size yV5 v4 := Below.trans (by (repeat first | (with_reducible exact Below.refl _ _) | (with_reducible assumption) | (with_reducible apply Below.drew) | (with_reducible refine Below.setCell ?_ (by first | omega | (simp; done) | (simp; omega)) _) | (with_reducible refine Below.alloc ?_ (by first | omega | (simp; done) | (simp; omega)) _))) (b8.mono (by first | omega | (simp; done) | (simp; omega))); have hs4 := b8.size; have hs5 := hs4; (try simp at hs5); (first | (have vz := vz_at (vz_at (Lies.new yV5 #[.slice none 0 0, .int .i64 0] 24) k3.1 rfl).1 b8 rfl; obtain ⟨z0, z1⟩ := fi2_cells vz.1; have fz := vz.1.frozen) | (have vz := vz_at (Lies.new v3 #[.slice none 0 0, .int .i64 0] 24) b8 rfl; obtain ⟨z0, z1⟩ := fi2_cells vz.1; have fz := vz.1.frozen) | skip)))
        set_option maxRecDepth 100000 in all_goals
          (go_wp2_with fail)
          go_meet
          case rel =>
            refine ⟨_, x4, c4, rfl, rfl, ?_, ?_, ?_, ?_⟩
            · first | (with_reducible exact lies_new' rfl) | (with_reducible exact (vz.1.set0 _).set1 _)
            · first | omega | (simp; omega)
            · first | (with_reducible exact GZ.new zq (by first | omega | (simp; done) | (simp; omega)) hs4 _) | exact GZ.set zq vz.2 (by first | omega | (simp; done) | (simp; omega)) hs4 _ _
            · repeat first | (with_reducible exact hb4) | (with_reducible refine Below.setCell ?_ (by first | omega | (simp; done) | (simp; omega)) _) | (with_reducible refine Below.alloc ?_ (by first | omega | (simp; done) | (simp; omega)) _)
      obtain ⟨V7, x7, c7, rfl, rfl, lg, t7, ⟨Lg, Ug, zg, tg, t8, sg⟩, b4⟩ := hcut
      rename World => yV7
      replace lA := Lies.below lA b4 lA.lt
      replace lP := Lies.below lP b4 lP.lt
      replace lw := Lies.below lw b4 lw.lt
      replace lx := Lies.below lx b4 lx.lt
      replace zw := ZI.below zw b4
      replace zx := ZI.below zx b4
      replace B := B.trans (b4.mono B.size)
      obtain ⟨L5, hL5⟩ : ∃ n, yV5.heap.size = n := ⟨_, rfl⟩
      rw [hL5] at t6 t7 t8
      clear b4 hSB hlt1 hL5
      obtain ⟨kw0, kw1⟩ := fi2_cells lw
      obtain ⟨kg0, kg1⟩ := fi2_cells lg
      go_wp2_with (go_at_call 11; refine (eqFifo_yes x7 x4 N c7 c4 L G _ (ZI.pr zg) (ZI.pr zw) hNn).mono ?_; rintro o v8 ⟨rfl, b1⟩)
      replace lA := Lies.below lA b1 lA.lt
      replace lP := Lies.below lP b1 lP.lt
      replace lw := Lies.below lw b1 lw.lt
      replace lx := Lies.below lx b1 lx.lt
      replace lg := Lies.below lg b1 lg.lt
      replace zw := ZI.below zw b1
      replace zx := ZI.below zx b1
      replace zg := ZI.below zg b1
      replace B := B.trans (b1.mono B.size)
      replace sg := Nat.le_trans sg b1.size
      clear b1
      clear kw0 kw1 kg0 kg1
      obtain ⟨y1, y2⟩ := fi2_cells lx
      obtain ⟨k1, k2⟩ := fi2_cells lA
      go_region_held3 (fun w' => (w'.cell? ⟨V5, 0, none⟩ = some (.slice d5 len0 len0) ∧ w'.cell? ⟨V5, 1, none⟩ = some (.int .i64 lim0)) ∧ (w'.cell? ⟨w.heap.size, 0, none⟩ = some (.slice a0 len0 cap0) ∧ w'.cell? ⟨w.heap.size, 1, none⟩ = some (.int .i64 lim0))) (first | exact ⟨⟨y1, y2⟩, ⟨k1, k2⟩⟩ | go_keep | exact ⟨fi2_cells (Lies.below (W := v8.drew) lx b7 lx.lt), fi2_cells (Lies.below (W := v8.drew) lA b7 lA.lt)⟩ | exact ⟨fi2_cells ((Lies.below (W := v8.drew) lx b7 lx.lt).below b8 (Lies.below (W := v8.drew) lx b7 lx.lt).lt), fi2_cells ((Lies.below (W := v8.drew) lA b7 lA.lt).below b8 (Lies.below (W := v8.drew) lA b7 lA.lt).lt)⟩) (first | (go_at_call 16; refine (toFifo_any a0 len0 cap0 lim0 f0 _ ((PR.below HR.out B.drew).mono B.size) hn).mono ?_; rintro o v9 ⟨d9, rfl, z9, b7⟩) | (go_at_call 11; refine (eqFifo_yes d5 d9 len0 len0 len0 lim0 f0 _ ((PR.below (w := v8.drew) (ZI.pr zx) b7).mono b7.size) (ZI.pr z9) hn).mono ?_; rintro o v10 ⟨rfl, b8⟩))
      replace lA := Lies.below (W := v8.drew) lA b7 lA.lt
      replace lP := Lies.below (W := v8.drew) lP b7 lP.lt
      replace lw := Lies.below (W := v8.drew) lw b7 lw.lt
      replace lx := Lies.below (W := v8.drew) lx b7 lx.lt
      replace lg := Lies.below (W := v8.drew) lg b7 lg.lt
      replace zw := ZI.below (w := v8.drew) zw b7
      replace zx := ZI.below (w := v8.drew) zx b7
      replace zg := ZI.below (w := v8.drew) zg b7
      replace B := B.drew.trans (b7.mono B.size)
      replace sg := Nat.le_trans sg b7.size
      replace lA := Lies.below lA b8 lA.lt
      replace lP := Lies.below lP b8 lP.lt
      replace lw := Lies.below lw b8 lw.lt
      replace lx := Lies.below lx b8 lx.lt
      replace lg := Lies.below lg b8 lg.lt
      replace zw := ZI.below zw b8
      replace zx := ZI.below zx b8
      replace zg := ZI.below zg b8
      replace B := B.trans (b8.mono B.size)
      replace sg := Nat.le_trans sg b8.size
      clear b7 b8 z9 y1 y2 k1 k2
      have hk1 : decide (1 + (len0 : Int) * 6 < 0) = false := by simp; omega
      have hk2 : decide (1 + (N : Int) * 6 < 0) = false := by simp; omega
      obtain ⟨clx0, clx1⟩ := fi2_cells lx
      have hLs : Lx ≤ _ := Nat.le_of_lt (Nat.lt_of_le_of_lt (Nat.le_trans (by omega) (Nat.le_refl V7)) lg.lt)
      go_wp2_with (go_at_call 12; refine (markFifo_zi Lx V5 d5 len0 len0 lim0 (flat f0) 1 _ zx hn (by omega) (by omega)).mono ?_; rintro o v11 ⟨rfl, zn, c1⟩; obtain ⟨clg0, clg1⟩ := fi2_cells (Lies.chg lg c1 (by omega)); have clgt := (Lies.chg lg c1 (by omega)).lt; obtain ⟨clw0, clw1⟩ := fi2_cells (Lies.chg lw c1 (by omega)); have clwt := (Lies.chg lw c1 (by omega)).lt)
      replace lA := Lies.chg lA c1 (by omega)
      replace lP := Lies.chg lP c1 (by omega)
      replace lw := Lies.chg lw c1 (by omega)
      replace lx := Lies.chg lx c1 (by omega)
      replace lg := Lies.chg lg c1 (by omega)
      replace zw := ZI.chg zw c1 (by omega)
      replace zg := ZI.chg zg c1 (by omega)
      replace B := B.trans ((c1.below hLs).mono (by omega))
      replace sg := Nat.le_trans sg (c1.below hLs).size
      clear c1 hLs clg0 clg1 clgt clw0 clw1 clwt
      clear zx zn clx0 clx1
      go_wp2_with (go_at_call 11; refine (eqFifo_yes x7 x4 N c7 c4 L G _ (ZI.pr zg) (ZI.pr zw) hNn).mono ?_; rintro o v12 ⟨rfl, b1⟩; obtain ⟨clg0, clg1⟩ := fi2_cells (Lies.below lg b1 lg.lt); have clgt := (Lies.below lg b1 lg.lt).lt)
      replace lA := Lies.below lA b1 lA.lt
      replace lP := Lies.below lP b1 lP.lt
      replace lw := Lies.below lw b1 lw.lt
      replace lx := Lies.below lx b1 lx.lt
      replace lg := Lies.below lg b1 lg.lt
      replace zw := ZI.below zw b1
      replace zg := ZI.below zg b1
      replace B := B.trans (b1.mono B.size)
      replace sg := Nat.le_trans sg b1.size
      clear clg0 clg1 clgt
      clear b1
      have hLs := sg
      go_wp2_with (go_at_call 12; refine (markFifo_zi Lg Ug x7 N c7 L (flat G) 1 _ zg hNn (by omega) (by omega)).mono ?_; rintro o v13 ⟨rfl, zn, c1⟩; obtain ⟨dg0, dg1⟩ := fi2_cells (Lies.chg lg c1 (by omega)))
      replace lA := Lies.chg lA c1 (by omega)
      replace lP := Lies.chg lP c1 (by omega)
      replace lw := Lies.chg lw c1 (by omega)
      replace lx := Lies.chg lx c1 (by omega)
      replace lg := Lies.chg lg c1 (by omega)
      replace zw := ZI.chg zw c1 (by omega)
      replace B := B.trans ((c1.below hLs).mono (by omega))
      replace sg := Nat.le_trans sg (c1.below hLs).size
      replace zg := zn
      clear c1 hLs zn dg0 dg1
      go_wp2_with (go_at_call 13; refine (heldFifo_any x7 N c7 L 1 _ (ZI.row zg) hNn (by omega) (by omega)).mono ?_; rintro o v14 ⟨rfl, b1⟩; obtain ⟨clA0, clA1⟩ := fi2_cells (Lies.below lA b1 lA.lt); have clAt := (Lies.below lA b1 lA.lt).lt)
      replace lA := Lies.below lA b1 lA.lt
      replace lP := Lies.below lP b1 lP.lt
      replace lw := Lies.below lw b1 lw.lt
      replace lx := Lies.below lx b1 lx.lt
      replace lg := Lies.below lg b1 lg.lt
      replace zw := ZI.below zw b1
      replace zg := ZI.below zg b1
      replace B := B.trans (b1.mono B.size)
      replace sg := Nat.le_trans sg b1.size
      clear clA0 clA1 clAt
      clear b1 t3 t4 t5 t2 t6 t7 t8 tg
      have hlt1 : w.heap.size + 1 < v14.heap.size := lP.lt
      have hSB : ∀ W, Below v14.heap.size v14 W → SPush w.heap.size a0 len0 cap0 lim0 ⟨q0, q1, q2, q3, q4, q5⟩ W := fun W hW => ⟨fi2_cells (lA.below hW lA.lt), push_pk (lP.below hW lP.lt)⟩
      go_cut [14, 15] from 79 (fun s6 s7 wx => ∃ (V : Nat) (x : Option Addr) (c : Nat), s6 = .pointer (some ⟨V, 0, none⟩) ∧ s7 = .bool false ∧ Lies wx V #[.slice x N c, .int .i64 L] 24 ∧ v14.heap.size ≤ V ∧ PO v14.heap.size wx x N c G ∧ Below v14.heap.size v14 wx)
      case first =>
        set_option maxRecDepth 100000 in go_region_held3 (fun w' => SPush w.heap.size a0 len0 cap0 lim0 ⟨q0, q1, q2, q3, q4, q5⟩ w') (first | exact hSB _ (by (repeat first | (with_reducible exact Below.refl _ _) | (with_reducible assumption) | (with_reducible apply Below.drew) | (with_reducible refine Below.setCell ?_ (by first | omega | (simp; done) | (simp; omega)) _) | (with_reducible refine Below.alloc ?_ (by first | omega | (simp; done) | (simp; omega)) _))) | fail)
          (first | (go_at_call 16; refine (toFifo_any a0 len0 cap0 lim0 f0 _ ((PR.below HR.out (by (repeat first | (with_reducible exact Below.refl _ _) | (with_reducible assumption) | (with_reducible apply Below.drew) | (with_reducible refine Below.setCell ?_ (by first | omega | (simp; done) | (simp; omega)) _) | (with_reducible refine Below.alloc ?_ (by first | omega | (simp; done) | (simp; omega)) _)))).mono (by first | omega | (simp; done) | (simp; omega))) hn).mono ?_; rintro o v2 ⟨d2, rfl, z2, b7⟩; have hb2 : Below v14.heap.size v14 v2 := Below.trans (by (repeat first | (with_reducible exact Below.refl _ _) | (with_reducible assumption) | (with_reducible apply Below.drew) | (with_reducible refine Below.setCell ?_ (by first | omega | (simp; done) | (simp; omega)) _) | (with_reducible refine Below.alloc ?_ (by first | omega | (simp; done) | (simp; omega)) _))) (b7.mono (by first | omega | (simp; done) | (simp; omega))); have hs2 := b7.size; (try simp at hs2)) | (go_at_call 17; refine (toPkt_any ⟨q0, q1, q2, q3, q4, q5⟩ _).mono ?_; rintro o v3 ⟨rfl, k3⟩; have hb3 : Below v14.heap.size v14 v3 := Below.trans (by (repeat first | (with_reducible exact Below.refl _ _) | (with_reducible assumption) | (with_reducible apply Below.drew) | (with_reducible refine Below.setCell ?_ (by first | omega | (simp; done) | (simp; omega)) _) | (with_reducible refine Below.alloc ?_ (by first | omega | (simp; done) | (simp; omega)) _))) (k3.1.mono (by first | omega | (simp; done) | (simp; omega))); have hb23 : Below v2.heap.size v2 v3 := Below.trans (by (repeat first | (with_reducible exact Below.refl _ _) | (with_reducible assumption) | (with_reducible apply Below.drew) | (with_reducible refine Below.setCell ?_ (by first | omega | (simp; done) | (simp; omega)) _) | (with_reducible refine Below.alloc ?_ (by first | omega | (simp; done) | (simp; omega)) _))) (k3.1.mono (by first | omega | (simp; done) | (simp; omega))); have hs3 := k3.1.size; (try simp at hs3)) | (go_at_call 18; refine (HI.out _ d2 ((PR.below (ZI.pr z2) (by (repeat first | (with_reducible exact Below.refl _ _) | (with_reducible assumption) | (with_reducible apply Below.drew) | (with_reducible refine Below.setCell ?_ (by first | omega | (simp; done) | (simp; omega)) _) | (with_reducible refine Below.alloc ?_ (by first | omega | (simp; done) | (simp; omega)) _)))).mono (by first | omega | (simp; done) | (simp; omega)))).mono ?_; rintro o v4 ⟨x4, c4, rfl, zq, b8⟩; have hb4 : Below v14.heap.size v14 v4 := Below.trans (by (repeat first | (with_reducible exact Below.refl _ _) | (with_reducible assumption) | (with_reducible apply Below.drew) | (with_reducible refine Below.setCell ?_ (by first | omega | (simp; done) | (simp; omega)) _) | (with_reducible refine Below.alloc ?_ (by first | omega | (simp; done) | (simp; omega)) _))) (b8.mono (by first | omega | (simp; done) | (simp; omega))); have hs4 := b8.size; (try simp at hs4); have hpo : PO v14.heap.size v4 x4 N c4 G := zq.mono (by first | omega | (simp; done) | (simp; omega)); (first | (have vz := vz_at (vz_at (vz_at (Lies.new v14 #[.slice none 0 0, .int .i64 0] 24) b7 rfl).1 k3.1 rfl).1 b8 rfl; obtain ⟨z0, z1⟩ := fi2_cells vz.1; have fz := vz.1.frozen) | (have vz := vz_at (vz_at (Lies.new v2 #[.slice none 0 0, .int .i64 0] 24) k3.1 rfl).1 b8 rfl; obtain ⟨z0, z1⟩ := fi2_cells vz.1; have fz := vz.1.frozen) | (have vz := vz_at (Lies.new v3 #[.slice none 0 0, .int .i64 0] 24) b8 rfl; obtain ⟨z0, z1⟩ := fi2_cells vz.1; have fz := vz.1.frozen) | skip)))
        set_option maxRecDepth 100000 in all_goals
          (go_wp2_with fail)
          go_meet
          case rel =>
            refine ⟨_, x4, c4, rfl, rfl, ?_, ?_, ?_, ?_⟩
            · first | (with_reducible exact lies_new' rfl) | (with_reducible exact (vz.1.set0 _).set1 _)
            · first | omega | (simp; omega)
            · first | (with_reducible exact po_alloc hpo _) | exact ((zq.far vz.2 _ _).far vz.2 _ _).mono (by first | omega | (simp; done) | (simp; omega))
            · repeat first | (with_reducible exact hb4) | (with_reducible refine Below.setCell ?_ (by first | omega | (simp; done) | (simp; omega)) _) | (with_reducible refine Below.alloc ?_ (by first | omega | (simp; done) | (simp; omega)) _)
      obtain ⟨V17, x17, c17, rfl, rfl, ln, t4, zh, b4⟩ := hcut
      rename World => yV17
      replace lA := Lies.below lA b4 lA.lt
      replace lP := Lies.below lP b4 lP.lt
      replace lw := Lies.below lw b4 lw.lt
      replace lx := Lies.below lx b4 lx.lt
      replace lg := Lies.below lg b4 lg.lt
      replace zw := ZI.below zw b4
      replace zg := ZI.below zg b4
      replace B := B.trans (b4.mono B.size)
      replace sg := Nat.le_trans sg b4.size
      replace zh := PO.zi zh
      clear b4 hSB hlt1
      obtain ⟨kw0, kw1⟩ := fi2_cells lw
      obtain ⟨kn0, kn1⟩ := fi2_cells ln
      obtain ⟨kg0, kg1⟩ := fi2_cells lg
      go_wp2_with (go_at_call 11; refine (eqFifo_yes x17 x4 N c17 c4 L G _ (ZI.pr zh) (ZI.pr zw) hNn).mono ?_; rintro o v18 ⟨rfl, b1⟩; obtain ⟨clg0, clg1⟩ := fi2_cells (Lies.below lg b1 lg.lt); have clgt := (Lies.below lg b1 lg.lt).lt)
      replace lA := Lies.below lA b1 lA.lt
      replace lP := Lies.below lP b1 lP.lt
      replace lw := Lies.below lw b1 lw.lt
      replace lx := Lies.below lx b1 lx.lt
      replace lg := Lies.below lg b1 lg.lt
      replace ln := Lies.below ln b1 ln.lt
      replace zw := ZI.below zw b1
      replace zg := ZI.below zg b1
      replace zh := ZI.below zh b1
      replace B := B.trans (b1.mono B.size)
      replace sg := Nat.le_trans sg b1.size
      clear clg0 clg1 clgt
      clear b1
      go_wp2_with (go_at_call 13; refine (heldFifo_any x7 N c7 L 1 _ (ZI.row zg) hNn (by omega) (by omega)).mono ?_; rintro o v20 ⟨rfl, b1⟩)
      replace lA := Lies.below lA b1 lA.lt
      replace lP := Lies.below lP b1 lP.lt
      replace lw := Lies.below lw b1 lw.lt
      replace lx := Lies.below lx b1 lx.lt
      replace lg := Lies.below lg b1 lg.lt
      replace ln := Lies.below ln b1 ln.lt
      replace zw := ZI.below zw b1
      replace zg := ZI.below zg b1
      replace zh := ZI.below zh b1
      replace B := B.trans (b1.mono B.size)
      replace sg := Nat.le_trans sg b1.size
      go_ret
      exact ⟨rfl, B⟩
    case true =>
      go_enter Try.func4, Try.ntmps4
      go_wp2_with (go_at_call 14; refine (szFifo_any a0 len0 cap0 lim0 1048576 _ hmax (by omega) (by omega)).mono ?_; rintro o v1 ⟨rfl, b1⟩; rw [if_neg hbig]; obtain ⟨clA0, clA1⟩ := fi2_cells (Lies.below lA b1 lA.lt); have clAt := (Lies.below lA b1 lA.lt).lt)
      replace lA := Lies.below lA b1 lA.lt
      replace lP := Lies.below lP b1 lP.lt
      replace B := B.trans (b1.mono B.size)
      clear clA0 clA1 clAt
      clear b1 hW0 ka0 ka1
      have hlt1 : w.heap.size + 1 < v1.heap.size := lP.lt
      have hSB : ∀ W, Below v1.heap.size v1 W → SPush w.heap.size a0 len0 cap0 lim0 ⟨q0, q1, q2, q3, q4, q5⟩ W := fun W hW => ⟨fi2_cells (lA.below hW lA.lt), push_pk (lP.below hW lP.lt)⟩
      go_cut [6, 7] from 21 (fun s6 s7 wx => ∃ (V : Nat) (x : Option Addr) (c : Nat), s6 = .pointer (some ⟨V, 0, none⟩) ∧ s7 = .bool true ∧ Lies wx V #[.slice x N c, .int .i64 L] 24 ∧ v1.heap.size ≤ V ∧ PO v1.heap.size wx x N c G ∧ Below v1.heap.size v1 wx)
      case first =>
        set_option maxRecDepth 100000 in go_region_held3 (fun w' => SPush w.heap.size a0 len0 cap0 lim0 ⟨q0, q1, q2, q3, q4, q5⟩ w') (first | exact hSB _ (by (repeat first | (with_reducible exact Below.refl _ _) | (with_reducible assumption) | (with_reducible apply Below.drew) | (with_reducible refine Below.setCell ?_ (by first | omega | (simp; done) | (simp; omega)) _) | (with_reducible refine Below.alloc ?_ (by first | omega | (simp; done) | (simp; omega)) _))) | fail)
          (first | (go_at_call 16; refine (toFifo_any a0 len0 cap0 lim0 f0 _ ((PR.below HR.out (by (repeat first | (with_reducible exact Below.refl _ _) | (with_reducible assumption) | (with_reducible apply Below.drew) | (with_reducible refine Below.setCell ?_ (by first | omega | (simp; done) | (simp; omega)) _) | (with_reducible refine Below.alloc ?_ (by first | omega | (simp; done) | (simp; omega)) _)))).mono (by first | omega | (simp; done) | (simp; omega))) hn).mono ?_; rintro o v2 ⟨d2, rfl, z2, b7⟩; have hb2 : Below v1.heap.size v1 v2 := Below.trans (by (repeat first | (with_reducible exact Below.refl _ _) | (with_reducible assumption) | (with_reducible apply Below.drew) | (with_reducible refine Below.setCell ?_ (by first | omega | (simp; done) | (simp; omega)) _) | (with_reducible refine Below.alloc ?_ (by first | omega | (simp; done) | (simp; omega)) _))) (b7.mono (by first | omega | (simp; done) | (simp; omega))); have hs2 := b7.size; (try simp at hs2)) | (go_at_call 17; refine (toPkt_any ⟨q0, q1, q2, q3, q4, q5⟩ _).mono ?_; rintro o v3 ⟨rfl, k3⟩; have hb3 : Below v1.heap.size v1 v3 := Below.trans (by (repeat first | (with_reducible exact Below.refl _ _) | (with_reducible assumption) | (with_reducible apply Below.drew) | (with_reducible refine Below.setCell ?_ (by first | omega | (simp; done) | (simp; omega)) _) | (with_reducible refine Below.alloc ?_ (by first | omega | (simp; done) | (simp; omega)) _))) (k3.1.mono (by first | omega | (simp; done) | (simp; omega))); have hb23 : Below v2.heap.size v2 v3 := Below.trans (by (repeat first | (with_reducible exact Below.refl _ _) | (with_reducible assumption) | (with_reducible apply Below.drew) | (with_reducible refine Below.setCell ?_ (by first | omega | (simp; done) | (simp; omega)) _) | (with_reducible refine Below.alloc ?_ (by first | omega | (simp; done) | (simp; omega)) _))) (k3.1.mono (by first | omega | (simp; done) | (simp; omega))); have hs3 := k3.1.size; (try simp at hs3)) | (go_at_call 15; refine (HS.out _ d2 ((PR.below (ZI.pr z2) (by (repeat first | (with_reducible exact Below.refl _ _) | (with_reducible assumption) | (with_reducible apply Below.drew) | (with_reducible refine Below.setCell ?_ (by first | omega | (simp; done) | (simp; omega)) _) | (with_reducible refine Below.alloc ?_ (by first | omega | (simp; done) | (simp; omega)) _)))).mono (by first | omega | (simp; done) | (simp; omega)))).mono ?_; rintro o v4 ⟨x4, c4, rfl, zq, b8⟩; have hb4 : Below v1.heap.size v1 v4 := Below.trans (by (repeat first | (with_reducible exact Below.refl _ _) | (with_reducible assumption) | (with_reducible apply Below.drew) | (with_reducible refine Below.setCell ?_ (by first | omega | (simp; done) | (simp; omega)) _) | (with_reducible refine Below.alloc ?_ (by first | omega | (simp; done) | (simp; omega)) _))) (b8.mono (by first | omega | (simp; done) | (simp; omega))); have hs4 := b8.size; (try simp at hs4); have hpo : PO v1.heap.size v4 x4 N c4 G := zq.mono (by first | omega | (simp; done) | (simp; omega)); (first | (have vz := vz_at (vz_at (vz_at (Lies.new v1 #[.slice none 0 0, .int .i64 0] 24) b7 rfl).1 k3.1 rfl).1 b8 rfl; obtain ⟨z0, z1⟩ := fi2_cells vz.1; have fz := vz.1.frozen) | (have vz := vz_at (vz_at (Lies.new v2 #[.slice none 0 0, .int .i64 0] 24) k3.1 rfl).1 b8 rfl; obtain ⟨z0, z1⟩ := fi2_cells vz.1; have fz := vz.1.frozen) | (have vz := vz_at (Lies.new v3 #[.slice none 0 0, .int .i64 0] 24) b8 rfl; obtain ⟨z0, z1⟩ := fi2_cells vz.1; have fz := vz.1.frozen) | skip)))
        set_option maxRecDepth 100000 in all_goals
          (go_wp2_with fail)
          go_meet
          case rel =>
            refine ⟨_, x4, c4, rfl, rfl, ?_, ?_, ?_, ?_⟩
            · first | (with_reducible exact lies_new' rfl) | (with_reducible exact (vz.1.set0 _).set1 _)
            · first | omega | (simp; omega)
            · first | (with_reducible exact po_alloc hpo _) | exact ((zq.far vz.2 _ _).far vz.2 _ _).mono (by first | omega | (simp; done) | (simp; omega))
            · repeat first | (with_reducible exact hb4) | (with_reducible refine Below.setCell ?_ (by first | omega | (simp; done) | (simp; omega)) _) | (with_reducible refine Below.alloc ?_ (by first | omega | (simp; done) | (simp; omega)) _)
      obtain ⟨V4, x4, c4, rfl, rfl, lw, t4, zw, b4⟩ := hcut
      rename World => yV4
      have t3 := lP.lt
      replace lA := Lies.below lA b4 lA.lt
      replace lP := Lies.below lP b4 lP.lt
      replace B := B.trans (b4.mono B.size)
      have t5 := lw.lt
      replace zw := PO.zi zw
      obtain ⟨Lw, hLw⟩ : ∃ n, v1.heap.size = n := ⟨_, rfl⟩
      rw [hLw] at zw t3 t4
      clear b4 hSB hlt1 hLw
      obtain ⟨Lx, hLx⟩ : ∃ n, yV4.heap.size = n := ⟨_, rfl⟩
      rw [hLx] at t5 zw
      obtain ⟨ka0, ka1⟩ := fi2_cells lA
      have HR' : Hid (PR _ _ a0 len0 f0) := (PR.below HR.out B).mono B.size
      have t1 := B.size
      go_wp2_with (go_at_call 16; refine (toFifo_any a0 len0 cap0 lim0 f0 _ HR'.out hn).mono ?_; rintro o v5 ⟨d5, rfl, zx, b1⟩)
      replace lA := Lies.below lA b1 lA.lt
      replace lP := Lies.below lP b1 lP.lt
      replace lw := Lies.below lw b1 lw.lt
      replace zw := ZI.below zw b1
      replace B := B.trans (b1.mono B.size)
      have t2 := b1.size
      clear b1 HR'
      rw [hLx] at zx t1 t2
      clear ka0 ka1
      obtain ⟨V5, hV⟩ : ∃ V, v5.heap.size = V := ⟨_, rfl⟩
      obtain ⟨yV5, hA⟩ : ∃ x, (v5).alloc (.cells (#[.slice d5 len0 len0, .int .i64 lim0]) 24) = x := ⟨_, rfl⟩
      have lx : Lies yV5 (V5) (#[.slice d5 len0 len0, .int .i64 lim0]) 24 := by rw [← hA, ← hV]; have := Lies.new (v5) (#[.slice d5 len0 len0, .int .i64 lim0]) 24; simpa using this
      have bA : Below v5.heap.size v5 yV5 := by rw [← hA]; go_grown
      replace lA := Lies.below lA bA lA.lt
      replace lP := Lies.below lP bA lP.lt
      replace lw := Lies.below lw bA lw.lt
      replace zw := ZI.below zw bA
      replace zx := ZI.below zx bA
      replace B := B.trans (bA.mono B.size)
      rw [hA, hV]
      rw [hV] at zx t2
      have t6 : V5 < yV5.heap.size := lx.lt
      clear hA hV bA hLx t1
      have hlt1 : w.heap.size + 1 < yV5.heap.size := lP.lt
      have hSB : ∀ W, Below yV5.heap.size yV5 W → SX V5 (w.heap.size + 1) d5 len0 len0 lim0 ⟨q0, q1, q2, q3, q4, q5⟩ W := fun W hW => ⟨fi2_cells (lx.below hW lx.lt), push_pk (lP.below hW lP.lt)⟩
      go_cut [9, 10] from 31 (fun s6 s7 wx => ∃ (V : Nat) (x : Option Addr) (c : Nat), s6 = .pointer (some ⟨V, 0, none⟩) ∧ s7 = .bool true ∧ Lies wx V #[.slice x N c, .int .i64 L] 24 ∧ yV5.heap.size ≤ V ∧ GZ yV5.heap.size wx V x N G ∧ Below yV5.heap.size yV5 wx)
      case first =>
        set_option maxRecDepth 100000 in go_region_held3 (fun w' => SX V5 (w.heap.size + 1) d5 len0 len0 lim0 ⟨q0, q1, q2, q3, q4, q5⟩ w') (first | exact hSB _ (by (repeat first | (with_reducible exact Below.refl _ _) | (with_reducible assumption) | (with_reducible apply Below.drew) | (with_reducible refine Below.setCell ?_ (by first | omega | (simp; done) | (simp; omega)) _) | (with_reducible refine Below.alloc ?_ (by first | omega | (simp; done) | (simp; omega)) _))) | fail)
          (first | (go_at_call 17; refine (toPkt_any ⟨q0, q1, q2, q3, q4, q5⟩ _).mono ?_; rintro o v3 ⟨rfl, k3⟩; have hb3 : Below yV5.heap.size yV5 v3 := Below.trans (by (repeat first | (with_reducible exact Below.refl _ _) | (with_reducible assumption) | (with_reducible apply Below.drew) | (with_reducible refine Below.setCell ?_ (by first | omega | (simp; done) | (simp; omega)) _) | (with_reducible refine Below.alloc ?_ (by first | omega | (simp; done) | (simp; omega)) _))) (k3.1.mono (by first | omega | (simp; done) | (simp; omega))); have hs3 := k3.1.size; (try simp at hs3)) | (go_at_call 18; refine (HI.out _ d5 ((PR.below (ZI.pr zx) (by (repeat first | (with_reducible exact Below.refl _ _) | (with_reducible assumption) | (with_reducible apply Below.drew) | (with_reducible refine Below.setCell ?_ (by first | omega | (simp; done) | (simp; omega)) _) | (with_reducible refine Below.alloc ?_ (by first | omega | (simp; done) | (simp; omega)) _)))).mono (by first | omega | (simp; done) | (simp; omega)))).mono ?_; rintro o v4 ⟨x4, c4, rfl, zq, b8⟩; have hb4 : Below yV5.heap.size yV5 v4 := Below.trans (by (repeat first | (with_reducible exact Below.refl _ _) | (with_reducible assumption) | (with_reducible apply Below.drew) | (with_reducible refine Below.setCell ?_ (by first | omega | (simp; done) | (simp; omega)) _) | (with_reducible refine Below.alloc ?_ (by first | omega | (simp; done) | (simp; omega)) _))) (b8.mono (by first | omega | (simp; done) | (simp; omega))); have hs4 := b8.size; have hs5 := hs4; (try simp at hs5); (first | (have vz := vz_at (vz_at (Lies.new yV5 #[.slice none 0 0, .int .i64 0] 24) k3.1 rfl).1 b8 rfl; obtain ⟨z0, z1⟩ := fi2_cells vz.1; have fz := vz.1.frozen) | (have vz := vz_at (Lies.new v3 #[.slice none 0 0, .int .i64 0] 24) b8 rfl; obtain ⟨z0, z1⟩ := fi2_cells vz.1; have fz := vz.1.frozen) | skip)))
        set_option maxRecDepth 100000 in all_goals
          (go_wp2_with fail)
          go_meet
          case rel =>
            refine ⟨_, x4, c4, rfl, rfl, ?_, ?_, ?_, ?_⟩
            · first | (with_reducible exact lies_new' rfl) | (with_reducible exact (vz.1.set0 _).set1 _)
            · first | omega | (simp; omega)
            · first | (with_reducible exact GZ.new zq (by first | omega | (simp; done) | (simp; omega)) hs4 _) | exact GZ.set zq vz.2 (by first | omega | (simp; done) | (simp; omega)) hs4 _ _
            · repeat first | (with_reducible exact hb4) | (with_reducible refine Below.setCell ?_ (by first | omega | (simp; done) | (simp; omega)) _) | (with_reducible refine Below.alloc ?_ (by first | omega | (simp; done) | (simp; omega)) _)
      obtain ⟨V7, x7, c7, rfl, rfl, lg, t7, ⟨Lg, Ug, zg, tg, t8, sg⟩, b4⟩ := hcut
      rename World => yV7
      replace lA := Lies.below lA b4 lA.lt
      replace lP := Lies.below lP b4 lP.lt
      replace lw := Lies.below lw b4 lw.lt
      replace lx := Lies.below lx b4 lx.lt
      replace zw := ZI.below zw b4
      replace zx := ZI.below zx b4
      replace B := B.trans (b4.mono B.size)
      obtain ⟨L5, hL5⟩ : ∃ n, yV5.heap.size = n := ⟨_, rfl⟩
      rw [hL5] at t6 t7 t8
      clear b4 hSB hlt1 hL5
      obtain ⟨kw0, kw1⟩ := fi2_cells lw
      obtain ⟨kg0, kg1⟩ := fi2_cells lg
      go_wp2_with (go_at_call 11; refine (eqFifo_yes x7 x4 N c7 c4 L G _ (ZI.pr zg) (ZI.pr zw) hNn).mono ?_; rintro o v8 ⟨rfl, b1⟩)
      replace lA := Lies.below lA b1 lA.lt
      replace lP := Lies.below lP b1 lP.lt
      replace lw := Lies.below lw b1 lw.lt
      replace lx := Lies.below lx b1 lx.lt
      replace lg := Lies.below lg b1 lg.lt
      replace zw := ZI.below zw b1
      replace zx := ZI.below zx b1
      replace zg := ZI.below zg b1
      replace B := B.trans (b1.mono B.size)
      replace sg := Nat.le_trans sg b1.size
      clear b1
      clear kw0 kw1 kg0 kg1
      obtain ⟨y1, y2⟩ := fi2_cells lx
      obtain ⟨k1, k2⟩ := fi2_cells lA
      go_region_held3 (fun w' => (w'.cell? ⟨V5, 0, none⟩ = some (.slice d5 len0 len0) ∧ w'.cell? ⟨V5, 1, none⟩ = some (.int .i64 lim0)) ∧ (w'.cell? ⟨w.heap.size, 0, none⟩ = some (.slice a0 len0 cap0) ∧ w'.cell? ⟨w.heap.size, 1, none⟩ = some (.int .i64 lim0))) (first | exact ⟨⟨y1, y2⟩, ⟨k1, k2⟩⟩ | go_keep | exact ⟨fi2_cells (Lies.below (W := v8.drew) lx b7 lx.lt), fi2_cells (Lies.below (W := v8.drew) lA b7 lA.lt)⟩ | exact ⟨fi2_cells ((Lies.below (W := v8.drew) lx b7 lx.lt).below b8 (Lies.below (W := v8.drew) lx b7 lx.lt).lt), fi2_cells ((Lies.below (W := v8.drew) lA b7 lA.lt).below b8 (Lies.below (W := v8.drew) lA b7 lA.lt).lt)⟩) (first | (go_at_call 16; refine (toFifo_any a0 len0 cap0 lim0 f0 _ ((PR.below HR.out B.drew).mono B.size) hn).mono ?_; rintro o v9 ⟨d9, rfl, z9, b7⟩) | (go_at_call 11; refine (eqFifo_yes d5 d9 len0 len0 len0 lim0 f0 _ ((PR.below (w := v8.drew) (ZI.pr zx) b7).mono b7.size) (ZI.pr z9) hn).mono ?_; rintro o v10 ⟨rfl, b8⟩))
      replace lA := Lies.below (W := v8.drew) lA b7 lA.lt
      replace lP := Lies.below (W := v8.drew) lP b7 lP.lt
      replace lw := Lies.below (W := v8.drew) lw b7 lw.lt
      replace lx := Lies.below (W := v8.drew) lx b7 lx.lt
      replace lg := Lies.below (W := v8.drew) lg b7 lg.lt
      replace zw := ZI.below (w := v8.drew) zw b7
      replace zx := ZI.below (w := v8.drew) zx b7
      replace zg := ZI.below (w := v8.drew) zg b7
      replace B := B.drew.trans (b7.mono B.size)
      replace sg := Nat.le_trans sg b7.size
      replace lA := Lies.below lA b8 lA.lt
      replace lP := Lies.below lP b8 lP.lt
      replace lw := Lies.below lw b8 lw.lt
      replace lx := Lies.below lx b8 lx.lt
      replace lg := Lies.below lg b8 lg.lt
      replace zw := ZI.below zw b8
      replace zx := ZI.below zx b8
      replace zg := ZI.below zg b8
      replace B := B.trans (b8.mono B.size)
      replace sg := Nat.le_trans sg b8.size
      clear b7 b8 z9 y1 y2 k1 k2
      have hk1 : decide (1 + (len0 : Int) * 6 < 0) = false := by simp; omega
      have hk2 : decide (1 + (N : Int) * 6 < 0) = false := by simp; omega
      obtain ⟨clx0, clx1⟩ := fi2_cells lx
      have hLs : Lx ≤ _ := Nat.le_of_lt (Nat.lt_of_le_of_lt (Nat.le_trans (by omega) (Nat.le_refl V7)) lg.lt)
      go_wp2_with (go_at_call 12; refine (markFifo_zi Lx V5 d5 len0 len0 lim0 (flat f0) 1 _ zx hn (by omega) (by omega)).mono ?_; rintro o v11 ⟨rfl, zn, c1⟩; obtain ⟨clg0, clg1⟩ := fi2_cells (Lies.chg lg c1 (by omega)); have clgt := (Lies.chg lg c1 (by omega)).lt; obtain ⟨clw0, clw1⟩ := fi2_cells (Lies.chg lw c1 (by omega)); have clwt := (Lies.chg lw c1 (by omega)).lt)
      replace lA := Lies.chg lA c1 (by omega)
      replace lP := Lies.chg lP c1 (by omega)
      replace lw := Lies.chg lw c1 (by omega)
      replace lx := Lies.chg lx c1 (by omega)
      replace lg := Lies.chg lg c1 (by omega)
      replace zw := ZI.chg zw c1 (by omega)
      replace zg := ZI.chg zg c1 (by omega)
      replace B := B.trans ((c1.below hLs).mono (by omega))
      replace sg := Nat.le_trans sg (c1.below hLs).size
      clear c1 hLs clg0 clg1 clgt clw0 clw1 clwt
      clear zx zn clx0 clx1
      go_wp2_with (go_at_call 11; refine (eqFifo_yes x7 x4 N c7 c4 L G _ (ZI.pr zg) (ZI.pr zw) hNn).mono ?_; rintro o v12 ⟨rfl, b1⟩; obtain ⟨clg0, clg1⟩ := fi2_cells (Lies.below lg b1 lg.lt); have clgt := (Lies.below lg b1 lg.lt).lt)
      replace lA := Lies.below lA b1 lA.lt
      replace lP := Lies.below lP b1 lP.lt
      replace lw := Lies.below lw b1 lw.lt
      replace lx := Lies.below lx b1 lx.lt
      replace lg := Lies.below lg b1 lg.lt
      replace zw := ZI.below zw b1
      replace zg := ZI.below zg b1
      replace B := B.trans (b1.mono B.size)
      replace sg := Nat.le_trans sg b1.size
      clear clg0 clg1 clgt
      clear b1
      have hLs := sg
      go_wp2_with (go_at_call 12; refine (markFifo_zi Lg Ug x7 N c7 L (flat G) 1 _ zg hNn (by omega) (by omega)).mono ?_; rintro o v13 ⟨rfl, zn, c1⟩; obtain ⟨dg0, dg1⟩ := fi2_cells (Lies.chg lg c1 (by omega)))
      replace lA := Lies.chg lA c1 (by omega)
      replace lP := Lies.chg lP c1 (by omega)
      replace lw := Lies.chg lw c1 (by omega)
      replace lx := Lies.chg lx c1 (by omega)
      replace lg := Lies.chg lg c1 (by omega)
      replace zw := ZI.chg zw c1 (by omega)
      replace B := B.trans ((c1.below hLs).mono (by omega))
      replace sg := Nat.le_trans sg (c1.below hLs).size
      replace zg := zn
      clear c1 hLs zn dg0 dg1
      go_wp2_with (go_at_call 13; refine (heldFifo_any x7 N c7 L 1 _ (ZI.row zg) hNn (by omega) (by omega)).mono ?_; rintro o v14 ⟨rfl, b1⟩; obtain ⟨clA0, clA1⟩ := fi2_cells (Lies.below lA b1 lA.lt); have clAt := (Lies.below lA b1 lA.lt).lt)
      replace lA := Lies.below lA b1 lA.lt
      replace lP := Lies.below lP b1 lP.lt
      replace lw := Lies.below lw b1 lw.lt
      replace lx := Lies.below lx b1 lx.lt
      replace lg := Lies.below lg b1 lg.lt
      replace zw := ZI.below zw b1
      replace zg := ZI.below zg b1
      replace B := B.trans (b1.mono B.size)
      replace sg := Nat.le_trans sg b1.size
      clear clA0 clA1 clAt
      clear b1 t3 t4 t5 t2 t6 t7 t8 tg
      have hlt1 : w.heap.size + 1 < v14.heap.size := lP.lt
      have hSB : ∀ W, Below v14.heap.size v14 W → SPush w.heap.size a0 len0 cap0 lim0 ⟨q0, q1, q2, q3, q4, q5⟩ W := fun W hW => ⟨fi2_cells (lA.below hW lA.lt), push_pk (lP.below hW lP.lt)⟩
      go_cut [14, 15] from 79 (fun s6 s7 wx => ∃ (V : Nat) (x : Option Addr) (c : Nat), s6 = .pointer (some ⟨V, 0, none⟩) ∧ s7 = .bool true ∧ Lies wx V #[.slice x N c, .int .i64 L] 24 ∧ v14.heap.size ≤ V ∧ PO v14.heap.size wx x N c G ∧ Below v14.heap.size v14 wx)
      case first =>
        set_option maxRecDepth 100000 in go_region_held3 (fun w' => SPush w.heap.size a0 len0 cap0 lim0 ⟨q0, q1, q2, q3, q4, q5⟩ w') (first | exact hSB _ (by (repeat first | (with_reducible exact Below.refl _ _) | (with_reducible assumption) | (with_reducible apply Below.drew) | (with_reducible refine Below.setCell ?_ (by first | omega | (simp; done) | (simp; omega)) _) | (with_reducible refine Below.alloc ?_ (by first | omega | (simp; done) | (simp; omega)) _))) | fail)
          (first | (go_at_call 16; refine (toFifo_any a0 len0 cap0 lim0 f0 _ ((PR.below HR.out (by (repeat first | (with_reducible exact Below.refl _ _) | (with_reducible assumption) | (with_reducible apply Below.drew) | (with_reducible refine Below.setCell ?_ (by first | omega | (simp; done) | (simp; omega)) _) | (with_reducible refine Below.alloc ?_ (by first | omega | (simp; done) | (simp; omega)) _)))).mono (by first | omega | (simp; done) | (simp; omega))) hn).mono ?_; rintro o v2 ⟨d2, rfl, z2, b7⟩; have hb2 : Below v14.heap.size v14 v2 := Below.trans (by (repeat first | (with_reducible exact Below.refl _ _) | (with_reducible assumption) | (with_reducible apply Below.drew) | (with_reducible refine Below.setCell ?_ (by first | omega | (simp; done) | (simp; omega)) _) | (with_reducible refine Below.alloc ?_ (by first | omega | (simp; done) | (simp; omega)) _))) (b7.mono (by first | omega | (simp; done) | (simp; omega))); have hs2 := b7.size; (try simp at hs2)) | (go_at_call 17; refine (toPkt_any ⟨q0, q1, q2, q3, q4, q5⟩ _).mono ?_; rintro o v3 ⟨rfl, k3⟩; have hb3 : Below v14.heap.size v14 v3 := Below.trans (by (repeat first | (with_reducible exact Below.refl _ _) | (with_reducible assumption) | (with_reducible apply Below.drew) | (with_reducible refine Below.setCell ?_ (by first | omega | (simp; done) | (simp; omega)) _) | (with_reducible refine Below.alloc ?_ (by first | omega | (simp; done) | (simp; omega)) _))) (k3.1.mono (by first | omega | (simp; done) | (simp; omega))); have hb23 : Below v2.heap.size v2 v3 := Below.trans (by (repeat first | (with_reducible exact Below.refl _ _) | (with_reducible assumption) | (with_reducible apply Below.drew) | (with_reducible refine Below.setCell ?_ (by first | omega | (simp; done) | (simp; omega)) _) | (with_reducible refine Below.alloc ?_ (by first | omega | (simp; done) | (simp; omega)) _))) (k3.1.mono (by first | omega | (simp; done) | (simp; omega))); have hs3 := k3.1.size; (try simp at hs3)) | (go_at_call 18; refine (HI.out _ d2 ((PR.below (ZI.pr z2) (by (repeat first | (with_reducible exact Below.refl _ _) | (with_reducible assumption) | (with_reducible apply Below.drew) | (with_reducible refine Below.setCell ?_ (by first | omega | (simp; done) | (simp; omega)) _) | (with_reducible refine Below.alloc ?_ (by first | omega | (simp; done) | (simp; omega)) _)))).mono (by first | omega | (simp; done) | (simp; omega)))).mono ?_; rintro o v4 ⟨x4, c4, rfl, zq, b8⟩; have hb4 : Below v14.heap.size v14 v4 := Below.trans (by (repeat first | (with_reducible exact Below.refl _ _) | (with_reducible assumption) | (with_reducible apply Below.drew) | (with_reducible refine Below.setCell ?_ (by first | omega | (simp; done) | (simp; omega)) _) | (with_reducible refine Below.alloc ?_ (by first | omega | (simp; done) | (simp; omega)) _))) (b8.mono (by first | omega | (simp; done) | (simp; omega))); have hs4 := b8.size; (try simp at hs4); have hpo : PO v14.heap.size v4 x4 N c4 G := zq.mono (by first | omega | (simp; done) | (simp; omega)); (first | (have vz := vz_at (vz_at (vz_at (Lies.new v14 #[.slice none 0 0, .int .i64 0] 24) b7 rfl).1 k3.1 rfl).1 b8 rfl; obtain ⟨z0, z1⟩ := fi2_cells vz.1; have fz := vz.1.frozen) | (have vz := vz_at (vz_at (Lies.new v2 #[.slice none 0 0, .int .i64 0] 24) k3.1 rfl).1 b8 rfl; obtain ⟨z0, z1⟩ := fi2_cells vz.1; have fz := vz.1.frozen) | (have vz := vz_at (Lies.new v3 #[.slice none 0 0, .int .i64 0] 24) b8 rfl; obtain ⟨z0, z1⟩ := fi2_cells vz.1; have fz := vz.1.frozen) | skip)))
        set_option maxRecDepth 100000 in all_goals
          (go_wp2_with fail)
          go_meet
          case rel =>
            refine ⟨_, x4, c4, rfl, rfl, ?_, ?_, ?_, ?_⟩
            · first | (with_reducible exact lies_new' rfl) | (with_reducible exact (vz.1.set0 _).set1 _)
            · first | omega | (simp; omega)
            · first | (with_reducible exact po_alloc hpo _) | exact ((zq.far vz.2 _ _).far vz.2 _ _).mono (by first | omega | (simp; done) | (simp; omega))
            · repeat first | (with_reducible exact hb4) | (with_reducible refine Below.setCell ?_ (by first | omega | (simp; done) | (simp; omega)) _) | (with_reducible refine Below.alloc ?_ (by first | omega | (simp; done) | (simp; omega)) _)
      obtain ⟨V17, x17, c17, rfl, rfl, ln, t4, zh, b4⟩ := hcut
      rename World => yV17
      replace lA := Lies.below lA b4 lA.lt
      replace lP := Lies.below lP b4 lP.lt
      replace lw := Lies.below lw b4 lw.lt
      replace lx := Lies.below lx b4 lx.lt
      replace lg := Lies.below lg b4 lg.lt
      replace zw := ZI.below zw b4
      replace zg := ZI.below zg b4
      replace B := B.trans (b4.mono B.size)
      replace sg := Nat.le_trans sg b4.size
      replace zh := PO.zi zh
      clear b4 hSB hlt1
      obtain ⟨kw0, kw1⟩ := fi2_cells lw
      obtain ⟨kn0, kn1⟩ := fi2_cells ln
      obtain ⟨kg0, kg1⟩ := fi2_cells lg
      go_wp2_with (go_at_call 11; refine (eqFifo_yes x17 x4 N c17 c4 L G _ (ZI.pr zh) (ZI.pr zw) hNn).mono ?_; rintro o v18 ⟨rfl, b1⟩; obtain ⟨clg0, clg1⟩ := fi2_cells (Lies.below lg b1 lg.lt); have clgt := (Lies.below lg b1 lg.lt).lt)
      replace lA := Lies.below lA b1 lA.lt
      replace lP := Lies.below lP b1 lP.lt
      replace lw := Lies.below lw b1 lw.lt
      replace lx := Lies.below lx b1 lx.lt
      replace lg := Lies.below lg b1 lg.lt
      replace ln := Lies.below ln b1 ln.lt
      replace zw := ZI.below zw b1
      replace zg := ZI.below zg b1
      replace zh := ZI.below zh b1
      replace B := B.trans (b1.mono B.size)
      replace sg := Nat.le_trans sg b1.size
      clear clg0 clg1 clgt
      clear b1
      go_wp2_with (go_at_call 13; refine (heldFifo_any x7 N c7 L 1 _ (ZI.row zg) hNn (by omega) (by omega)).mono ?_; rintro o v20 ⟨rfl, b1⟩)
      replace lA := Lies.below lA b1 lA.lt
      replace lP := Lies.below lP b1 lP.lt
      replace lw := Lies.below lw b1 lw.lt
      replace lx := Lies.below lx b1 lx.lt
      replace lg := Lies.below lg b1 lg.lt
      replace ln := Lies.below ln b1 ln.lt
      replace zw := ZI.below zw b1
      replace zg := ZI.below zg b1
      replace zh := ZI.below zh b1
      replace B := B.trans (b1.mono B.size)
      replace sg := Nat.le_trans sg b1.size
      go_ret
      exact ⟨rfl, B⟩

section
variable {H : Type} {enc : TypeId × Value → H} {W : World} {base : Nat} {sp : Nat → Bool} {held : Bool}

theorem openInt {n : Nat} {c : Value} {y : DataW H × List MemPlace} (h : DataW.trod enc Try.prog W base sp held n 3 [c] = some y) : ∃ z : Int, c = .int .i64 z ∧ (-9223372036854775808 ≤ z ∧ z ≤ 9223372036854775807) := by
  obtain ⟨z, h1, _, hw⟩ := DataW.trod_int Try.underlying3 h
  simp only [List.cons.injEq, and_true] at h1
  exact ⟨z, h1, bd hw⟩

theorem openPkt {fuel : Nat} {cs : List Value} {x : DataW H × List MemPlace} (h : DataW.trod enc Try.prog W base sp held fuel 34 cs = some x) :
    ∃ r : Pk, r.In ∧ cs = [.int .i64 r.id, .int .i64 r.flow, .int .i64 r.host, .int .i64 r.size, .int .i64 r.tm, .int .i64 r.ecn] := by
  obtain ⟨xs, n, rfl, hx, hl, hxl, hall⟩ := DataW.trod_struct Try.underlying34 h
  rw [cellsPkt] at hl
  match cs, hl with
  | [c0, c1, c2, c3, c4, c5], _ =>
  match xs, hxl with
  | [y0, y1, y2, y3, y4, y5], _ =>
  have b0 : DataW.trod enc Try.prog W base sp held n 3 (([c0, c1, c2, c3, c4, c5].drop 0).take (Try.prog.cellsOf 3)) = some y0 := hall 0 _ rfl
  rw [cellsInt] at b0
  replace b0 : DataW.trod enc Try.prog W base sp held n 3 [c0] = some y0 := b0
  have b1 : DataW.trod enc Try.prog W base sp held n 3 (([c0, c1, c2, c3, c4, c5].drop 1).take (Try.prog.cellsOf 3)) = some y1 := hall 1 _ rfl
  rw [cellsInt] at b1
  replace b1 : DataW.trod enc Try.prog W base sp held n 3 [c1] = some y1 := b1
  have b2 : DataW.trod enc Try.prog W base sp held n 3 (([c0, c1, c2, c3, c4, c5].drop 2).take (Try.prog.cellsOf 3)) = some y2 := hall 2 _ rfl
  rw [cellsInt] at b2
  replace b2 : DataW.trod enc Try.prog W base sp held n 3 [c2] = some y2 := b2
  have b3 : DataW.trod enc Try.prog W base sp held n 3 (([c0, c1, c2, c3, c4, c5].drop 3).take (Try.prog.cellsOf 3)) = some y3 := hall 3 _ rfl
  rw [cellsInt] at b3
  replace b3 : DataW.trod enc Try.prog W base sp held n 3 [c3] = some y3 := b3
  have b4 : DataW.trod enc Try.prog W base sp held n 3 (([c0, c1, c2, c3, c4, c5].drop 4).take (Try.prog.cellsOf 3)) = some y4 := hall 4 _ rfl
  rw [cellsInt] at b4
  replace b4 : DataW.trod enc Try.prog W base sp held n 3 [c4] = some y4 := b4
  have b5 : DataW.trod enc Try.prog W base sp held n 3 (([c0, c1, c2, c3, c4, c5].drop 5).take (Try.prog.cellsOf 3)) = some y5 := hall 5 _ rfl
  rw [cellsInt] at b5
  replace b5 : DataW.trod enc Try.prog W base sp held n 3 [c5] = some y5 := b5
  obtain ⟨z0, rfl, i0⟩ := openInt (y := y0) b0
  obtain ⟨z1, rfl, i1⟩ := openInt (y := y1) b1
  obtain ⟨z2, rfl, i2⟩ := openInt (y := y2) b2
  obtain ⟨z3, rfl, i3⟩ := openInt (y := y3) b3
  obtain ⟨z4, rfl, i4⟩ := openInt (y := y4) b4
  obtain ⟨z5, rfl, i5⟩ := openInt (y := y5) b5
  exact ⟨⟨z0, z1, z2, z3, z4, z5⟩, ⟨i0, i1, i2, i3, i4, i5⟩, rfl⟩

theorem openPkts {fuel : Nat} {cs : List Value} {x : DataW H × List MemPlace} (h : DataW.trod enc Try.prog W base sp held fuel 30 cs = some x) :
    ∃ (a : Option Addr) (len cap : Nat) (f : Nat → Pk), cs = [.slice a len cap] ∧ len ≤ cap ∧ cap ≤ maxLen ∧ PR W.heap.size W a len f ∧ ∀ i, i < len → (f i).In := by
  rcases Go.Deep.open_slice Try.underlying30 h with ⟨rfl, _⟩ | ⟨a, len, cap, m, n, D, Pl, rfl, hb, hl, hm, hmm, _, hx⟩
  · exact ⟨none, 0, 0, fun _ => default, rfl, Nat.le_refl _, Nat.zero_le _, .inl rfl, fun i hi => absurd hi (Nat.not_lt_zero _)⟩
  · have hlm : len ≤ m := by rw [hmm]; split <;> omega
    have each : ∀ i, i < len → ∃ r : Pk, r.In ∧ (∀ t, t < 6 → W.cell? ((a.add (i * 6)).add t) = some (.int .i64 (r.nth t))) := by
      intro i hi
      obtain ⟨cs', h1, h2⟩ := hx i (by omega)
      rw [cellsPkt] at h1
      obtain ⟨_, hlen, hcell⟩ := World.cells?_some h1
      obtain ⟨r, hr, rfl⟩ := openPkt h2
      refine ⟨r, hr, fun t ht => ?_⟩
      have := hcell t (by omega)
      rw [this]
      have hc : t = 0 ∨ t = 1 ∨ t = 2 ∨ t = 3 ∨ t = 4 ∨ t = 5 := by omega
      rcases hc with rfl | rfl | rfl | rfl | rfl | rfl <;> rfl
    obtain ⟨f, hf⟩ := Go.Deep.choose_lt each
    refine ⟨some a, len, cap, f, rfl, hl, hm, ?_, fun i hi => (hf i hi).1⟩
    by_cases h0 : len = 0
    · exact .inl h0
    · obtain ⟨b, off, inner⟩ := a
      have hc0 := (hf 0 (by omega)).2 0 (by omega)
      have hin : inner = none := by simpa [Addr.add] using World.cell?_spot hc0
      subst hin
      refine .inr ⟨b, off, rfl, World.block_lt_of_cell? W _ hc0, fun i hi => ?_⟩
      have hh : ∀ t, t < 6 → W.cell? ⟨b, off + i * 6 + t, none⟩ = some (.int .i64 ((f i).nth t)) := fun t ht => by
        have := (hf i hi).2 t ht
        rw [Go.WideShapes.add_plain, Go.WideShapes.add_plain] at this
        exact this
      exact ⟨hh 0 (by omega), hh 1 (by omega), hh 2 (by omega), hh 3 (by omega), hh 4 (by omega), hh 5 (by omega)⟩

theorem openFifo {fuel : Nat} {cs : List Value} {x : DataW H × List MemPlace} (h : DataW.trod enc Try.prog W base sp held fuel 32 cs = some x) :
    ∃ (a : Option Addr) (len cap : Nat) (lim : Int) (f : Nat → Pk), FifoIn W a len cap lim f ∧ cs = [.slice a len cap, .int .i64 lim] := by
  obtain ⟨xs, n, rfl, hx, hl, hxl, hall⟩ := DataW.trod_struct Try.underlying32 h
  rw [cellsFifo] at hl
  match cs, hl with
  | [c0, c1], _ =>
  match xs, hxl with
  | [y0, y1], _ =>
  have b0 : DataW.trod enc Try.prog W base sp held n 30 (([c0, c1].drop 0).take (Try.prog.cellsOf 30)) = some y0 := hall 0 _ rfl
  rw [cellsSlice] at b0
  replace b0 : DataW.trod enc Try.prog W base sp held n 30 [c0] = some y0 := b0
  have b1 : DataW.trod enc Try.prog W base sp held n 3 (([c0, c1].drop 1).take (Try.prog.cellsOf 3)) = some y1 := hall 1 _ rfl
  rw [cellsInt] at b1
  replace b1 : DataW.trod enc Try.prog W base sp held n 3 [c1] = some y1 := b1
  obtain ⟨z, rfl, iz⟩ := openInt (y := y1) b1
  obtain ⟨a, len, cap, f, hs, h1, h2, h3, h4⟩ := openPkts (x := y0) b0
  simp only [List.cons.injEq, and_true] at hs
  subst hs
  exact ⟨a, len, cap, z, f, ⟨iz, h1, h2, h3, h4⟩, rfl⟩

end

set_option maxRecDepth 100000 in
theorem lifted (os : Os) (started : os.Started) (H : Type) (enc : TypeId × Value → H) :
    ReturnsInHanded {} Try.checked os 4 .any (Rows.fnExactPushSpec.pre6 enc Try.prog Try.f4 Rows.fnExactPushRow.domain false) (Rows.fnExactPushSpec.post enc Try.prog Try.f4 false true false false) := by
  refine returnsInHanded_of_change (C := Try.checked) own started (by kernel_rfl) Try.func4
    (ChangeSpec.witness6 (enc := enc) (C := Try.checked) false ⟨#[], #[.agg #[.slice none 0 0, .int .i64 0], .agg #[.int .i64 0, .int .i64 0, .int .i64 0, .int .i64 0, .int .i64 0, .int .i64 0]], []⟩ 8 (by kernel_rfl) (by kernel_rfl) (by kernel_rfl) (by kernel_rfl)) ?_
  intro W base args ds gs before hval0 hW hcnd _
  have hval : ∀ (j : Nat) t v, Try.f4.params[j]? = some t → args[j]? = some v → Value.okWide Try.prog W .any base t v := hval0
  have hW' := hW
  obtain ⟨p, q, hA0, hV, rfl, hfz, hnd⟩ := hW
  have hA : DataW.TrodAll enc Try.prog W 0 (fun _ => true) true Try.f4.params.toList args.toList ds p := hA0
  rw [Try.params4] at hA hval
  obtain ⟨v0, vs0, d0, ds0, p0, q0, hargs, rfl, rfl, h0, r0⟩ := trodAll_cons hA
  obtain ⟨v1, vs1, d1, ds1, p1, q1, rfl, rfl, rfl, h1, r1⟩ := trodAll_cons r0
  obtain ⟨rfl, rfl, rfl⟩ := trodAll_nil r1
  obtain rfl : args = #[v0, v1] := by cases args; simp_all
  obtain ⟨rfl, rfl⟩ := trodVars_none hV
  have k0 := h0
  have lt0 : ∀ x ∈ p0, x.block < W.heap.size := by obtain ⟨m, hm⟩ := k0; exact DataW.trod_lt m _ _ _ hm
  have k1 := h1
  have lt1 : ∀ x ∈ p1, x.block < W.heap.size := by obtain ⟨m, hm⟩ := k1; exact DataW.trod_lt m _ _ _ hm
  obtain ⟨cs0, rfl, hcs0⟩ := okWide_struct Try.underlying32 (hval 0 32 v0 rfl rfl)
  obtain ⟨a0, len0, cap0, lim0, f0, hin0, hrc0⟩ : ∃ (a : Option Addr) (len cap : Nat) (lim : Int) (f : Nat → Pk), FifoIn W a len cap lim f ∧ cs0 = #[.slice a len cap, .int .i64 lim] := by
    obtain ⟨fuel, hf⟩ := h0
    obtain ⟨a, len, cap, lim, f, hin, hcs'⟩ := openFifo hf
    have hc2 : cs0 = (cs0.toList).toArray := by simp
    have hcl : cs0.toList = [.slice a len cap, .int .i64 lim] := by simpa [Value.cells] using hcs'
    rw [hcl] at hc2
    exact ⟨a, len, cap, lim, f, hin, hc2⟩
  subst hrc0
  obtain ⟨cs1, rfl, hcs1⟩ := okWide_struct Try.underlying34 (hval 1 34 v1 rfl rfl)
  obtain ⟨p1, hin1, hrc1⟩ : ∃ p1 : Pk, p1.In ∧ cs1 = #[.int .i64 p1.id, .int .i64 p1.flow, .int .i64 p1.host, .int .i64 p1.size, .int .i64 p1.tm, .int .i64 p1.ecn] := by
    obtain ⟨fuel, hf⟩ := h1
    obtain ⟨r, hin, hcs'⟩ := openPkt hf
    have hc2 : cs1 = (cs1.toList).toArray := by simp
    have hcl : cs1.toList = [.int .i64 r.id, .int .i64 r.flow, .int .i64 r.host, .int .i64 r.size, .int .i64 r.tm, .int .i64 r.ecn] := by simpa [Value.cells] using hcs'
    rw [hcl] at hc2
    exact ⟨r, hin, hc2⟩
  subst hrc1
  clear hA0 hval0
  refine (walk a0 len0 cap0 lim0 f0 p1 hin1 W hin0).mono fun e W' ⟨he, bel⟩ => ?_
  subst he
  exact ⟨_, rfl, _, _, _, [], _, [], hW', trodAll_mk1 (shut_bool Try.underlying4 _), (trodAll_cons_mk (Below.trod laidOut (by kernel_rfl) (of_decide_eq_true (by kernel_rfl)) k0 bel lt0) (trodAll_cons_mk (Below.trod laidOut (by kernel_rfl) (of_decide_eq_true (by kernel_rfl)) k1 bel lt1) trodAll_mk0)), rfl, bel.frame _, fun h => by cases h⟩

theorem over : Rows.fnExactPushRow.holds Try.pinned (OpenSpec.ofChange Rows.fnExactPushSpec) :=
  OpenClaim.holds_of_wide 4 Try.f4 rfl rfl rfl rfl rfl rfl rfl ⟨rfl, rfl, rfl, rfl, rfl⟩ rfl rfl rfl rfl rfl (by kernel_rfl) Try.func4 (by kernel_rfl)
    (of_decide_eq_true (by kernel_rfl)) (by unfold Func.isWrapper; first | (rw [if_pos (by decide +kernel)]; kernel_rfl) | (rw [if_neg (by decide +kernel)]; exact ⟨rfl, rfl⟩))
    (fun os started H enc _ => lifted os started H enc)

theorem proved : Rows.FnExactPushSaid := over
end Go.Proofs.Ytfjdlfoonjnllak.fnExactPush
namespace Go.Proofs.Ytfjdlfoonjnllak
theorem fnExactPush_holds : Rows.FnExactPushSaid := fnExactPush.proved
#print axioms fnExactPush_holds
end Go.Proofs.Ytfjdlfoonjnllak
