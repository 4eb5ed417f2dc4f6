/-
  Whatever Codel, queue and moment the law FnExactLate is given, it returns true and leaves all that lay as it was: the program's Late answers as the specification's; no condition.
-/
import Derived.Test.YtgmecbjdiinkiamRows
import Derived.WalkKit
import Derived.ProofKit
import Derived.OpenShut
import Derived.Test.YtgmecbjdiinkiamLateL
import Derived.Deep.RegionHeld3
import Derived.Deep.Cut
import Derived.Deep.Slices
import Derived.ShutString
import Derived.ChangeOld
import Derived.Below
namespace Go.Proofs.Ytgmecbjdiinkiam.fnExactLate
open Go.ChangeShapes Go.WideShapes Go.ChangeAt Go.RowKit
open Go.ChangeMaps (open_string shut_string)
set_option linter.unusedVariables false

theorem own : ownKnob Try.prog.godebug = none := by kernel_rfl
theorem laidOut : laidOutB Try.prog = true := by kernel_rfl
theorem cellsInt : Try.prog.cellsOf 3 = 1 := by kernel_rfl
theorem cellsCodel : Try.prog.cellsOf 23 = 7 := by kernel_rfl
theorem cellsBool : Try.prog.cellsOf 4 = 1 := by kernel_rfl
theorem cellsPkt : Try.prog.cellsOf 79 = 6 := by kernel_rfl
theorem cellsFifo : Try.prog.cellsOf 36 = 2 := by kernel_rfl
theorem cellsSlice : Try.prog.cellsOf 34 = 1 := by kernel_rfl


set_option maxHeartbeats 4000000 in
theorem walk (r0 : Cd) (w0 : r0.In) (a1 : Option Addr) (len1 cap1 : Nat) (lim1 : Int) (f1 : Nat → Pk) (z2 : Int) (w2 : (-9223372036854775808 ≤ z2 ∧ z2 ≤ 9223372036854775807)) (w : World) (w1 : FifoIn w a1 len1 cap1 lim1 f1) :
    Calls Try.prog 6 #[r0.val, .agg #[.slice a1 len1 cap1, .int .i64 lim1], .int .i64 z2] w fun e w' => e = .returned (.bool true) ∧ Below w.heap.size w w' := by
  obtain ⟨hlim, hcap, hmx, hrow, hin⟩ := w1
  have hmax : (len1 : Int) ≤ 9223372036854775807 := by unfold maxLen at hmx; omega
  have HR : Hid (PR w.heap.size w a1 len1 f1) := hrow
  clear hrow hin hmx
  by_cases hbig : 1048576 < (len1 : Int)
  · go_enter Try.func6, Try.ntmps6
    go_wp2_with (go_at_call 17; refine (szFifo_any a1 len1 cap1 lim1 1048576 _ hmax (by omega) (by omega)).mono ?_; rintro o wv1 ⟨rfl, b1⟩; rw [if_pos hbig])
    go_ret
    exact ⟨rfl, (((Below.refl w.heap.size w).alloc (Nat.le_refl _) _).alloc (by simp) _).trans (b1.mono (by simp; omega))⟩
  · have hn : len1 ≤ 1048576 := by omega
    have hsz : decide (1048576 - (len1 : Int) < 0) = false := by simp; omega
    obtain ⟨q, hq⟩ : ∃ q, lateQ r0 f1 len1 lim1 z2 = q := ⟨_, rfl⟩
    obtain ⟨ok, hok⟩ : ∃ b, (lookB r0 f1 len1 lim1 z2 && lateB r0 f1 len1 z2) = b := ⟨_, rfl⟩
    have HS : Hid (∀ (W : World) (d : Option Addr), PR W.heap.size W d len1 f1 → Calls Try.prog 18 #[r0.val, fiVal d len1 len1 lim1, .int .i64 z2] W fun e w' => e = .returned (.tuple #[q.val, .bool ok]) ∧ Below W.heap.size W w') := fun W d hd => by
      refine (slate_any r0 d len1 len1 f1 lim1 z2 W hn (Nat.le_refl _) hd w2.1 w2.2).mono ?_
      rintro e w' ⟨rfl, hb⟩
      rw [hq, hok]
      exact ⟨rfl, hb⟩
    have HI : Hid (∀ (W : World) (d : Option Addr), PR W.heap.size W d len1 f1 → Calls Try.prog 20 #[r0.val, fiVal d len1 len1 lim1, .int .i64 z2] W fun e w' => e = .returned (.tuple #[q.val, .bool ok]) ∧ Below W.heap.size W w') := fun W d hd => by
      refine (ilate_any r0 d len1 len1 f1 lim1 z2 W hn (Nat.le_refl _) hd w2.1 w2.2).mono ?_
      rintro e w' ⟨rfl, hb⟩
      rw [hq, hok]
      exact ⟨rfl, hb⟩
    clear hq hok
    obtain ⟨W0, hW0⟩ : ∃ W, (w.alloc (.cells #[.int .i64 r0.tg, .int .i64 r0.iv, .int .i64 r0.fi, .int .i64 r0.nx, .int .i64 r0.ct, .int .i64 r0.la, .bool r0.dr] 23)).alloc (.cells #[.slice a1 len1 cap1, .int .i64 lim1] 36) = W := ⟨_, rfl⟩
    have lC : Sits W0 w.heap.size (cdCells r0) 23 := by rw [← hW0]; exact (Sits.new _ _ _).alloc _
    have lA : Lies W0 (w.heap.size + 1) #[.slice a1 len1 cap1, .int .i64 lim1] 36 := by rw [← hW0]; have := Lies.new (w.alloc (.cells (cdCells r0) 23)) #[.slice a1 len1 cap1, .int .i64 lim1] 36; simp only [World.size_alloc] at this; exact this
    have B : Below w.heap.size w W0 := by rw [← hW0]; exact ((Below.refl _ _).alloc (Nat.le_refl _) _).alloc (by simp) _
    obtain ⟨ka0, ka1⟩ := fi2_cells lA
    cases ok
    case false =>
      go_enter Try.func6, Try.ntmps6
      go_wp2_with (go_at_call 17; refine (szFifo_any a1 len1 cap1 lim1 1048576 _ hmax (by omega) (by omega)).mono ?_; rintro o v1 ⟨rfl, b1⟩; rw [if_neg hbig]; obtain ⟨k0, k1⟩ := fi2_cells (lA.below b1 lA.lt); obtain ⟨c0, c1, c2, c3, c4, c5, c6⟩ := cd_cells (lC.below b1 lC.lt))
      replace lC := Sits.below lC b1 lC.lt
      replace lA := Lies.below lA b1 lA.lt
      replace B := B.trans (b1.mono B.size)
      clear b1 hW0 ka0 ka1 k0 k1 c0 c1 c2 c3 c4 c5 c6
      have hlt0 : w.heap.size < v1.heap.size := lC.lt
      have hSB : ∀ W, Below v1.heap.size v1 W → SL w.heap.size r0 (w.heap.size + 1) a1 len1 cap1 lim1 W := fun W hW => ⟨cd_cells (lC.below hW lC.lt), fi2_cells (lA.below hW lA.lt)⟩
      go_cut [8, 9] from 18 (fun s6 s7 wx => ∃ V : Nat, s6 = .pointer (some ⟨V, 0, none⟩) ∧ s7 = .bool false ∧ Sits wx V (cdCells q) 25 ∧ v1.heap.size ≤ V ∧ Below v1.heap.size v1 wx)
      case first =>
        set_option maxRecDepth 100000 in go_region_held3 (fun w' => SL w.heap.size r0 (w.heap.size + 1) a1 len1 cap1 lim1 w') (first | exact hSB _ (by (repeat first | (with_reducible exact Below.refl _ _) | (with_reducible assumption) | (with_reducible apply Below.drew) | (with_reducible refine Below.setCell ?_ (by first | omega | (simp; done) | (simp; omega)) _) | (with_reducible refine Below.alloc ?_ (by first | omega | (simp; done) | (simp; omega)) _))) | fail)
          (first | (go_at_call 10; refine (toCodel_any r0 _).mono ?_; rintro o v2 ⟨rfl, k2⟩; have hb2 : Below v1.heap.size v1 v2 := Below.trans (by (repeat first | (with_reducible exact Below.refl _ _) | (with_reducible assumption) | (with_reducible apply Below.drew) | (with_reducible refine Below.setCell ?_ (by first | omega | (simp; done) | (simp; omega)) _) | (with_reducible refine Below.alloc ?_ (by first | omega | (simp; done) | (simp; omega)) _))) (k2.1.mono (by first | omega | (simp; done) | (simp; omega))); have hB2 : Below w.heap.size w v2 := B.trans (hb2.mono B.size); have hs2 := k2.1.size; (try simp at hs2)) | (go_at_call 19; refine (toFifo_any a1 len1 cap1 lim1 f1 _ ((PR.below HR.out (by (repeat first | (with_reducible exact Below.refl _ _) | (with_reducible assumption) | (with_reducible apply Below.drew) | (with_reducible refine Below.setCell ?_ (by first | omega | (simp; done) | (simp; omega)) _) | (with_reducible refine Below.alloc ?_ (by first | omega | (simp; done) | (simp; omega)) _)))).mono (by first | omega | (simp; done) | (simp; omega))) hn).mono ?_; rintro o v3 ⟨d3, rfl, y3, b7⟩; have hb3 : Below v1.heap.size v1 v3 := Below.trans (by (repeat first | (with_reducible exact Below.refl _ _) | (with_reducible assumption) | (with_reducible apply Below.drew) | (with_reducible refine Below.setCell ?_ (by first | omega | (simp; done) | (simp; omega)) _) | (with_reducible refine Below.alloc ?_ (by first | omega | (simp; done) | (simp; omega)) _))) (b7.mono (by first | omega | (simp; done) | (simp; omega))); have hs3 := b7.size; (try simp at hs3)) | (go_at_call 18; refine (HS.out _ d3 ((PR.below (ZI.pr y3) (by (repeat first | (with_reducible exact Below.refl _ _) | (with_reducible assumption) | (with_reducible apply Below.drew) | (with_reducible refine Below.setCell ?_ (by first | omega | (simp; done) | (simp; omega)) _) | (with_reducible refine Below.alloc ?_ (by first | omega | (simp; done) | (simp; omega)) _)))).mono (by first | omega | (simp; done) | (simp; omega)))).mono ?_; rintro o v4 ⟨rfl, b8⟩; have hb4 : Below v1.heap.size v1 v4 := Below.trans (by (repeat first | (with_reducible exact Below.refl _ _) | (with_reducible assumption) | (with_reducible apply Below.drew) | (with_reducible refine Below.setCell ?_ (by first | omega | (simp; done) | (simp; omega)) _) | (with_reducible refine Below.alloc ?_ (by first | omega | (simp; done) | (simp; omega)) _))) (b8.mono (by first | omega | (simp; done) | (simp; omega))); have hs4 := b8.size; (try simp at hs4); (first | (have vz := sv_at (sv_at (sv_at (Sits.new v1 (cdCells ⟨0, 0, 0, 0, 0, 0, false⟩) 25) k2.1 rfl).1 b7 rfl).1 b8 rfl; obtain ⟨z0, z1, z3, z4, z5, z6, z7⟩ := cd_cells vz.1; have fz := vz.1.frozen; dsimp only at z0 z1 z3 z4 z5 z6 z7) | (have vz := sv_at (sv_at (Sits.new v2 (cdCells ⟨0, 0, 0, 0, 0, 0, false⟩) 25) b7 rfl).1 b8 rfl; obtain ⟨z0, z1, z3, z4, z5, z6, z7⟩ := cd_cells vz.1; have fz := vz.1.frozen; dsimp only at z0 z1 z3 z4 z5 z6 z7) | (have vz := sv_at (Sits.new v3 (cdCells ⟨0, 0, 0, 0, 0, 0, false⟩) 25) b8 rfl; obtain ⟨z0, z1, z3, z4, z5, z6, z7⟩ := cd_cells vz.1; have fz := vz.1.frozen; dsimp only at z0 z1 z3 z4 z5 z6 z7) | skip)))
        set_option maxRecDepth 100000 in all_goals
          (go_wp2_with fail)
          go_meet
          case rel =>
            refine ⟨_, rfl, rfl, ?_, ?_, ?_⟩
            · first | (with_reducible exact sits_new' rfl) | exact (((((((vz.1.set 0 _).set 1 _).set 2 _).set 3 _).set 4 _).set 5 _).set 6 _)
            · first | omega | (simp; omega)
            · repeat first | (with_reducible exact hb4) | (with_reducible refine Below.setCell ?_ (by first | omega | (simp; done) | (simp; omega)) _) | (with_reducible refine Below.alloc ?_ (by first | omega | (simp; done) | (simp; omega)) _)
      obtain ⟨V4, rfl, rfl, lw, t4, b4⟩ := hcut
      rename World => y4
      replace lC := Sits.below lC b4 lC.lt
      replace lA := Lies.below lA b4 lA.lt
      replace B := B.trans (b4.mono B.size)
      clear b4 hSB hlt0
      obtain ⟨ka0, ka1⟩ := fi2_cells lA
      have HR' : Hid (PR _ _ a1 len1 f1) := (PR.below HR.out B).mono B.size
      go_wp2_with (go_at_call 19; refine (toFifo_any a1 len1 cap1 lim1 f1 _ HR'.out hn).mono ?_; rintro o v5 ⟨d5, rfl, zx, b1⟩)
      replace lC := Sits.below lC b1 lC.lt
      replace lw := Sits.below lw b1 lw.lt
      replace lA := Lies.below lA b1 lA.lt
      replace B := B.trans (b1.mono B.size)
      clear b1 HR' ka0 ka1
      obtain ⟨V5, hV⟩ : ∃ V, v5.heap.size = V := ⟨_, rfl⟩
      obtain ⟨y5, hA⟩ : ∃ x, v5.alloc (.cells #[.slice d5 len1 len1, .int .i64 lim1] 41) = x := ⟨_, rfl⟩
      have lx : Lies y5 V5 #[.slice d5 len1 len1, .int .i64 lim1] 41 := by rw [← hA, ← hV]; exact Lies.new _ _ _
      have bA : Below v5.heap.size v5 y5 := by rw [← hA]; go_grown
      replace lC := Sits.below lC bA lC.lt
      replace lw := Sits.below lw bA lw.lt
      replace lA := Lies.below lA bA lA.lt
      replace zx := ZI.below zx bA
      replace B := B.trans (bA.mono B.size)
      rw [hA, hV]
      clear hA hV bA
      obtain ⟨c0, c1, c2, c3, c4, c5, c6⟩ := cd_cells lC
      clear c0 c1 c2 c3 c4 c5 c6
      have hlt0 : w.heap.size < y5.heap.size := lC.lt
      have hSB : ∀ W, Below y5.heap.size y5 W → SL w.heap.size r0 V5 d5 len1 len1 lim1 W := fun W hW => ⟨cd_cells (lC.below hW lC.lt), fi2_cells (lx.below hW lx.lt)⟩
      go_cut [11, 12] from 30 (fun s6 s7 wx => ∃ V : Nat, s6 = .pointer (some ⟨V, 0, none⟩) ∧ s7 = .bool false ∧ Sits wx V (cdCells q) 25 ∧ y5.heap.size ≤ V ∧ Below y5.heap.size y5 wx)
      case first =>
        set_option maxRecDepth 100000 in go_region_held3 (fun w' => SL w.heap.size r0 V5 d5 len1 len1 lim1 w') (first | exact hSB _ (by (repeat first | (with_reducible exact Below.refl _ _) | (with_reducible assumption) | (with_reducible apply Below.drew) | (with_reducible refine Below.setCell ?_ (by first | omega | (simp; done) | (simp; omega)) _) | (with_reducible refine Below.alloc ?_ (by first | omega | (simp; done) | (simp; omega)) _))) | fail)
          (first | (go_at_call 10; refine (toCodel_any r0 _).mono ?_; rintro o v2 ⟨rfl, k2⟩; have hb2 : Below y5.heap.size y5 v2 := Below.trans (by (repeat first | (with_reducible exact Below.refl _ _) | (with_reducible assumption) | (with_reducible apply Below.drew) | (with_reducible refine Below.setCell ?_ (by first | omega | (simp; done) | (simp; omega)) _) | (with_reducible refine Below.alloc ?_ (by first | omega | (simp; done) | (simp; omega)) _))) (k2.1.mono (by first | omega | (simp; done) | (simp; omega))); have hB2 : Below w.heap.size w v2 := B.trans (hb2.mono B.size); have hs2 := k2.1.size; (try simp at hs2)) | (go_at_call 20; refine (HI.out _ d5 ((PR.below (ZI.pr zx) (by (repeat first | (with_reducible exact Below.refl _ _) | (with_reducible assumption) | (with_reducible apply Below.drew) | (with_reducible refine Below.setCell ?_ (by first | omega | (simp; done) | (simp; omega)) _) | (with_reducible refine Below.alloc ?_ (by first | omega | (simp; done) | (simp; omega)) _)))).mono (by first | omega | (simp; done) | (simp; omega)))).mono ?_; rintro o v4 ⟨rfl, b8⟩; have hb4 : Below y5.heap.size y5 v4 := Below.trans (by (repeat first | (with_reducible exact Below.refl _ _) | (with_reducible assumption) | (with_reducible apply Below.drew) | (with_reducible refine Below.setCell ?_ (by first | omega | (simp; done) | (simp; omega)) _) | (with_reducible refine Below.alloc ?_ (by first | omega | (simp; done) | (simp; omega)) _))) (b8.mono (by first | omega | (simp; done) | (simp; omega))); have hs4 := b8.size; (try simp at hs4); (first | (have vz := sv_at (sv_at (Sits.new y5 (cdCells ⟨0, 0, 0, 0, 0, 0, false⟩) 25) k2.1 rfl).1 b8 rfl; obtain ⟨z0, z1, z3, z4, z5, z6, z7⟩ := cd_cells vz.1; have fz := vz.1.frozen; dsimp only at z0 z1 z3 z4 z5 z6 z7) | (have vz := sv_at (Sits.new v2 (cdCells ⟨0, 0, 0, 0, 0, 0, false⟩) 25) b8 rfl; obtain ⟨z0, z1, z3, z4, z5, z6, z7⟩ := cd_cells vz.1; have fz := vz.1.frozen; dsimp only at z0 z1 z3 z4 z5 z6 z7) | skip)))
        set_option maxRecDepth 100000 in all_goals
          (go_wp2_with fail)
          go_meet
          case rel =>
            refine ⟨_, rfl, rfl, ?_, ?_, ?_⟩
            · first | (with_reducible exact sits_new' rfl) | exact (((((((vz.1.set 0 _).set 1 _).set 2 _).set 3 _).set 4 _).set 5 _).set 6 _)
            · first | omega | (simp; omega)
            · repeat first | (with_reducible exact hb4) | (with_reducible refine Below.setCell ?_ (by first | omega | (simp; done) | (simp; omega)) _) | (with_reducible refine Below.alloc ?_ (by first | omega | (simp; done) | (simp; omega)) _)
      obtain ⟨V7, rfl, rfl, lg, t7, b4⟩ := hcut
      rename World => y7
      replace lC := Sits.below lC b4 lC.lt
      replace lw := Sits.below lw b4 lw.lt
      replace lA := Lies.below lA b4 lA.lt
      replace lx := Lies.below lx b4 lx.lt
      replace zx := ZI.below zx b4
      replace B := B.trans (b4.mono B.size)
      clear b4 hSB hlt0
      obtain ⟨g0, g1, g2, g3, g4, g5, g6⟩ := cd_cells lg
      obtain ⟨h0, h1, h2, h3, h4, h5, h6⟩ := cd_cells lw
      go_wp2_with (go_at_call 14; refine (eqCodel_yes q _).mono ?_; rintro o v8 ⟨rfl, k1⟩)
      replace lA := Lies.below lA k1.1 lA.lt
      replace lx := Lies.below lx k1.1 lx.lt
      replace zx := ZI.below zx k1.1
      replace B := B.trans (k1.1.mono B.size)
      clear k1 g0 g1 g2 g3 g4 g5 g6 h0 h1 h2 h3 h4 h5 h6 lg lw lC
      obtain ⟨y1, y2⟩ := fi2_cells lx
      obtain ⟨k1, k2⟩ := fi2_cells lA
      go_region_held3 (fun w' => (w'.cell? ⟨V5, 0, none⟩ = some (.slice d5 len1 len1) ∧ w'.cell? ⟨V5, 1, none⟩ = some (.int .i64 lim1)) ∧ (w'.cell? ⟨w.heap.size + 1, 0, none⟩ = some (.slice a1 len1 cap1) ∧ w'.cell? ⟨w.heap.size + 1, 1, none⟩ = some (.int .i64 lim1))) (first | exact ⟨⟨y1, y2⟩, ⟨k1, k2⟩⟩ | go_keep | exact ⟨fi2_cells (Lies.below (W := v8.drew) lx b7 lx.lt), fi2_cells (Lies.below (W := v8.drew) lA b7 lA.lt)⟩ | exact ⟨fi2_cells ((Lies.below (W := v8.drew) lx b7 lx.lt).below b8 (Lies.below (W := v8.drew) lx b7 lx.lt).lt), fi2_cells ((Lies.below (W := v8.drew) lA b7 lA.lt).below b8 (Lies.below (W := v8.drew) lA b7 lA.lt).lt)⟩) (first | (go_at_call 19; refine (toFifo_any a1 len1 cap1 lim1 f1 _ ((PR.below HR.out B.drew).mono B.size) hn).mono ?_; rintro o v9 ⟨d9, rfl, z9, b7⟩) | (go_at_call 21; refine (eqFifo_yes d5 d9 len1 len1 len1 lim1 f1 _ ((PR.below (w := v8.drew) (ZI.pr zx) b7).mono b7.size) (ZI.pr z9) hn).mono ?_; rintro o v10 ⟨rfl, b8⟩))
      all_goals
        go_wp2
        go_ret
        have B7 := B.drew.trans (b7.mono B.size)
        exact ⟨rfl, B7.trans (b8.mono B7.size)⟩
    case true =>
      go_enter Try.func6, Try.ntmps6
      go_wp2_with (go_at_call 17; refine (szFifo_any a1 len1 cap1 lim1 1048576 _ hmax (by omega) (by omega)).mono ?_; rintro o v1 ⟨rfl, b1⟩; rw [if_neg hbig]; obtain ⟨k0, k1⟩ := fi2_cells (lA.below b1 lA.lt); obtain ⟨c0, c1, c2, c3, c4, c5, c6⟩ := cd_cells (lC.below b1 lC.lt))
      replace lC := Sits.below lC b1 lC.lt
      replace lA := Lies.below lA b1 lA.lt
      replace B := B.trans (b1.mono B.size)
      clear b1 hW0 ka0 ka1 k0 k1 c0 c1 c2 c3 c4 c5 c6
      have hlt0 : w.heap.size < v1.heap.size := lC.lt
      have hSB : ∀ W, Below v1.heap.size v1 W → SL w.heap.size r0 (w.heap.size + 1) a1 len1 cap1 lim1 W := fun W hW => ⟨cd_cells (lC.below hW lC.lt), fi2_cells (lA.below hW lA.lt)⟩
      go_cut [8, 9] from 18 (fun s6 s7 wx => ∃ V : Nat, s6 = .pointer (some ⟨V, 0, none⟩) ∧ s7 = .bool true ∧ Sits wx V (cdCells q) 25 ∧ v1.heap.size ≤ V ∧ Below v1.heap.size v1 wx)
      case first =>
        set_option maxRecDepth 100000 in go_region_held3 (fun w' => SL w.heap.size r0 (w.heap.size + 1) a1 len1 cap1 lim1 w') (first | exact hSB _ (by (repeat first | (with_reducible exact Below.refl _ _) | (with_reducible assumption) | (with_reducible apply Below.drew) | (with_reducible refine Below.setCell ?_ (by first | omega | (simp; done) | (simp; omega)) _) | (with_reducible refine Below.alloc ?_ (by first | omega | (simp; done) | (simp; omega)) _))) | fail)
          (first | (go_at_call 10; refine (toCodel_any r0 _).mono ?_; rintro o v2 ⟨rfl, k2⟩; have hb2 : Below v1.heap.size v1 v2 := Below.trans (by (repeat first | (with_reducible exact Below.refl _ _) | (with_reducible assumption) | (with_reducible apply Below.drew) | (with_reducible refine Below.setCell ?_ (by first | omega | (simp; done) | (simp; omega)) _) | (with_reducible refine Below.alloc ?_ (by first | omega | (simp; done) | (simp; omega)) _))) (k2.1.mono (by first | omega | (simp; done) | (simp; omega))); have hB2 : Below w.heap.size w v2 := B.trans (hb2.mono B.size); have hs2 := k2.1.size; (try simp at hs2)) | (go_at_call 19; refine (toFifo_any a1 len1 cap1 lim1 f1 _ ((PR.below HR.out (by (repeat first | (with_reducible exact Below.refl _ _) | (with_reducible assumption) | (with_reducible apply Below.drew) | (with_reducible refine Below.setCell ?_ (by first | omega | (simp; done) | (simp; omega)) _) | (with_reducible refine Below.alloc ?_ (by first | omega | (simp; done) | (simp; omega)) _)))).mono (by first | omega | (simp; done) | (simp; omega))) hn).mono ?_; rintro o v3 ⟨d3, rfl, y3, b7⟩; have hb3 : Below v1.heap.size v1 v3 := Below.trans (by (repeat first | (with_reducible exact Below.refl _ _) | (with_reducible assumption) | (with_reducible apply Below.drew) | (with_reducible refine Below.setCell ?_ (by first | omega | (simp; done) | (simp; omega)) _) | (with_reducible refine Below.alloc ?_ (by first | omega | (simp; done) | (simp; omega)) _))) (b7.mono (by first | omega | (simp; done) | (simp; omega))); have hs3 := b7.size; (try simp at hs3)) | (go_at_call 18; refine (HS.out _ d3 ((PR.below (ZI.pr y3) (by (repeat first | (with_reducible exact Below.refl _ _) | (with_reducible assumption) | (with_reducible apply Below.drew) | (with_reducible refine Below.setCell ?_ (by first | omega | (simp; done) | (simp; omega)) _) | (with_reducible refine Below.alloc ?_ (by first | omega | (simp; done) | (simp; omega)) _)))).mono (by first | omega | (simp; done) | (simp; omega)))).mono ?_; rintro o v4 ⟨rfl, b8⟩; have hb4 : Below v1.heap.size v1 v4 := Below.trans (by (repeat first | (with_reducible exact Below.refl _ _) | (with_reducible assumption) | (with_reducible apply Below.drew) | (with_reducible refine Below.setCell ?_ (by first | omega | (simp; done) | (simp; omega)) _) | (with_reducible refine Below.alloc ?_ (by first | omega | (simp; done) | (simp; omega)) _))) (b8.mono (by first | omega | (simp; done) | (simp; omega))); have hs4 := b8.size; (try simp at hs4); (first | (have vz := sv_at (sv_at (sv_at (Sits.new v1 (cdCells ⟨0, 0, 0, 0, 0, 0, false⟩) 25) k2.1 rfl).1 b7 rfl).1 b8 rfl; obtain ⟨z0, z1, z3, z4, z5, z6, z7⟩ := cd_cells vz.1; have fz := vz.1.frozen; dsimp only at z0 z1 z3 z4 z5 z6 z7) | (have vz := sv_at (sv_at (Sits.new v2 (cdCells ⟨0, 0, 0, 0, 0, 0, false⟩) 25) b7 rfl).1 b8 rfl; obtain ⟨z0, z1, z3, z4, z5, z6, z7⟩ := cd_cells vz.1; have fz := vz.1.frozen; dsimp only at z0 z1 z3 z4 z5 z6 z7) | (have vz := sv_at (Sits.new v3 (cdCells ⟨0, 0, 0, 0, 0, 0, false⟩) 25) b8 rfl; obtain ⟨z0, z1, z3, z4, z5, z6, z7⟩ := cd_cells vz.1; have fz := vz.1.frozen; dsimp only at z0 z1 z3 z4 z5 z6 z7) | skip)))
        set_option maxRecDepth 100000 in all_goals
          (go_wp2_with fail)
          go_meet
          case rel =>
            refine ⟨_, rfl, rfl, ?_, ?_, ?_⟩
            · first | (with_reducible exact sits_new' rfl) | exact (((((((vz.1.set 0 _).set 1 _).set 2 _).set 3 _).set 4 _).set 5 _).set 6 _)
            · first | omega | (simp; omega)
            · repeat first | (with_reducible exact hb4) | (with_reducible refine Below.setCell ?_ (by first | omega | (simp; done) | (simp; omega)) _) | (with_reducible refine Below.alloc ?_ (by first | omega | (simp; done) | (simp; omega)) _)
      obtain ⟨V4, rfl, rfl, lw, t4, b4⟩ := hcut
      rename World => y4
      replace lC := Sits.below lC b4 lC.lt
      replace lA := Lies.below lA b4 lA.lt
      replace B := B.trans (b4.mono B.size)
      clear b4 hSB hlt0
      obtain ⟨ka0, ka1⟩ := fi2_cells lA
      have HR' : Hid (PR _ _ a1 len1 f1) := (PR.below HR.out B).mono B.size
      go_wp2_with (go_at_call 19; refine (toFifo_any a1 len1 cap1 lim1 f1 _ HR'.out hn).mono ?_; rintro o v5 ⟨d5, rfl, zx, b1⟩)
      replace lC := Sits.below lC b1 lC.lt
      replace lw := Sits.below lw b1 lw.lt
      replace lA := Lies.below lA b1 lA.lt
      replace B := B.trans (b1.mono B.size)
      clear b1 HR' ka0 ka1
      obtain ⟨V5, hV⟩ : ∃ V, v5.heap.size = V := ⟨_, rfl⟩
      obtain ⟨y5, hA⟩ : ∃ x, v5.alloc (.cells #[.slice d5 len1 len1, .int .i64 lim1] 41) = x := ⟨_, rfl⟩
      have lx : Lies y5 V5 #[.slice d5 len1 len1, .int .i64 lim1] 41 := by rw [← hA, ← hV]; exact Lies.new _ _ _
      have bA : Below v5.heap.size v5 y5 := by rw [← hA]; go_grown
      replace lC := Sits.below lC bA lC.lt
      replace lw := Sits.below lw bA lw.lt
      replace lA := Lies.below lA bA lA.lt
      replace zx := ZI.below zx bA
      replace B := B.trans (bA.mono B.size)
      rw [hA, hV]
      clear hA hV bA
      obtain ⟨c0, c1, c2, c3, c4, c5, c6⟩ := cd_cells lC
      clear c0 c1 c2 c3 c4 c5 c6
      have hlt0 : w.heap.size < y5.heap.size := lC.lt
      have hSB : ∀ W, Below y5.heap.size y5 W → SL w.heap.size r0 V5 d5 len1 len1 lim1 W := fun W hW => ⟨cd_cells (lC.below hW lC.lt), fi2_cells (lx.below hW lx.lt)⟩
      go_cut [11, 12] from 30 (fun s6 s7 wx => ∃ V : Nat, s6 = .pointer (some ⟨V, 0, none⟩) ∧ s7 = .bool true ∧ Sits wx V (cdCells q) 25 ∧ y5.heap.size ≤ V ∧ Below y5.heap.size y5 wx)
      case first =>
        set_option maxRecDepth 100000 in go_region_held3 (fun w' => SL w.heap.size r0 V5 d5 len1 len1 lim1 w') (first | exact hSB _ (by (repeat first | (with_reducible exact Below.refl _ _) | (with_reducible assumption) | (with_reducible apply Below.drew) | (with_reducible refine Below.setCell ?_ (by first | omega | (simp; done) | (simp; omega)) _) | (with_reducible refine Below.alloc ?_ (by first | omega | (simp; done) | (simp; omega)) _))) | fail)
          (first | (go_at_call 10; refine (toCodel_any r0 _).mono ?_; rintro o v2 ⟨rfl, k2⟩; have hb2 : Below y5.heap.size y5 v2 := Below.trans (by (repeat first | (with_reducible exact Below.refl _ _) | (with_reducible assumption) | (with_reducible apply Below.drew) | (with_reducible refine Below.setCell ?_ (by first | omega | (simp; done) | (simp; omega)) _) | (with_reducible refine Below.alloc ?_ (by first | omega | (simp; done) | (simp; omega)) _))) (k2.1.mono (by first | omega | (simp; done) | (simp; omega))); have hB2 : Below w.heap.size w v2 := B.trans (hb2.mono B.size); have hs2 := k2.1.size; (try simp at hs2)) | (go_at_call 20; refine (HI.out _ d5 ((PR.below (ZI.pr zx) (by (repeat first | (with_reducible exact Below.refl _ _) | (with_reducible assumption) | (with_reducible apply Below.drew) | (with_reducible refine Below.setCell ?_ (by first | omega | (simp; done) | (simp; omega)) _) | (with_reducible refine Below.alloc ?_ (by first | omega | (simp; done) | (simp; omega)) _)))).mono (by first | omega | (simp; done) | (simp; omega)))).mono ?_; rintro o v4 ⟨rfl, b8⟩; have hb4 : Below y5.heap.size y5 v4 := Below.trans (by (repeat first | (with_reducible exact Below.refl _ _) | (with_reducible assumption) | (with_reducible apply Below.drew) | (with_reducible refine Below.setCell ?_ (by first | omega | (simp; done) | (simp; omega)) _) | (with_reducible refine Below.alloc ?_ (by first | omega | (simp; done) | (simp; omega)) _))) (b8.mono (by first | omega | (simp; done) | (simp; omega))); have hs4 := b8.size; (try simp at hs4); (first | (have vz := sv_at (sv_at (Sits.new y5 (cdCells ⟨0, 0, 0, 0, 0, 0, false⟩) 25) k2.1 rfl).1 b8 rfl; obtain ⟨z0, z1, z3, z4, z5, z6, z7⟩ := cd_cells vz.1; have fz := vz.1.frozen; dsimp only at z0 z1 z3 z4 z5 z6 z7) | (have vz := sv_at (Sits.new v2 (cdCells ⟨0, 0, 0, 0, 0, 0, false⟩) 25) b8 rfl; obtain ⟨z0, z1, z3, z4, z5, z6, z7⟩ := cd_cells vz.1; have fz := vz.1.frozen; dsimp only at z0 z1 z3 z4 z5 z6 z7) | skip)))
        set_option maxRecDepth 100000 in all_goals
          (go_wp2_with fail)
          go_meet
          case rel =>
            refine ⟨_, rfl, rfl, ?_, ?_, ?_⟩
            · first | (with_reducible exact sits_new' rfl) | exact (((((((vz.1.set 0 _).set 1 _).set 2 _).set 3 _).set 4 _).set 5 _).set 6 _)
            · first | omega | (simp; omega)
            · repeat first | (with_reducible exact hb4) | (with_reducible refine Below.setCell ?_ (by first | omega | (simp; done) | (simp; omega)) _) | (with_reducible refine Below.alloc ?_ (by first | omega | (simp; done) | (simp; omega)) _)
      obtain ⟨V7, rfl, rfl, lg, t7, b4⟩ := hcut
      rename World => y7
      replace lC := Sits.below lC b4 lC.lt
      replace lw := Sits.below lw b4 lw.lt
      replace lA := Lies.below lA b4 lA.lt
      replace lx := Lies.below lx b4 lx.lt
      replace zx := ZI.below zx b4
      replace B := B.trans (b4.mono B.size)
      clear b4 hSB hlt0
      obtain ⟨g0, g1, g2, g3, g4, g5, g6⟩ := cd_cells lg
      obtain ⟨h0, h1, h2, h3, h4, h5, h6⟩ := cd_cells lw
      go_wp2_with (go_at_call 14; refine (eqCodel_yes q _).mono ?_; rintro o v8 ⟨rfl, k1⟩)
      replace lA := Lies.below lA k1.1 lA.lt
      replace lx := Lies.below lx k1.1 lx.lt
      replace zx := ZI.below zx k1.1
      replace B := B.trans (k1.1.mono B.size)
      clear k1 g0 g1 g2 g3 g4 g5 g6 h0 h1 h2 h3 h4 h5 h6 lg lw lC
      obtain ⟨y1, y2⟩ := fi2_cells lx
      obtain ⟨k1, k2⟩ := fi2_cells lA
      go_region_held3 (fun w' => (w'.cell? ⟨V5, 0, none⟩ = some (.slice d5 len1 len1) ∧ w'.cell? ⟨V5, 1, none⟩ = some (.int .i64 lim1)) ∧ (w'.cell? ⟨w.heap.size + 1, 0, none⟩ = some (.slice a1 len1 cap1) ∧ w'.cell? ⟨w.heap.size + 1, 1, none⟩ = some (.int .i64 lim1))) (first | exact ⟨⟨y1, y2⟩, ⟨k1, k2⟩⟩ | go_keep | exact ⟨fi2_cells (Lies.below (W := v8.drew) lx b7 lx.lt), fi2_cells (Lies.below (W := v8.drew) lA b7 lA.lt)⟩ | exact ⟨fi2_cells ((Lies.below (W := v8.drew) lx b7 lx.lt).below b8 (Lies.below (W := v8.drew) lx b7 lx.lt).lt), fi2_cells ((Lies.below (W := v8.drew) lA b7 lA.lt).below b8 (Lies.below (W := v8.drew) lA b7 lA.lt).lt)⟩) (first | (go_at_call 19; refine (toFifo_any a1 len1 cap1 lim1 f1 _ ((PR.below HR.out B.drew).mono B.size) hn).mono ?_; rintro o v9 ⟨d9, rfl, z9, b7⟩) | (go_at_call 21; refine (eqFifo_yes d5 d9 len1 len1 len1 lim1 f1 _ ((PR.below (w := v8.drew) (ZI.pr zx) b7).mono b7.size) (ZI.pr z9) hn).mono ?_; rintro o v10 ⟨rfl, b8⟩))
      all_goals
        go_wp2
        go_ret
        have B7 := B.drew.trans (b7.mono B.size)
        exact ⟨rfl, B7.trans (b8.mono B7.size)⟩

section
variable {H : Type} {enc : TypeId × Value → H} {W : World} {base : Nat} {sp : Nat → Bool} {held : Bool}

theorem openInt {n : Nat} {c : Value} {y : DataW H × List MemPlace} (h : DataW.trod enc Try.prog W base sp held n 3 [c] = some y) : ∃ z : Int, c = .int .i64 z ∧ (-9223372036854775808 ≤ z ∧ z ≤ 9223372036854775807) := by
  obtain ⟨z, h1, _, hw⟩ := DataW.trod_int Try.underlying3 h
  simp only [List.cons.injEq, and_true] at h1
  exact ⟨z, h1, bd hw⟩

theorem openBool {n : Nat} {c : Value} {y : DataW H × List MemPlace} (h : DataW.trod enc Try.prog W base sp held n 4 [c] = some y) : ∃ z : Bool, c = .bool z := by
  obtain ⟨z, h1, _⟩ := DataW.trod_bool Try.underlying4 h
  simp only [List.cons.injEq, and_true] at h1
  exact ⟨z, h1⟩

theorem openCodel {fuel : Nat} {cs : List Value} {x : DataW H × List MemPlace} (h : DataW.trod enc Try.prog W base sp held fuel 23 cs = some x) :
    ∃ r : Cd, r.In ∧ cs = [.int .i64 r.tg, .int .i64 r.iv, .int .i64 r.fi, .int .i64 r.nx, .int .i64 r.ct, .int .i64 r.la, .bool r.dr] := by
  obtain ⟨xs, n, rfl, hx, hl, hxl, hall⟩ := DataW.trod_struct Try.underlying23 h
  rw [cellsCodel] at hl
  match cs, hl with
  | [c0, c1, c2, c3, c4, c5, c6], _ =>
  match xs, hxl with
  | [y0, y1, y2, y3, y4, y5, y6], _ =>
  have b0 : DataW.trod enc Try.prog W base sp held n 3 (([c0, c1, c2, c3, c4, c5, c6].drop 0).take (Try.prog.cellsOf 3)) = some y0 := hall 0 _ rfl
  rw [cellsInt] at b0
  replace b0 : DataW.trod enc Try.prog W base sp held n 3 [c0] = some y0 := b0
  have b1 : DataW.trod enc Try.prog W base sp held n 3 (([c0, c1, c2, c3, c4, c5, c6].drop 1).take (Try.prog.cellsOf 3)) = some y1 := hall 1 _ rfl
  rw [cellsInt] at b1
  replace b1 : DataW.trod enc Try.prog W base sp held n 3 [c1] = some y1 := b1
  have b2 : DataW.trod enc Try.prog W base sp held n 3 (([c0, c1, c2, c3, c4, c5, c6].drop 2).take (Try.prog.cellsOf 3)) = some y2 := hall 2 _ rfl
  rw [cellsInt] at b2
  replace b2 : DataW.trod enc Try.prog W base sp held n 3 [c2] = some y2 := b2
  have b3 : DataW.trod enc Try.prog W base sp held n 3 (([c0, c1, c2, c3, c4, c5, c6].drop 3).take (Try.prog.cellsOf 3)) = some y3 := hall 3 _ rfl
  rw [cellsInt] at b3
  replace b3 : DataW.trod enc Try.prog W base sp held n 3 [c3] = some y3 := b3
  have b4 : DataW.trod enc Try.prog W base sp held n 3 (([c0, c1, c2, c3, c4, c5, c6].drop 4).take (Try.prog.cellsOf 3)) = some y4 := hall 4 _ rfl
  rw [cellsInt] at b4
  replace b4 : DataW.trod enc Try.prog W base sp held n 3 [c4] = some y4 := b4
  have b5 : DataW.trod enc Try.prog W base sp held n 3 (([c0, c1, c2, c3, c4, c5, c6].drop 5).take (Try.prog.cellsOf 3)) = some y5 := hall 5 _ rfl
  rw [cellsInt] at b5
  replace b5 : DataW.trod enc Try.prog W base sp held n 3 [c5] = some y5 := b5
  have b6 : DataW.trod enc Try.prog W base sp held n 4 (([c0, c1, c2, c3, c4, c5, c6].drop 6).take (Try.prog.cellsOf 4)) = some y6 := hall 6 _ rfl
  rw [cellsBool] at b6
  replace b6 : DataW.trod enc Try.prog W base sp held n 4 [c6] = some y6 := b6
  obtain ⟨z0, rfl, i0⟩ := openInt (y := y0) b0
  obtain ⟨z1, rfl, i1⟩ := openInt (y := y1) b1
  obtain ⟨z2, rfl, i2⟩ := openInt (y := y2) b2
  obtain ⟨z3, rfl, i3⟩ := openInt (y := y3) b3
  obtain ⟨z4, rfl, i4⟩ := openInt (y := y4) b4
  obtain ⟨z5, rfl, i5⟩ := openInt (y := y5) b5
  obtain ⟨z6, rfl⟩ := openBool (y := y6) b6
  exact ⟨⟨z0, z1, z2, z3, z4, z5, z6⟩, ⟨i0, i1, i2, i3, i4, i5⟩, rfl⟩

theorem openPkt {fuel : Nat} {cs : List Value} {x : DataW H × List MemPlace} (h : DataW.trod enc Try.prog W base sp held fuel 79 cs = some x) :
    ∃ r : Pk, r.In ∧ cs = [.int .i64 r.id, .int .i64 r.flow, .int .i64 r.host, .int .i64 r.size, .int .i64 r.tm, .int .i64 r.ecn] := by
  obtain ⟨xs, n, rfl, hx, hl, hxl, hall⟩ := DataW.trod_struct Try.underlying79 h
  rw [cellsPkt] at hl
  match cs, hl with
  | [c0, c1, c2, c3, c4, c5], _ =>
  match xs, hxl with
  | [y0, y1, y2, y3, y4, y5], _ =>
  have b0 : DataW.trod enc Try.prog W base sp held n 3 (([c0, c1, c2, c3, c4, c5].drop 0).take (Try.prog.cellsOf 3)) = some y0 := hall 0 _ rfl
  rw [cellsInt] at b0
  replace b0 : DataW.trod enc Try.prog W base sp held n 3 [c0] = some y0 := b0
  have b1 : DataW.trod enc Try.prog W base sp held n 3 (([c0, c1, c2, c3, c4, c5].drop 1).take (Try.prog.cellsOf 3)) = some y1 := hall 1 _ rfl
  rw [cellsInt] at b1
  replace b1 : DataW.trod enc Try.prog W base sp held n 3 [c1] = some y1 := b1
  have b2 : DataW.trod enc Try.prog W base sp held n 3 (([c0, c1, c2, c3, c4, c5].drop 2).take (Try.prog.cellsOf 3)) = some y2 := hall 2 _ rfl
  rw [cellsInt] at b2
  replace b2 : DataW.trod enc Try.prog W base sp held n 3 [c2] = some y2 := b2
  have b3 : DataW.trod enc Try.prog W base sp held n 3 (([c0, c1, c2, c3, c4, c5].drop 3).take (Try.prog.cellsOf 3)) = some y3 := hall 3 _ rfl
  rw [cellsInt] at b3
  replace b3 : DataW.trod enc Try.prog W base sp held n 3 [c3] = some y3 := b3
  have b4 : DataW.trod enc Try.prog W base sp held n 3 (([c0, c1, c2, c3, c4, c5].drop 4).take (Try.prog.cellsOf 3)) = some y4 := hall 4 _ rfl
  rw [cellsInt] at b4
  replace b4 : DataW.trod enc Try.prog W base sp held n 3 [c4] = some y4 := b4
  have b5 : DataW.trod enc Try.prog W base sp held n 3 (([c0, c1, c2, c3, c4, c5].drop 5).take (Try.prog.cellsOf 3)) = some y5 := hall 5 _ rfl
  rw [cellsInt] at b5
  replace b5 : DataW.trod enc Try.prog W base sp held n 3 [c5] = some y5 := b5
  obtain ⟨z0, rfl, i0⟩ := openInt (y := y0) b0
  obtain ⟨z1, rfl, i1⟩ := openInt (y := y1) b1
  obtain ⟨z2, rfl, i2⟩ := openInt (y := y2) b2
  obtain ⟨z3, rfl, i3⟩ := openInt (y := y3) b3
  obtain ⟨z4, rfl, i4⟩ := openInt (y := y4) b4
  obtain ⟨z5, rfl, i5⟩ := openInt (y := y5) b5
  exact ⟨⟨z0, z1, z2, z3, z4, z5⟩, ⟨i0, i1, i2, i3, i4, i5⟩, rfl⟩

theorem openPkts {fuel : Nat} {cs : List Value} {x : DataW H × List MemPlace} (h : DataW.trod enc Try.prog W base sp held fuel 34 cs = some x) :
    ∃ (a : Option Addr) (len cap : Nat) (f : Nat → Pk), cs = [.slice a len cap] ∧ len ≤ cap ∧ cap ≤ maxLen ∧ PR W.heap.size W a len f ∧ ∀ i, i < len → (f i).In := by
  rcases Go.Deep.open_slice Try.underlying34 h with ⟨rfl, _⟩ | ⟨a, len, cap, m, n, D, Pl, rfl, hb, hl, hm, hmm, _, hx⟩
  · exact ⟨none, 0, 0, fun _ => default, rfl, Nat.le_refl _, Nat.zero_le _, .inl rfl, fun i hi => absurd hi (Nat.not_lt_zero _)⟩
  · have hlm : len ≤ m := by rw [hmm]; split <;> omega
    have each : ∀ i, i < len → ∃ r : Pk, r.In ∧ (∀ t, t < 6 → W.cell? ((a.add (i * 6)).add t) = some (.int .i64 (r.nth t))) := by
      intro i hi
      obtain ⟨cs', h1, h2⟩ := hx i (by omega)
      rw [cellsPkt] at h1
      obtain ⟨_, hlen, hcell⟩ := World.cells?_some h1
      obtain ⟨r, hr, rfl⟩ := openPkt h2
      refine ⟨r, hr, fun t ht => ?_⟩
      have := hcell t (by omega)
      rw [this]
      have hc : t = 0 ∨ t = 1 ∨ t = 2 ∨ t = 3 ∨ t = 4 ∨ t = 5 := by omega
      rcases hc with rfl | rfl | rfl | rfl | rfl | rfl <;> rfl
    obtain ⟨f, hf⟩ := Go.Deep.choose_lt each
    refine ⟨some a, len, cap, f, rfl, hl, hm, ?_, fun i hi => (hf i hi).1⟩
    by_cases h0 : len = 0
    · exact .inl h0
    · obtain ⟨b, off, inner⟩ := a
      have hc0 := (hf 0 (by omega)).2 0 (by omega)
      have hin : inner = none := by simpa [Addr.add] using World.cell?_spot hc0
      subst hin
      refine .inr ⟨b, off, rfl, World.block_lt_of_cell? W _ hc0, fun i hi => ?_⟩
      have hh : ∀ t, t < 6 → W.cell? ⟨b, off + i * 6 + t, none⟩ = some (.int .i64 ((f i).nth t)) := fun t ht => by
        have := (hf i hi).2 t ht
        rw [Go.WideShapes.add_plain, Go.WideShapes.add_plain] at this
        exact this
      exact ⟨hh 0 (by omega), hh 1 (by omega), hh 2 (by omega), hh 3 (by omega), hh 4 (by omega), hh 5 (by omega)⟩

theorem openFifo {fuel : Nat} {cs : List Value} {x : DataW H × List MemPlace} (h : DataW.trod enc Try.prog W base sp held fuel 36 cs = some x) :
    ∃ (a : Option Addr) (len cap : Nat) (lim : Int) (f : Nat → Pk), FifoIn W a len cap lim f ∧ cs = [.slice a len cap, .int .i64 lim] := by
  obtain ⟨xs, n, rfl, hx, hl, hxl, hall⟩ := DataW.trod_struct Try.underlying36 h
  rw [cellsFifo] at hl
  match cs, hl with
  | [c0, c1], _ =>
  match xs, hxl with
  | [y0, y1], _ =>
  have b0 : DataW.trod enc Try.prog W base sp held n 34 (([c0, c1].drop 0).take (Try.prog.cellsOf 34)) = some y0 := hall 0 _ rfl
  rw [cellsSlice] at b0
  replace b0 : DataW.trod enc Try.prog W base sp held n 34 [c0] = some y0 := b0
  have b1 : DataW.trod enc Try.prog W base sp held n 3 (([c0, c1].drop 1).take (Try.prog.cellsOf 3)) = some y1 := hall 1 _ rfl
  rw [cellsInt] at b1
  replace b1 : DataW.trod enc Try.prog W base sp held n 3 [c1] = some y1 := b1
  obtain ⟨z, rfl, iz⟩ := openInt (y := y1) b1
  obtain ⟨a, len, cap, f, hs, h1, h2, h3, h4⟩ := openPkts (x := y0) b0
  simp only [List.cons.injEq, and_true] at hs
  subst hs
  exact ⟨a, len, cap, z, f, ⟨iz, h1, h2, h3, h4⟩, rfl⟩

end

set_option maxRecDepth 100000 in
theorem lifted (os : Os) (started : os.Started) (H : Type) (enc : TypeId × Value → H) :
    ReturnsInHanded {} Try.checked os 6 .any (Rows.fnExactLateSpec.pre6 enc Try.prog Try.f6 Rows.fnExactLateRow.domain false) (Rows.fnExactLateSpec.post enc Try.prog Try.f6 false true false false) := by
  refine returnsInHanded_of_change (C := Try.checked) own started (by kernel_rfl) Try.func6
    (ChangeSpec.witness6 (enc := enc) (C := Try.checked) false ⟨#[], #[.agg #[.int .i64 0, .int .i64 0, .int .i64 0, .int .i64 0, .int .i64 0, .int .i64 0, .bool false], .agg #[.slice none 0 0, .int .i64 0], .int .i64 0], []⟩ 8 (by kernel_rfl) (by kernel_rfl) (by kernel_rfl) (by kernel_rfl)) ?_
  intro W base args ds gs before hval0 hW hcnd _
  have hval : ∀ (j : Nat) t v, Try.f6.params[j]? = some t → args[j]? = some v → Value.okWide Try.prog W .any base t v := hval0
  have hW' := hW
  obtain ⟨p, q, hA0, hV, rfl, hfz, hnd⟩ := hW
  have hA : DataW.TrodAll enc Try.prog W 0 (fun _ => true) true Try.f6.params.toList args.toList ds p := hA0
  rw [Try.params6] at hA hval
  obtain ⟨v0, vs0, d0, ds0, p0, q0, hargs, rfl, rfl, h0, tl0⟩ := trodAll_cons hA
  obtain ⟨v1, vs1, d1, ds1, p1, q1, rfl, rfl, rfl, h1, tl1⟩ := trodAll_cons tl0
  obtain ⟨v2, vs2, d2, ds2, p2, q2, rfl, rfl, rfl, h2, tl2⟩ := trodAll_cons tl1
  obtain ⟨rfl, rfl, rfl⟩ := trodAll_nil tl2
  obtain rfl : args = #[v0, v1, v2] := by cases args; simp_all
  obtain ⟨rfl, rfl⟩ := trodVars_none hV
  have k0 := h0
  have lt0 : ∀ x ∈ p0, x.block < W.heap.size := by obtain ⟨m, hm⟩ := k0; exact DataW.trod_lt m _ _ _ hm
  have k1 := h1
  have lt1 : ∀ x ∈ p1, x.block < W.heap.size := by obtain ⟨m, hm⟩ := k1; exact DataW.trod_lt m _ _ _ hm
  have k2 := h2
  have lt2 : ∀ x ∈ p2, x.block < W.heap.size := by obtain ⟨m, hm⟩ := k2; exact DataW.trod_lt m _ _ _ hm
  obtain ⟨cs0, rfl, hcs0⟩ := okWide_struct Try.underlying23 (hval 0 23 v0 rfl rfl)
  obtain ⟨r0, hin0, hrc0⟩ : ∃ r0 : Cd, r0.In ∧ cs0 = #[.int .i64 r0.tg, .int .i64 r0.iv, .int .i64 r0.fi, .int .i64 r0.nx, .int .i64 r0.ct, .int .i64 r0.la, .bool r0.dr] := by
    obtain ⟨fuel, hf⟩ := h0
    obtain ⟨r, hin, hcs'⟩ := openCodel hf
    have hc2 : cs0 = (cs0.toList).toArray := by simp
    have hcl : cs0.toList = [.int .i64 r.tg, .int .i64 r.iv, .int .i64 r.fi, .int .i64 r.nx, .int .i64 r.ct, .int .i64 r.la, .bool r.dr] := by simpa [Value.cells] using hcs'
    rw [hcl] at hc2
    exact ⟨r, hin, hc2⟩
  subst hrc0
  obtain ⟨cs1, rfl, hcs1⟩ := okWide_struct Try.underlying36 (hval 1 36 v1 rfl rfl)
  obtain ⟨a1, len1, cap1, lim1, f1, hin1, hrc1⟩ : ∃ (a : Option Addr) (len cap : Nat) (lim : Int) (f : Nat → Pk), FifoIn W a len cap lim f ∧ cs1 = #[.slice a len cap, .int .i64 lim] := by
    obtain ⟨fuel, hf⟩ := h1
    obtain ⟨a, len, cap, lim, f, hin, hcs'⟩ := openFifo hf
    have hc2 : cs1 = (cs1.toList).toArray := by simp
    have hcl : cs1.toList = [.slice a len cap, .int .i64 lim] := by simpa [Value.cells] using hcs'
    rw [hcl] at hc2
    exact ⟨a, len, cap, lim, f, hin, hc2⟩
  subst hrc1
  obtain ⟨z2, hzv2, _, _, hzw2⟩ := open_int Try.underlying3 (hval 2 3 v2 rfl rfl) h2
  subst hzv2
  clear hA0 hval0
  refine (walk r0 hin0 a1 len1 cap1 lim1 f1 z2 (bd hzw2) W hin1).mono fun e W' ⟨he, bel⟩ => ?_
  subst he
  exact ⟨_, rfl, _, _, _, [], _, [], hW', trodAll_mk1 (shut_bool Try.underlying4 _), (trodAll_cons_mk (Below.trod laidOut (by kernel_rfl) (of_decide_eq_true (by kernel_rfl)) k0 bel lt0) (trodAll_cons_mk (Below.trod laidOut (by kernel_rfl) (of_decide_eq_true (by kernel_rfl)) k1 bel lt1) (trodAll_cons_mk (Below.trod laidOut (by kernel_rfl) (of_decide_eq_true (by kernel_rfl)) k2 bel lt2) trodAll_mk0))), rfl, bel.frame _, fun h => by cases h⟩

theorem over : Rows.fnExactLateRow.holds Try.pinned (OpenSpec.ofChange Rows.fnExactLateSpec) :=
  OpenClaim.holds_of_wide 6 Try.f6 rfl rfl rfl rfl rfl rfl rfl ⟨rfl, rfl, rfl, rfl, rfl⟩ rfl rfl rfl rfl rfl (by kernel_rfl) Try.func6 (by kernel_rfl)
    (of_decide_eq_true (by kernel_rfl)) (by unfold Func.isWrapper; first | (rw [if_pos (by decide +kernel)]; kernel_rfl) | (rw [if_neg (by decide +kernel)]; exact ⟨rfl, rfl⟩))
    (fun os started H enc _ => lifted os started H enc)

theorem proved : Rows.FnExactLateSaid := over
end Go.Proofs.Ytgmecbjdiinkiam.fnExactLate
namespace Go.Proofs.Ytgmecbjdiinkiam
theorem fnExactLate_holds : Rows.FnExactLateSaid := fnExactLate.proved
#print axioms fnExactLate_holds
end Go.Proofs.Ytgmecbjdiinkiam
