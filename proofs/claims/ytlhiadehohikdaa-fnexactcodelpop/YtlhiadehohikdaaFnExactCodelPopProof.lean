/-
  Whatever Codel, queue and moment the law FnExactCodelPop is given, it returns true and leaves all that lay as it was: the program's CodelPop answers as the specification's; no condition.
-/
import Derived.Test.YtlhiadehohikdaaRows
import Derived.WalkKit
import Derived.ProofKit
import Derived.OpenShut
import Derived.Test.YtlhiadehohikdaaCPopB
import Derived.Deep.RegionHeld3
import Derived.Deep.Cut
import Derived.Deep.Slices
import Derived.ShutString
import Derived.ChangeOld
import Derived.Below
namespace Go.Proofs.Ytlhiadehohikdaa.fnExactCodelPop
open Go.ChangeShapes Go.WideShapes Go.ChangeAt Go.RowKit
open Go.ChangeMaps (open_string shut_string)
set_option linter.unusedVariables false

theorem own : ownKnob Try.prog.godebug = none := by kernel_rfl
theorem laidOut : laidOutB Try.prog = true := by kernel_rfl
theorem cellsInt : Try.prog.cellsOf 3 = 1 := by kernel_rfl
theorem cellsCodel : Try.prog.cellsOf 23 = 7 := by kernel_rfl
theorem cellsBool : Try.prog.cellsOf 4 = 1 := by kernel_rfl
theorem cellsPkt : Try.prog.cellsOf 66 = 6 := by kernel_rfl
theorem cellsFifo : Try.prog.cellsOf 26 = 2 := by kernel_rfl
theorem cellsSlice : Try.prog.cellsOf 24 = 1 := by kernel_rfl


set_option maxRecDepth 100000 in
set_option maxHeartbeats 40000000 in
theorem walk (r0 : Cd) (w0 : r0.In) (a1 : Option Addr) (len1 cap1 : Nat) (lim1 : Int) (f1 : Nat → Pk) (z2 : Int) (w2 : (-9223372036854775808 ≤ z2 ∧ z2 ≤ 9223372036854775807)) (w : World) (w1 : FifoIn w a1 len1 cap1 lim1 f1) :
    Calls Try.prog 3 #[r0.val, .agg #[.slice a1 len1 cap1, .int .i64 lim1], .int .i64 z2] w fun e w' => e = .returned (.bool true) ∧ Below w.heap.size w w' := by
  obtain ⟨hlim, hcap, hmx, hrow, hin⟩ := w1
  have hmax : (len1 : Int) ≤ 9223372036854775807 := by unfold maxLen at hmx; omega
  have HR : Hid (PR w.heap.size w a1 len1 f1) := hrow
  clear hrow hin hmx
  by_cases hbig : 1048576 < (len1 : Int)
  · set_option maxRecDepth 100000 in go_enter Try.func3, Try.ntmps3
    set_option maxRecDepth 100000 in go_wp2_with (go_at_call 4; refine (szFifo_any a1 len1 cap1 lim1 1048576 _ hmax (by omega) (by omega)).mono ?_; rintro o wv1 ⟨rfl, b1⟩; rw [if_pos hbig])
    go_ret
    exact ⟨rfl, (((Below.refl w.heap.size w).alloc (Nat.le_refl _) _).alloc (by simp) _).trans (b1.mono (by simp; omega))⟩
  · have hn : len1 ≤ 1048576 := by omega
    obtain ⟨RC, hRC⟩ : ∃ q, popC r0 f1 len1 lim1 z2 = q := ⟨_, rfl⟩
    obtain ⟨K, hK⟩ : ∃ q, popK r0 f1 len1 lim1 z2 = q := ⟨_, rfl⟩
    obtain ⟨T, hT⟩ : ∃ q, popT r0 f1 len1 lim1 z2 = q := ⟨_, rfl⟩
    obtain ⟨M, hM⟩ : ∃ q, popM r0 f1 len1 lim1 z2 = q := ⟨_, rfl⟩
    obtain ⟨U, hU⟩ : ∃ q, popU r0 f1 len1 lim1 z2 = q := ⟨_, rfl⟩
    obtain ⟨O, hO⟩ : ∃ q, popO r0 f1 len1 lim1 z2 = q := ⟨_, rfl⟩
    obtain ⟨Qf, hQ⟩ : ∃ q, popQ r0 f1 len1 lim1 z2 = q := ⟨_, rfl⟩
    have HS : Hid (∀ (W : World) (d : Option Addr), PR W.heap.size W d len1 f1 → Calls Try.prog 5 #[r0.val, fiVal d len1 len1 lim1, .int .i64 z2] W fun e w' => ∃ (x : Option Addr) (k : Nat) (y : Option Addr) (l : Nat), e = .returned (.tuple #[RC.val, fiVal x K k T, .slice y M l, U.val, .bool O]) ∧ (ZI W.heap.size w'.heap.size w' y (M * 6) (flat f1) ∧ ZI W.heap.size w'.heap.size w' x (K * 6) (flat Qf)) ∧ Below W.heap.size W w') := fun W d hd => by
      have h := scodelPop_any r0 d len1 len1 f1 lim1 z2 W hn (Nat.le_refl _) hd w2.1 w2.2
      rw [hRC, hK, hT, hM, hU, hO, hQ] at h
      exact h
    have HI : Hid (∀ (W : World) (d : Option Addr), PR W.heap.size W d len1 f1 → Calls Try.prog 8 #[r0.val, fiVal d len1 len1 lim1, .int .i64 z2] W fun e w' => ∃ (x : Option Addr) (k : Nat) (y : Option Addr) (l : Nat), e = .returned (.tuple #[RC.val, fiVal x K k T, .slice y M l, U.val, .bool O]) ∧ (∃ m : Nat, W.heap.size ≤ m ∧ m ≤ w'.heap.size ∧ ZI W.heap.size m w' y (M * 6) (flat f1) ∧ ZI m w'.heap.size w' x (K * 6) (flat Qf)) ∧ Below W.heap.size W w') := fun W d hd => by
      have h := icodelPop_any r0 d len1 len1 f1 lim1 z2 W hn (Nat.le_refl _) hd w2.1 w2.2
      rw [hRC, hK, hT, hM, hU, hO, hQ] at h
      exact h
    have HKL : Hid (K ≤ 1048576) := by show _ ≤ _; rw [← hK]; exact Nat.le_trans (popK_le _ _ _ _ _) hn
    have HML : Hid (M ≤ 1048576) := by show _ ≤ _; rw [← hM]; exact Nat.le_trans (popM_le _ _ _ _ _) hn
    clear hRC hK hT hM hU hO hQ
    have hsz : decide (1048576 - (len1 : Int) < 0) = false := by simp; omega
    obtain ⟨W0, hW0⟩ : ∃ W, (w.alloc (.cells #[.int .i64 r0.tg, .int .i64 r0.iv, .int .i64 r0.fi, .int .i64 r0.nx, .int .i64 r0.ct, .int .i64 r0.la, .bool r0.dr] 23)).alloc (.cells #[.slice a1 len1 cap1, .int .i64 lim1] 26) = W := ⟨_, rfl⟩
    have lC : Sits W0 w.heap.size (cdCells r0) 23 := by rw [← hW0]; exact (Sits.new _ _ _).alloc _
    have lA : Lies W0 (w.heap.size + 1) #[.slice a1 len1 cap1, .int .i64 lim1] 26 := by rw [← hW0]; have := Lies.new (w.alloc (.cells (cdCells r0) 23)) #[.slice a1 len1 cap1, .int .i64 lim1] 26; simp only [World.size_alloc] at this; exact this
    have B : Below w.heap.size w W0 := by rw [← hW0]; exact ((Below.refl _ _).alloc (Nat.le_refl _) _).alloc (by simp) _
    obtain ⟨ka0, ka1⟩ := fi2_cells lA
    set_option maxRecDepth 100000 in go_enter Try.func3, Try.ntmps3
    set_option maxRecDepth 100000 in go_wp2_with (go_at_call 4; refine (szFifo_any a1 len1 cap1 lim1 1048576 _ hmax (by omega) (by omega)).mono ?_; rintro o v1 ⟨rfl, b1⟩; rw [if_neg hbig]; obtain ⟨k0, k1⟩ := fi2_cells (lA.below b1 lA.lt); obtain ⟨c0, c1, c2, c3, c4, c5, c6⟩ := cd_cells (lC.below b1 lC.lt))
    replace lA := lA.below b1 lA.lt
    replace lC := lC.below b1 lC.lt
    replace B := B.trans (b1.mono B.size)
    clear b1 hW0 ka0 ka1 c0 c1 c2 c3 c4 c5 c6 k0 k1
    have hSB : Hid (∀ W, Below v1.heap.size v1 W → Sits W w.heap.size (cdCells r0) 23 ∧ Lies W (w.heap.size + 1) #[.slice a1 len1 cap1, .int .i64 lim1] 26) := fun W hW => ⟨lC.below hW lC.lt, lA.below hW lA.lt⟩
    set_option maxRecDepth 100000 in go_cut [8, 9, 10, 11, 12] from 27 (fun s8 s9 s10 s11 s12 wx => ∃ (V8 V9 V11 : Nat) (x : Option Addr) (k : Nat) (y : Option Addr) (l S E : Nat), s8 = .pointer (some ⟨V8, 0, none⟩) ∧ s9 = .pointer (some ⟨V9, 0, none⟩) ∧ s10 = .slice y M l ∧ s11 = .pointer (some ⟨V11, 0, none⟩) ∧ s12 = .bool O ∧ WS v1 [(S, E, y, M * 6, flat f1), (S, E, x, K * 6, flat Qf)] [(V8, cdCells RC, 28), (V9, #[.slice x K k, .int .i64 T], 31), (V11, pkCells U, 33)] wx)
    case first =>
      refine wp_region_inv0 (by kernel_rfl) (fun a0 v1 listed a w => ∃ (b0 b1 b2 b3 b4 b5 b6 b7 b8 b9 b10 b11 b12 b13 b14 b15 b16 b17 b18 b19 : Bool) (d x : Option Addr) (k : Nat) (y : Option Addr) (l S E V8 V9 V11 : Nat), listed = #[b0, b1, b2, b3, b4, b5, b6, b7, b8, b9, b10, b11, b12, b13, b14, b15, b16, b17, b18, b19] ∧ a = setAll a0 [(33, bif b0 then r0.val else undef), (34, bif b1 then r0.val else undef), (35, bif b2 then fiVal a1 len1 cap1 lim1 else undef), (36, bif b3 then fiVal d len1 len1 lim1 else undef), (37, bif b4 then (.int .i64 z2) else undef), (38, bif b5 then (.tuple #[RC.val, fiVal x K k T, .slice y M l, U.val, .bool O]) else undef), (32, bif b6 then (.tuple #[RC.val, fiVal x K k T, .slice y M l, U.val, .bool O]) else undef), (39, bif b7 then RC.val else undef), (40, bif b8 then fiVal x K k T else undef), (41, bif b9 then (.slice y M l) else undef), (42, bif b10 then U.val else undef), (43, bif b11 then (.bool O) else undef), (8, bif b12 then (.pointer (some ⟨V8, 0, none⟩)) else undef), (9, bif b13 then (.pointer (some ⟨V9, 0, none⟩)) else undef), (11, bif b14 then (.pointer (some ⟨V11, 0, none⟩)) else undef), (10, bif b17 then (.slice y M l) else undef), (12, bif b19 then (.bool O) else undef)] ∧ WS v1 (bif b5 then [(S, E, y, M * 6, flat f1), (S, E, x, K * 6, flat Qf)] else []) ((bif b12 then [(V8, bif b15 then cdCells RC else cdCells Cd.zero, 28)] else []) ++ ((bif b13 then [(V9, bif b16 then #[.slice x K k, .int .i64 T] else #[.slice none 0 0, .int .i64 0], 31)] else []) ++ ((bif b14 then [(V11, bif b18 then pkCells U else pkCells ⟨0, 0, 0, 0, 0, 0⟩, 33)] else [])))) w ∧ (b3 = true ∧ b5 = false → PR w.heap.size w d len1 f1) ∧ (b5 = false → b6 = false ∧ b7 = false ∧ b8 = false ∧ b9 = false ∧ b10 = false ∧ b11 = false ∧ b15 = false ∧ b16 = false ∧ b17 = false ∧ b18 = false ∧ b19 = false) ∧ (b12 = false → b15 = false) ∧ (b13 = false → b16 = false) ∧ (b14 = false → b18 = false)) ?start ?step ?fin
      case start => exact ⟨false, false, false, false, false, false, false, false, false, false, false, false, false, false, false, false, false, false, false, false, none, none, 0, none, 0, 0, 0, 0, 0, 0, rfl, by simp only [setAll, List.setIfInBounds_toArray, List.set_cons_zero, List.set_cons_succ, cond_false], WS.start _, fun h => absurd h (by simp), fun _ => ⟨rfl, rfl, rfl, rfl, rfl, rfl, rfl, rfl, rfl, rfl, rfl⟩, fun _ => rfl, fun _ => rfl, fun _ => rfl⟩
      case step =>
        rintro listed a' w' i ⟨b0, b1, b2, b3, b4, b5, b6, b7, b8, b9, b10, b11, b12, b13, b14, b15, b16, b17, b18, b19, d, x, k, y, l, S, E, V8, V9, V11, rfl, rfl, ws, hpr, clc, clb0, clb1, clb2⟩ hr
        have hlt : i < 20 := (ready_at hr).1
        have hi : i = 0 ∨ i = 1 ∨ i = 2 ∨ i = 3 ∨ i = 4 ∨ i = 5 ∨ i = 6 ∨ i = 7 ∨ i = 8 ∨ i = 9 ∨ i = 10 ∨ i = 11 ∨ i = 12 ∨ i = 13 ∨ i = 14 ∨ i = 15 ∨ i = 16 ∨ i = 17 ∨ i = 18 ∨ i = 19 := by omega
        clear hlt
        rcases hi with rfl | rfl | rfl | rfl | rfl | rfl | rfl | rfl | rfl | rfl | rfl | rfl | rfl | rfl | rfl | rfl | rfl | rfl | rfl | rfl
        · obtain ⟨hb, hd⟩ := ready_dep hr _ rfl
          replace hb : b0 = false := hb
          subst hb
          obtain ⟨sC, lF⟩ := hSB.out _ ws.bel
          obtain ⟨c0, c1, c2, c3, c4, c5, c6⟩ := cd_cells sC
          obtain ⟨k0, k1⟩ := fi2_cells lF
          refine wpOp_of_k fun K' HK' => ⟨_, rfl, ?_⟩
          have HW : Hid _ := ws
          have HPR : Hid _ := hpr
          have HCC : Hid _ := clc
          have HCB0 : Hid _ := clb0
          have HCB1 : Hid _ := clb1
          have HCB2 : Hid _ := clb2
          clear ws hpr clc clb0 clb1 clb2
          simp only [List.getElem_toArray, List.getElem_cons_zero]
          simp only [setAll, List.setIfInBounds_toArray, List.set_cons_zero, List.set_cons_succ, cond_false]
          go_wp2_with (fail)
          have ws := HW.out
          have hpr := HPR.out
          have clc := HCC.out
          have clb0 := HCB0.out
          have clb1 := HCB1.out
          have clb2 := HCB2.out
          refine HK'.out _ _ ?_
          exact ⟨true, b1, b2, b3, b4, b5, b6, b7, b8, b9, b10, b11, b12, b13, b14, b15, b16, b17, b18, b19, d, x, k, y, l, S, E, V8, V9, V11, rfl, (by simp only [setAll, List.setIfInBounds_toArray, List.set_cons_zero, List.set_cons_succ, cond_true]), ws, hpr, clc, clb0, clb1, clb2⟩
        · obtain ⟨hb, hd⟩ := ready_dep hr _ rfl
          replace hb : b1 = false := hb
          subst hb
          simp [Region.binds] at hd
          subst hd
          refine wpOp_of_k fun K' HK' => ⟨_, rfl, ?_⟩
          have HW : Hid _ := ws
          have HPR : Hid _ := hpr
          have HCC : Hid _ := clc
          have HCB0 : Hid _ := clb0
          have HCB1 : Hid _ := clb1
          have HCB2 : Hid _ := clb2
          clear ws hpr clc clb0 clb1 clb2
          simp only [List.getElem_toArray, List.getElem_cons_zero, List.getElem_cons_succ]
          simp only [setAll, List.setIfInBounds_toArray, List.set_cons_zero, List.set_cons_succ, cond_true, cond_false]
          go_wp2_with (go_at_call 6; refine (toCodel_any r0 _).mono ?_; rintro e w9 ⟨rfl, kq9⟩)
          have ws := HW.out
          have hpr := HPR.out
          have clc := HCC.out
          have clb0 := HCB0.out
          have clb1 := HCB1.out
          have clb2 := HCB2.out
          refine HK'.out _ _ ?_
          exact ⟨true, true, b2, b3, b4, b5, b6, b7, b8, b9, b10, b11, b12, b13, b14, b15, b16, b17, b18, b19, d, x, k, y, l, S, E, V8, V9, V11, rfl, (by simp only [setAll, List.setIfInBounds_toArray, List.set_cons_zero, List.set_cons_succ, cond_true]), ws.below kq9.1, fun h => ((hpr h).below kq9.1).mono kq9.1.size, clc, clb0, clb1, clb2⟩
        · obtain ⟨hb, hd⟩ := ready_dep hr _ rfl
          replace hb : b2 = false := hb
          subst hb
          obtain ⟨sC, lF⟩ := hSB.out _ ws.bel
          obtain ⟨c0, c1, c2, c3, c4, c5, c6⟩ := cd_cells sC
          obtain ⟨k0, k1⟩ := fi2_cells lF
          refine wpOp_of_k fun K' HK' => ⟨_, rfl, ?_⟩
          have HW : Hid _ := ws
          have HPR : Hid _ := hpr
          have HCC : Hid _ := clc
          have HCB0 : Hid _ := clb0
          have HCB1 : Hid _ := clb1
          have HCB2 : Hid _ := clb2
          clear ws hpr clc clb0 clb1 clb2
          simp only [List.getElem_toArray, List.getElem_cons_zero, List.getElem_cons_succ]
          simp only [setAll, List.setIfInBounds_toArray, List.set_cons_zero, List.set_cons_succ, cond_false]
          go_wp2_with (fail)
          have ws := HW.out
          have hpr := HPR.out
          have clc := HCC.out
          have clb0 := HCB0.out
          have clb1 := HCB1.out
          have clb2 := HCB2.out
          refine HK'.out _ _ ?_
          exact ⟨b0, b1, true, b3, b4, b5, b6, b7, b8, b9, b10, b11, b12, b13, b14, b15, b16, b17, b18, b19, d, x, k, y, l, S, E, V8, V9, V11, rfl, (by simp only [setAll, List.setIfInBounds_toArray, List.set_cons_zero, List.set_cons_succ, cond_true]), ws, hpr, clc, clb0, clb1, clb2⟩
        · obtain ⟨hb, hd⟩ := ready_dep hr _ rfl
          replace hb : b3 = false := hb
          subst hb
          simp [Region.binds] at hd
          obtain ⟨rfl, rfl⟩ := hd
          have hbw : Below w.heap.size w w' := B.trans (ws.bel.mono B.size)
          refine wpOp_of_k fun K' HK' => ⟨_, rfl, ?_⟩
          have HW : Hid _ := ws
          have HPR : Hid _ := hpr
          have HCC : Hid _ := clc
          have HCB0 : Hid _ := clb0
          have HCB1 : Hid _ := clb1
          have HCB2 : Hid _ := clb2
          clear ws hpr clc clb0 clb1 clb2
          simp only [List.getElem_toArray, List.getElem_cons_zero, List.getElem_cons_succ]
          simp only [setAll, List.setIfInBounds_toArray, List.set_cons_zero, List.set_cons_succ, cond_true, cond_false]
          go_wp2_with (go_at_call 7; refine (toFifo_any a1 len1 cap1 lim1 f1 _ ((PR.below HR.out hbw).mono hbw.size) hn).mono ?_; rintro e w9 ⟨d9, rfl, z9, bq9⟩)
          have ws := HW.out
          have hpr := HPR.out
          have clc := HCC.out
          have clb0 := HCB0.out
          have clb1 := HCB1.out
          have clb2 := HCB2.out
          refine HK'.out _ _ ?_
          exact ⟨b0, true, true, true, b4, b5, b6, b7, b8, b9, b10, b11, b12, b13, b14, b15, b16, b17, b18, b19, d9, x, k, y, l, S, E, V8, V9, V11, rfl, (by simp only [setAll, List.setIfInBounds_toArray, List.set_cons_zero, List.set_cons_succ, cond_true]), ws.below bq9, fun _ => ZI.pr z9, clc, clb0, clb1, clb2⟩
        · obtain ⟨hb, hd⟩ := ready_dep hr _ rfl
          replace hb : b4 = false := hb
          subst hb
          refine wpOp_of_k fun K' HK' => ⟨_, rfl, ?_⟩
          have HW : Hid _ := ws
          have HPR : Hid _ := hpr
          have HCC : Hid _ := clc
          have HCB0 : Hid _ := clb0
          have HCB1 : Hid _ := clb1
          have HCB2 : Hid _ := clb2
          clear ws hpr clc clb0 clb1 clb2
          simp only [List.getElem_toArray, List.getElem_cons_zero, List.getElem_cons_succ]
          simp only [setAll, List.setIfInBounds_toArray, List.set_cons_zero, List.set_cons_succ, cond_false]
          go_wp2_with (fail)
          have ws := HW.out
          have hpr := HPR.out
          have clc := HCC.out
          have clb0 := HCB0.out
          have clb1 := HCB1.out
          have clb2 := HCB2.out
          refine HK'.out _ _ ?_
          exact ⟨b0, b1, b2, b3, true, b5, b6, b7, b8, b9, b10, b11, b12, b13, b14, b15, b16, b17, b18, b19, d, x, k, y, l, S, E, V8, V9, V11, rfl, (by simp only [setAll, List.setIfInBounds_toArray, List.set_cons_zero, List.set_cons_succ, cond_true]), ws, hpr, clc, clb0, clb1, clb2⟩
        · obtain ⟨hb, hd⟩ := ready_dep hr _ rfl
          replace hb : b5 = false := hb
          subst hb
          simp [Region.binds] at hd
          obtain ⟨rfl, rfl, rfl, _⟩ := hd
          obtain ⟨rfl, rfl, rfl, rfl, rfl, rfl, rfl, rfl, rfl, rfl, rfl⟩ := clc rfl
          refine wpOp_of_k fun K' HK' => ⟨_, rfl, ?_⟩
          have HW : Hid _ := ws
          have HPR : Hid _ := hpr
          have HCC : Hid _ := clc
          have HCB0 : Hid _ := clb0
          have HCB1 : Hid _ := clb1
          have HCB2 : Hid _ := clb2
          clear ws hpr clc clb0 clb1 clb2
          simp only [List.getElem_toArray, List.getElem_cons_zero, List.getElem_cons_succ]
          simp only [setAll, List.setIfInBounds_toArray, List.set_cons_zero, List.set_cons_succ, cond_true, cond_false]
          go_wp2_with (go_at_call 5; refine (HS.out _ d (HPR.out ⟨rfl, rfl⟩)).mono ?_; rintro e w9 ⟨x9, k9, y9, l9, rfl, ⟨zy, zx⟩, bq9⟩)
          have ws := HW.out
          have hpr := HPR.out
          have clc := HCC.out
          have clb0 := HCB0.out
          have clb1 := HCB1.out
          have clb2 := HCB2.out
          refine HK'.out _ _ ?_
          exact ⟨b0, true, b2, true, true, true, false, false, false, false, false, false, b12, b13, b14, false, false, false, false, false, d, x9, k9, y9, l9, w'.heap.size, w9.heap.size, V8, V9, V11, rfl, (by simp only [setAll, List.setIfInBounds_toArray, List.set_cons_zero, List.set_cons_succ, cond_true, cond_false]), WS.call (ys := [(w'.heap.size, w9.heap.size, y9, M * 6, flat f1), (w'.heap.size, w9.heap.size, x9, K * 6, flat Qf)]) ws bq9 (by intro z hz; simp only [List.mem_cons, List.not_mem_nil, or_false] at hz; rcases hz with rfl | rfl <;> first | exact ⟨Nat.le_refl _, Nat.le_refl _, zy⟩ | exact ⟨Nat.le_refl _, Nat.le_refl _, zx⟩), fun h => absurd h.2 (by simp), fun h => absurd h (by simp), fun _ => rfl, fun _ => rfl, fun _ => rfl⟩
        · obtain ⟨hb, hd⟩ := ready_dep hr _ rfl
          replace hb : b6 = false := hb
          subst hb
          simp [Region.binds] at hd
          subst hd
          refine wpOp_of_k fun K' HK' => ⟨_, rfl, ?_⟩
          have HW : Hid _ := ws
          have HPR : Hid _ := hpr
          have HCC : Hid _ := clc
          have HCB0 : Hid _ := clb0
          have HCB1 : Hid _ := clb1
          have HCB2 : Hid _ := clb2
          clear ws hpr clc clb0 clb1 clb2
          simp only [List.getElem_toArray, List.getElem_cons_zero, List.getElem_cons_succ]
          simp only [setAll, List.setIfInBounds_toArray, List.set_cons_zero, List.set_cons_succ, cond_true, cond_false]
          go_wp2_with (fail)
          have ws := HW.out
          have hpr := HPR.out
          have clc := HCC.out
          have clb0 := HCB0.out
          have clb1 := HCB1.out
          have clb2 := HCB2.out
          refine HK'.out _ _ ?_
          exact ⟨b0, b1, b2, b3, b4, true, true, b7, b8, b9, b10, b11, b12, b13, b14, b15, b16, b17, b18, b19, d, x, k, y, l, S, E, V8, V9, V11, rfl, (by simp only [setAll, List.setIfInBounds_toArray, List.set_cons_zero, List.set_cons_succ, cond_true]), ws, fun h => absurd h.2 (by simp), fun h => absurd h (by simp), clb0, clb1, clb2⟩
        · obtain ⟨hb, hd⟩ := ready_dep hr _ rfl
          replace hb : b7 = false := hb
          subst hb
          simp [Region.binds] at hd
          subst hd
          obtain rfl : b5 = true := by
            cases b5 with
            | true => rfl
            | false => have h := clc rfl; simp at h
          refine wpOp_of_k fun K' HK' => ⟨_, rfl, ?_⟩
          have HW : Hid _ := ws
          have HPR : Hid _ := hpr
          have HCC : Hid _ := clc
          have HCB0 : Hid _ := clb0
          have HCB1 : Hid _ := clb1
          have HCB2 : Hid _ := clb2
          clear ws hpr clc clb0 clb1 clb2
          simp only [List.getElem_toArray, List.getElem_cons_zero, List.getElem_cons_succ]
          simp only [setAll, List.setIfInBounds_toArray, List.set_cons_zero, List.set_cons_succ, cond_true, cond_false]
          go_wp2_with (fail)
          have ws := HW.out
          have hpr := HPR.out
          have clc := HCC.out
          have clb0 := HCB0.out
          have clb1 := HCB1.out
          have clb2 := HCB2.out
          refine HK'.out _ _ ?_
          exact ⟨b0, b1, b2, b3, b4, true, true, true, b8, b9, b10, b11, b12, b13, b14, b15, b16, b17, b18, b19, d, x, k, y, l, S, E, V8, V9, V11, rfl, (by simp only [setAll, List.setIfInBounds_toArray, List.set_cons_zero, List.set_cons_succ, cond_true]), ws, fun h => absurd h.2 (by simp), fun h => absurd h (by simp), clb0, clb1, clb2⟩
        · obtain ⟨hb, hd⟩ := ready_dep hr _ rfl
          replace hb : b8 = false := hb
          subst hb
          simp [Region.binds] at hd
          subst hd
          obtain rfl : b5 = true := by
            cases b5 with
            | true => rfl
            | false => have h := clc rfl; simp at h
          refine wpOp_of_k fun K' HK' => ⟨_, rfl, ?_⟩
          have HW : Hid _ := ws
          have HPR : Hid _ := hpr
          have HCC : Hid _ := clc
          have HCB0 : Hid _ := clb0
          have HCB1 : Hid _ := clb1
          have HCB2 : Hid _ := clb2
          clear ws hpr clc clb0 clb1 clb2
          simp only [List.getElem_toArray, List.getElem_cons_zero, List.getElem_cons_succ]
          simp only [setAll, List.setIfInBounds_toArray, List.set_cons_zero, List.set_cons_succ, cond_true, cond_false]
          go_wp2_with (fail)
          have ws := HW.out
          have hpr := HPR.out
          have clc := HCC.out
          have clb0 := HCB0.out
          have clb1 := HCB1.out
          have clb2 := HCB2.out
          refine HK'.out _ _ ?_
          exact ⟨b0, b1, b2, b3, b4, true, true, b7, true, b9, b10, b11, b12, b13, b14, b15, b16, b17, b18, b19, d, x, k, y, l, S, E, V8, V9, V11, rfl, (by simp only [setAll, List.setIfInBounds_toArray, List.set_cons_zero, List.set_cons_succ, cond_true]), ws, fun h => absurd h.2 (by simp), fun h => absurd h (by simp), clb0, clb1, clb2⟩
        · obtain ⟨hb, hd⟩ := ready_dep hr _ rfl
          replace hb : b9 = false := hb
          subst hb
          simp [Region.binds] at hd
          subst hd
          obtain rfl : b5 = true := by
            cases b5 with
            | true => rfl
            | false => have h := clc rfl; simp at h
          refine wpOp_of_k fun K' HK' => ⟨_, rfl, ?_⟩
          have HW : Hid _ := ws
          have HPR : Hid _ := hpr
          have HCC : Hid _ := clc
          have HCB0 : Hid _ := clb0
          have HCB1 : Hid _ := clb1
          have HCB2 : Hid _ := clb2
          clear ws hpr clc clb0 clb1 clb2
          simp only [List.getElem_toArray, List.getElem_cons_zero, List.getElem_cons_succ]
          simp only [setAll, List.setIfInBounds_toArray, List.set_cons_zero, List.set_cons_succ, cond_true, cond_false]
          go_wp2_with (fail)
          have ws := HW.out
          have hpr := HPR.out
          have clc := HCC.out
          have clb0 := HCB0.out
          have clb1 := HCB1.out
          have clb2 := HCB2.out
          refine HK'.out _ _ ?_
          exact ⟨b0, b1, b2, b3, b4, true, true, b7, b8, true, b10, b11, b12, b13, b14, b15, b16, b17, b18, b19, d, x, k, y, l, S, E, V8, V9, V11, rfl, (by simp only [setAll, List.setIfInBounds_toArray, List.set_cons_zero, List.set_cons_succ, cond_true]), ws, fun h => absurd h.2 (by simp), fun h => absurd h (by simp), clb0, clb1, clb2⟩
        · obtain ⟨hb, hd⟩ := ready_dep hr _ rfl
          replace hb : b10 = false := hb
          subst hb
          simp [Region.binds] at hd
          subst hd
          obtain rfl : b5 = true := by
            cases b5 with
            | true => rfl
            | false => have h := clc rfl; simp at h
          refine wpOp_of_k fun K' HK' => ⟨_, rfl, ?_⟩
          have HW : Hid _ := ws
          have HPR : Hid _ := hpr
          have HCC : Hid _ := clc
          have HCB0 : Hid _ := clb0
          have HCB1 : Hid _ := clb1
          have HCB2 : Hid _ := clb2
          clear ws hpr clc clb0 clb1 clb2
          simp only [List.getElem_toArray, List.getElem_cons_zero, List.getElem_cons_succ]
          simp only [setAll, List.setIfInBounds_toArray, List.set_cons_zero, List.set_cons_succ, cond_true, cond_false]
          go_wp2_with (fail)
          have ws := HW.out
          have hpr := HPR.out
          have clc := HCC.out
          have clb0 := HCB0.out
          have clb1 := HCB1.out
          have clb2 := HCB2.out
          refine HK'.out _ _ ?_
          exact ⟨b0, b1, b2, b3, b4, true, true, b7, b8, b9, true, b11, b12, b13, b14, b15, b16, b17, b18, b19, d, x, k, y, l, S, E, V8, V9, V11, rfl, (by simp only [setAll, List.setIfInBounds_toArray, List.set_cons_zero, List.set_cons_succ, cond_true]), ws, fun h => absurd h.2 (by simp), fun h => absurd h (by simp), clb0, clb1, clb2⟩
        · obtain ⟨hb, hd⟩ := ready_dep hr _ rfl
          replace hb : b11 = false := hb
          subst hb
          simp [Region.binds] at hd
          subst hd
          obtain rfl : b5 = true := by
            cases b5 with
            | true => rfl
            | false => have h := clc rfl; simp at h
          refine wpOp_of_k fun K' HK' => ⟨_, rfl, ?_⟩
          have HW : Hid _ := ws
          have HPR : Hid _ := hpr
          have HCC : Hid _ := clc
          have HCB0 : Hid _ := clb0
          have HCB1 : Hid _ := clb1
          have HCB2 : Hid _ := clb2
          clear ws hpr clc clb0 clb1 clb2
          simp only [List.getElem_toArray, List.getElem_cons_zero, List.getElem_cons_succ]
          simp only [setAll, List.setIfInBounds_toArray, List.set_cons_zero, List.set_cons_succ, cond_true, cond_false]
          go_wp2_with (fail)
          have ws := HW.out
          have hpr := HPR.out
          have clc := HCC.out
          have clb0 := HCB0.out
          have clb1 := HCB1.out
          have clb2 := HCB2.out
          refine HK'.out _ _ ?_
          exact ⟨b0, b1, b2, b3, b4, true, true, b7, b8, b9, b10, true, b12, b13, b14, b15, b16, b17, b18, b19, d, x, k, y, l, S, E, V8, V9, V11, rfl, (by simp only [setAll, List.setIfInBounds_toArray, List.set_cons_zero, List.set_cons_succ, cond_true]), ws, fun h => absurd h.2 (by simp), fun h => absurd h (by simp), clb0, clb1, clb2⟩
        · obtain ⟨hb, hd⟩ := ready_dep hr _ rfl
          replace hb : b12 = false := hb
          subst hb
          obtain rfl := clb0 rfl
          have hbb : Below w'.heap.size w' (w'.alloc (.cells (cdCells Cd.zero) 28)) := (Below.refl _ _).alloc (Nat.le_refl _) _
          refine wpOp_of_k fun K' HK' => ⟨_, rfl, ?_⟩
          have HW : Hid _ := ws
          have HPR : Hid _ := hpr
          have HCC : Hid _ := clc
          have HCB0 : Hid _ := clb0
          have HCB1 : Hid _ := clb1
          have HCB2 : Hid _ := clb2
          clear ws hpr clc clb0 clb1 clb2
          simp only [List.getElem_toArray, List.getElem_cons_zero, List.getElem_cons_succ]
          simp only [setAll, List.setIfInBounds_toArray, List.set_cons_zero, List.set_cons_succ, cond_false]
          go_wp2_with (fail)
          have ws := HW.out
          have hpr := HPR.out
          have clc := HCC.out
          have clb0 := HCB0.out
          have clb1 := HCB1.out
          have clb2 := HCB2.out
          have wsn := WS.alloc0 (cs := cdCells Cd.zero) (t := 28) ws
          refine HK'.out _ _ ?_
          exact ⟨b0, b1, b2, b3, b4, b5, b6, b7, b8, b9, b10, b11, true, b13, b14, false, b16, b17, b18, b19, d, x, k, y, l, S, E, w'.heap.size, V9, V11, rfl, (by simp only [setAll, List.setIfInBounds_toArray, List.set_cons_zero, List.set_cons_succ, cond_true]), wsn, fun h => ((hpr h).below hbb).mono hbb.size, fun h => by simpa using clc h, fun h => absurd h (by simp), clb1, clb2⟩
        · obtain ⟨hb, hd⟩ := ready_dep hr _ rfl
          replace hb : b13 = false := hb
          subst hb
          obtain rfl := clb1 rfl
          have hbb : Below w'.heap.size w' (w'.alloc (.cells (#[.slice none 0 0, .int .i64 0]) 31)) := (Below.refl _ _).alloc (Nat.le_refl _) _
          refine wpOp_of_k fun K' HK' => ⟨_, rfl, ?_⟩
          have HW : Hid _ := ws
          have HPR : Hid _ := hpr
          have HCC : Hid _ := clc
          have HCB0 : Hid _ := clb0
          have HCB1 : Hid _ := clb1
          have HCB2 : Hid _ := clb2
          clear ws hpr clc clb0 clb1 clb2
          simp only [List.getElem_toArray, List.getElem_cons_zero, List.getElem_cons_succ]
          simp only [setAll, List.setIfInBounds_toArray, List.set_cons_zero, List.set_cons_succ, cond_false]
          go_wp2_with (fail)
          have ws := HW.out
          have hpr := HPR.out
          have clc := HCC.out
          have clb0 := HCB0.out
          have clb1 := HCB1.out
          have clb2 := HCB2.out
          have wsn := WS.alloc1 (cs := #[.slice none 0 0, .int .i64 0]) (t := 31) ws
          refine HK'.out _ _ ?_
          exact ⟨b0, b1, b2, b3, b4, b5, b6, b7, b8, b9, b10, b11, b12, true, b14, b15, false, b17, b18, b19, d, x, k, y, l, S, E, V8, w'.heap.size, V11, rfl, (by simp only [setAll, List.setIfInBounds_toArray, List.set_cons_zero, List.set_cons_succ, cond_true]), wsn, fun h => ((hpr h).below hbb).mono hbb.size, fun h => by simpa using clc h, clb0, fun h => absurd h (by simp), clb2⟩
        · obtain ⟨hb, hd⟩ := ready_dep hr _ rfl
          replace hb : b14 = false := hb
          subst hb
          obtain rfl := clb2 rfl
          have hbb : Below w'.heap.size w' (w'.alloc (.cells (pkCells ⟨0, 0, 0, 0, 0, 0⟩) 33)) := (Below.refl _ _).alloc (Nat.le_refl _) _
          refine wpOp_of_k fun K' HK' => ⟨_, rfl, ?_⟩
          have HW : Hid _ := ws
          have HPR : Hid _ := hpr
          have HCC : Hid _ := clc
          have HCB0 : Hid _ := clb0
          have HCB1 : Hid _ := clb1
          have HCB2 : Hid _ := clb2
          clear ws hpr clc clb0 clb1 clb2
          simp only [List.getElem_toArray, List.getElem_cons_zero, List.getElem_cons_succ]
          simp only [setAll, List.setIfInBounds_toArray, List.set_cons_zero, List.set_cons_succ, cond_false]
          go_wp2_with (fail)
          have ws := HW.out
          have hpr := HPR.out
          have clc := HCC.out
          have clb0 := HCB0.out
          have clb1 := HCB1.out
          have clb2 := HCB2.out
          have wsn := WS.alloc2 (cs := pkCells ⟨0, 0, 0, 0, 0, 0⟩) (t := 33) ws
          refine HK'.out _ _ ?_
          exact ⟨b0, b1, b2, b3, b4, b5, b6, b7, b8, b9, b10, b11, b12, b13, true, b15, b16, b17, false, b19, d, x, k, y, l, S, E, V8, V9, w'.heap.size, rfl, (by simp only [setAll, List.setIfInBounds_toArray, List.set_cons_zero, List.set_cons_succ, cond_true]), wsn, fun h => ((hpr h).below hbb).mono hbb.size, fun h => by simpa using clc h, clb0, clb1, fun h => absurd h (by simp)⟩
        · obtain ⟨hb, hd⟩ := ready_dep hr _ rfl
          replace hb : b15 = false := hb
          subst hb
          simp [Region.binds] at hd
          obtain ⟨rfl, rfl, rfl, rfl, rfl, rfl, rfl, rfl, _, rfl, _, _, rfl, rfl⟩ := hd
          have s9 := WS.at0 ws
          have fz := Sits.frozen s9
          have y0 : w'.cell? ⟨V8, 0, none⟩ = some (.int .i64 0) := Sits.cell s9 0
          have y1 : w'.cell? ⟨V8, 1, none⟩ = some (.int .i64 0) := Sits.cell s9 1
          have y2 : w'.cell? ⟨V8, 2, none⟩ = some (.int .i64 0) := Sits.cell s9 2
          have y3 : w'.cell? ⟨V8, 3, none⟩ = some (.int .i64 0) := Sits.cell s9 3
          have y4 : w'.cell? ⟨V8, 4, none⟩ = some (.int .i64 0) := Sits.cell s9 4
          have y5 : w'.cell? ⟨V8, 5, none⟩ = some (.int .i64 0) := Sits.cell s9 5
          have y6 : w'.cell? ⟨V8, 6, none⟩ = some (.bool false) := Sits.cell s9 6
          refine wpOp_of_k fun K' HK' => ⟨_, rfl, ?_⟩
          have HW : Hid _ := ws
          have HPR : Hid _ := hpr
          have HCC : Hid _ := clc
          have HCB0 : Hid _ := clb0
          have HCB1 : Hid _ := clb1
          have HCB2 : Hid _ := clb2
          clear ws hpr clc clb0 clb1 clb2
          simp only [List.getElem_toArray, List.getElem_cons_zero, List.getElem_cons_succ]
          simp only [setAll, List.setIfInBounds_toArray, List.set_cons_zero, List.set_cons_succ, cond_true]
          go_wp2_with (fail)
          have ws := HW.out
          have hpr := HPR.out
          have clc := HCC.out
          have clb0 := HCB0.out
          have clb1 := HCB1.out
          have clb2 := HCB2.out
          have wsn := (WS.store0 (WS.store0 (WS.store0 (WS.store0 (WS.store0 (WS.store0 (WS.store0 ws 0 (.int .i64 RC.tg)) 1 (.int .i64 RC.iv)) 2 (.int .i64 RC.fi)) 3 (.int .i64 RC.nx)) 4 (.int .i64 RC.ct)) 5 (.int .i64 RC.la)) 6 (.bool RC.dr))
          refine HK'.out _ _ ?_
          exact ⟨true, true, true, true, true, true, true, true, b8, b9, b10, b11, true, true, true, true, b16, b17, b18, b19, d, x, k, y, l, S, E, V8, V9, V11, rfl, (by simp only [setAll, List.setIfInBounds_toArray, List.set_cons_zero, List.set_cons_succ, cond_true]), wsn, fun h => absurd h.2 (by simp), fun h => absurd h (by simp), fun h => absurd h (by simp), clb1, clb2⟩
        · obtain ⟨hb, hd⟩ := ready_dep hr _ rfl
          replace hb : b16 = false := hb
          subst hb
          simp [Region.binds] at hd
          obtain ⟨rfl, rfl, rfl, rfl, rfl, rfl, rfl, rfl, rfl, rfl, rfl, _, rfl, _, rfl, _⟩ := hd
          have s9 := WS.at1 ws
          have fz := Sits.frozen s9
          have y0 : w'.cell? ⟨V9, 0, none⟩ = some (.slice none 0 0) := Sits.cell s9 0
          have y1 : w'.cell? ⟨V9, 1, none⟩ = some (.int .i64 0) := Sits.cell s9 1
          refine wpOp_of_k fun K' HK' => ⟨_, rfl, ?_⟩
          have HW : Hid _ := ws
          have HPR : Hid _ := hpr
          have HCC : Hid _ := clc
          have HCB0 : Hid _ := clb0
          have HCB1 : Hid _ := clb1
          have HCB2 : Hid _ := clb2
          clear ws hpr clc clb0 clb1 clb2
          simp only [List.getElem_toArray, List.getElem_cons_zero, List.getElem_cons_succ]
          simp only [setAll, List.setIfInBounds_toArray, List.set_cons_zero, List.set_cons_succ, cond_true]
          go_wp2_with (fail)
          have ws := HW.out
          have hpr := HPR.out
          have clc := HCC.out
          have clb0 := HCB0.out
          have clb1 := HCB1.out
          have clb2 := HCB2.out
          have wsn := (WS.store1 (WS.store1 ws 0 (.slice x K k)) 1 (.int .i64 T))
          refine HK'.out _ _ ?_
          exact ⟨true, true, true, true, true, true, true, true, true, b9, b10, b11, true, true, true, true, true, b17, b18, b19, d, x, k, y, l, S, E, V8, V9, V11, rfl, (by simp only [setAll, List.setIfInBounds_toArray, List.set_cons_zero, List.set_cons_succ, cond_true]), wsn, fun h => absurd h.2 (by simp), fun h => absurd h (by simp), clb0, fun h => absurd h (by simp), clb2⟩
        · obtain ⟨hb, hd⟩ := ready_dep hr _ rfl
          replace hb : b17 = false := hb
          subst hb
          simp [Region.binds] at hd
          obtain ⟨rfl, rfl, rfl, rfl, rfl, rfl, rfl, rfl, rfl, rfl, rfl, _, rfl, rfl, rfl, rfl, _⟩ := hd
          refine wpOp_of_k fun K' HK' => ⟨_, rfl, ?_⟩
          have HW : Hid _ := ws
          have HPR : Hid _ := hpr
          have HCC : Hid _ := clc
          have HCB0 : Hid _ := clb0
          have HCB1 : Hid _ := clb1
          have HCB2 : Hid _ := clb2
          clear ws hpr clc clb0 clb1 clb2
          simp only [List.getElem_toArray, List.getElem_cons_zero, List.getElem_cons_succ]
          simp only [setAll, List.setIfInBounds_toArray, List.set_cons_zero, List.set_cons_succ, cond_true, cond_false]
          go_wp2_with (fail)
          have ws := HW.out
          have hpr := HPR.out
          have clc := HCC.out
          have clb0 := HCB0.out
          have clb1 := HCB1.out
          have clb2 := HCB2.out
          refine HK'.out _ _ ?_
          exact ⟨true, true, true, true, true, true, true, true, true, true, b10, b11, true, true, true, true, true, true, b18, b19, d, x, k, y, l, S, E, V8, V9, V11, rfl, (by simp only [setAll, List.setIfInBounds_toArray, List.set_cons_zero, List.set_cons_succ, cond_true]), ws, fun h => absurd h.2 (by simp), fun h => absurd h (by simp), clb0, clb1, clb2⟩
        · obtain ⟨hb, hd⟩ := ready_dep hr _ rfl
          replace hb : b18 = false := hb
          subst hb
          simp [Region.binds] at hd
          obtain ⟨rfl, rfl, rfl, rfl, rfl, rfl, rfl, rfl, rfl, rfl, rfl, rfl, rfl, _, rfl, rfl, _, rfl, rfl, _⟩ := hd
          have s9 := WS.at2 ws
          have fz := Sits.frozen s9
          have y0 : w'.cell? ⟨V11, 0, none⟩ = some (.int .i64 0) := Sits.cell s9 0
          have y1 : w'.cell? ⟨V11, 1, none⟩ = some (.int .i64 0) := Sits.cell s9 1
          have y2 : w'.cell? ⟨V11, 2, none⟩ = some (.int .i64 0) := Sits.cell s9 2
          have y3 : w'.cell? ⟨V11, 3, none⟩ = some (.int .i64 0) := Sits.cell s9 3
          have y4 : w'.cell? ⟨V11, 4, none⟩ = some (.int .i64 0) := Sits.cell s9 4
          have y5 : w'.cell? ⟨V11, 5, none⟩ = some (.int .i64 0) := Sits.cell s9 5
          refine wpOp_of_k fun K' HK' => ⟨_, rfl, ?_⟩
          have HW : Hid _ := ws
          have HPR : Hid _ := hpr
          have HCC : Hid _ := clc
          have HCB0 : Hid _ := clb0
          have HCB1 : Hid _ := clb1
          have HCB2 : Hid _ := clb2
          clear ws hpr clc clb0 clb1 clb2
          simp only [List.getElem_toArray, List.getElem_cons_zero, List.getElem_cons_succ]
          simp only [setAll, List.setIfInBounds_toArray, List.set_cons_zero, List.set_cons_succ, cond_true]
          go_wp2_with (fail)
          have ws := HW.out
          have hpr := HPR.out
          have clc := HCC.out
          have clb0 := HCB0.out
          have clb1 := HCB1.out
          have clb2 := HCB2.out
          have wsn := (WS.store2 (WS.store2 (WS.store2 (WS.store2 (WS.store2 (WS.store2 ws 0 (.int .i64 U.id)) 1 (.int .i64 U.flow)) 2 (.int .i64 U.host)) 3 (.int .i64 U.size)) 4 (.int .i64 U.tm)) 5 (.int .i64 U.ecn))
          refine HK'.out _ _ ?_
          exact ⟨true, true, true, true, true, true, true, true, true, true, true, b11, true, true, true, true, true, true, true, b19, d, x, k, y, l, S, E, V8, V9, V11, rfl, (by simp only [setAll, List.setIfInBounds_toArray, List.set_cons_zero, List.set_cons_succ, cond_true]), wsn, fun h => absurd h.2 (by simp), fun h => absurd h (by simp), clb0, clb1, fun h => absurd h (by simp)⟩
        · obtain ⟨hb, hd⟩ := ready_dep hr _ rfl
          replace hb : b19 = false := hb
          subst hb
          simp [Region.binds] at hd
          obtain ⟨rfl, rfl, rfl, rfl, rfl, rfl, rfl, rfl, rfl, rfl, rfl, rfl, rfl, _, rfl, rfl, rfl, rfl, rfl, rfl, _⟩ := hd
          refine wpOp_of_k fun K' HK' => ⟨_, rfl, ?_⟩
          have HW : Hid _ := ws
          have HPR : Hid _ := hpr
          have HCC : Hid _ := clc
          have HCB0 : Hid _ := clb0
          have HCB1 : Hid _ := clb1
          have HCB2 : Hid _ := clb2
          clear ws hpr clc clb0 clb1 clb2
          simp only [List.getElem_toArray, List.getElem_cons_zero, List.getElem_cons_succ]
          simp only [setAll, List.setIfInBounds_toArray, List.set_cons_zero, List.set_cons_succ, cond_true, cond_false]
          go_wp2_with (fail)
          have ws := HW.out
          have hpr := HPR.out
          have clc := HCC.out
          have clb0 := HCB0.out
          have clb1 := HCB1.out
          have clb2 := HCB2.out
          refine HK'.out _ _ ?_
          exact ⟨true, true, true, true, true, true, true, true, true, true, true, true, true, true, true, true, true, true, true, true, d, x, k, y, l, S, E, V8, V9, V11, rfl, (by simp only [setAll, List.setIfInBounds_toArray, List.set_cons_zero, List.set_cons_succ, cond_true]), ws, fun h => absurd h.2 (by simp), fun h => absurd h (by simp), clb0, clb1, clb2⟩
      case fin =>
        rintro listed a' w' ⟨b0, b1, b2, b3, b4, b5, b6, b7, b8, b9, b10, b11, b12, b13, b14, b15, b16, b17, b18, b19, d, x, k, y, l, S, E, V8, V9, V11, rfl, rfl, ws, hpr, clc, clb0, clb1, clb2⟩ hr
        clear clc clb0 clb1 clb2 hpr
        obtain rfl : b0 = true := ready_none hr 0 _ rfl (by simp [Region.binds])
        obtain rfl : b1 = true := ready_none hr 1 _ rfl (by simp [Region.binds])
        obtain rfl : b2 = true := ready_none hr 2 _ rfl (by simp [Region.binds])
        obtain rfl : b3 = true := ready_none hr 3 _ rfl (by simp [Region.binds])
        obtain rfl : b4 = true := ready_none hr 4 _ rfl (by simp [Region.binds])
        obtain rfl : b5 = true := ready_none hr 5 _ rfl (by simp [Region.binds])
        obtain rfl : b6 = true := ready_none hr 6 _ rfl (by simp [Region.binds])
        obtain rfl : b7 = true := ready_none hr 7 _ rfl (by simp [Region.binds])
        obtain rfl : b8 = true := ready_none hr 8 _ rfl (by simp [Region.binds])
        obtain rfl : b9 = true := ready_none hr 9 _ rfl (by simp [Region.binds])
        obtain rfl : b10 = true := ready_none hr 10 _ rfl (by simp [Region.binds])
        obtain rfl : b11 = true := ready_none hr 11 _ rfl (by simp [Region.binds])
        obtain rfl : b12 = true := ready_none hr 12 _ rfl (by simp [Region.binds])
        obtain rfl : b13 = true := ready_none hr 13 _ rfl (by simp [Region.binds])
        obtain rfl : b14 = true := ready_none hr 14 _ rfl (by simp [Region.binds])
        obtain rfl : b15 = true := ready_none hr 15 _ rfl (by simp [Region.binds])
        obtain rfl : b16 = true := ready_none hr 16 _ rfl (by simp [Region.binds])
        obtain rfl : b17 = true := ready_none hr 17 _ rfl (by simp [Region.binds])
        obtain rfl : b18 = true := ready_none hr 18 _ rfl (by simp [Region.binds])
        obtain rfl : b19 = true := ready_none hr 19 _ rfl (by simp [Region.binds])
        simp only [setAll, List.setIfInBounds_toArray, List.set_cons_zero, List.set_cons_succ, cond_true]
        go_wp2_with fail
        go_meet
        case rel => exact ⟨V8, V9, V11, x, k, y, l, S, E, rfl, rfl, rfl, rfl, rfl, ws⟩
    case rest =>
      obtain ⟨V8, V9, V11, x, k, y, l, S, E, rfl, rfl, rfl, rfl, rfl, ws⟩ := hcut
      have hbw : Below w.heap.size w wc := B.trans (ws.bel.mono B.size)
      obtain ⟨sC, lF⟩ := hSB.out _ ws.bel
      obtain ⟨k0, k1⟩ := fi2_cells lF
      obtain ⟨L13, hL13⟩ : ∃ n, wc.heap.size = n := ⟨_, rfl⟩
      have nv1 : v1.heap.size ≤ L13 := by rw [← hL13]; exact ws.size
      have n8 : V8 < L13 := by rw [← hL13]; exact (ws.three).1.lt
      have n9 : V9 < L13 := by rw [← hL13]; exact (ws.three).2.1.lt
      have n11 : V11 < L13 := by rw [← hL13]; exact (ws.three).2.2.lt
      have nE : E ≤ L13 := by rw [← hL13]; exact (ws.zone (S, E, y, M * 6, flat f1) (by simp)).2.1
      have HWS : Hid _ := ws
      have HSC : Hid _ := sC
      have HLF : Hid _ := lF
      clear ws sC lF
      go_upto_region 7 with (go_at_call 7; refine (toFifo_any a1 len1 cap1 lim1 f1 _ ((PR.below HR.out hbw).mono hbw.size) hn).mono ?_; rintro e w3 ⟨d3, rfl, z3, b3⟩; have HZ3 : Hid _ := z3; clear z3)
      obtain ⟨v2, hv2⟩ : ∃ v, w3.alloc (.cells #[.slice d3 len1 len1, .int .i64 lim1] 31) = v := ⟨_, rfl⟩
      obtain ⟨V13, hV13⟩ : ∃ V, w3.heap.size = V := ⟨_, rfl⟩
      have ws2 : WS v1 [(S, E, y, M * 6, flat f1), (S, E, x, K * 6, flat Qf)] [(V8, cdCells RC, 28), (V9, #[.slice x K k, .int .i64 T], 31), (V11, pkCells U, 33)] v2 := by rw [← hv2]; exact (WS.below HWS.out b3).below ((Below.refl _ _).alloc (Nat.le_refl _) _)
      have sX : Sits v2 V13 #[.slice d3 len1 len1, .int .i64 lim1] 31 := by rw [← hv2]; exact Sits.new' hV13
      have z13 : ZI wc.heap.size w3.heap.size v2 d3 (len1 * 6) (flat f1) := by rw [← hv2]; exact ZI.below HZ3.out ((Below.refl _ _).alloc (Nat.le_refl _) _)
      have sC2 : Sits v2 w.heap.size (cdCells r0) 23 := (hSB.out _ ws2.bel).1
      have lV13 : w3.heap.size ≤ V13 := Nat.le_of_eq hV13
      rw [hv2, hV13]
      have hSB2 : Hid (∀ W, Below v2.heap.size v2 W → Sits W w.heap.size (cdCells r0) 23 ∧ Sits W V13 #[.slice d3 len1 len1, .int .i64 lim1] 31) := fun W hW => ⟨sC2.below hW sC2.lt, sX.below hW sX.lt⟩
      have hPd : Hid (∀ W, Below v2.heap.size v2 W → PR W.heap.size W d3 len1 f1) := fun W hW => ZI.pr (z13.below hW)
      have WS2 : Hid (WS v1 [(S, E, y, M * 6, flat f1), (S, E, x, K * 6, flat Qf)] [(V8, cdCells RC, 28), (V9, #[.slice x K k, .int .i64 T], 31), (V11, pkCells U, 33)] v2) := ws2
      obtain ⟨U13, hU13⟩ : ∃ n, w3.heap.size = n := ⟨_, rfl⟩
      have nLU : L13 ≤ U13 := by rw [← hL13, ← hU13]; exact b3.size
      have nUV : U13 ≤ V13 := by rw [← hU13]; exact lV13
      rw [hL13, hU13] at z13
      have Z13 : Hid (ZI L13 U13 v2 d3 (len1 * 6) (flat f1)) := z13
      clear hU13
      have SX : Hid (Sits v2 V13 #[.slice d3 len1 len1, .int .i64 lim1] 31) := sX
      have l13 := sX.lt
      clear hv2 hV13 HWS HSC HLF HZ3 ws2 z13 sX sC2 k0 k1 b3
      go_cut [14, 15, 16, 17, 18] from 27 (fun s8 s9 s10 s11 s12 wx => ∃ (V8 V9 V11 : Nat) (x : Option Addr) (k : Nat) (y : Option Addr) (l S m E : Nat), s8 = .pointer (some ⟨V8, 0, none⟩) ∧ s9 = .pointer (some ⟨V9, 0, none⟩) ∧ s10 = .slice y M l ∧ s11 = .pointer (some ⟨V11, 0, none⟩) ∧ s12 = .bool O ∧ WS v2 [(S, m, y, M * 6, flat f1), (m, E, x, K * 6, flat Qf)] [(V8, cdCells RC, 28), (V9, #[.slice x K k, .int .i64 T], 31), (V11, pkCells U, 33)] wx)
      case first =>
        refine wp_region_inv0 (by kernel_rfl) (fun a0 v1 listed a w => ∃ (b0 b1 b2 b3 b4 b5 b6 b7 b8 b9 b10 b11 b12 b13 b14 b15 b16 b17 b18 : Bool) (x : Option Addr) (k : Nat) (y : Option Addr) (l S m E V8 V9 V11 : Nat), listed = #[b0, b1, b2, b3, b4, b5, b6, b7, b8, b9, b10, b11, b12, b13, b14, b15, b16, b17, b18] ∧ a = setAll a0 [(47, bif b0 then r0.val else u47), (48, bif b1 then r0.val else u48), (49, bif b2 then fiVal d3 len1 len1 lim1 else u49), (50, bif b3 then (.int .i64 z2) else u50), (51, bif b4 then (.tuple #[RC.val, fiVal x K k T, .slice y M l, U.val, .bool O]) else u51), (46, bif b5 then (.tuple #[RC.val, fiVal x K k T, .slice y M l, U.val, .bool O]) else u46), (52, bif b6 then RC.val else u52), (53, bif b7 then fiVal x K k T else u53), (54, bif b8 then (.slice y M l) else u54), (55, bif b9 then U.val else u55), (56, bif b10 then (.bool O) else u56), (14, bif b11 then (.pointer (some ⟨V8, 0, none⟩)) else undef), (15, bif b12 then (.pointer (some ⟨V9, 0, none⟩)) else undef), (17, bif b13 then (.pointer (some ⟨V11, 0, none⟩)) else undef), (16, bif b16 then (.slice y M l) else undef), (18, bif b18 then (.bool O) else undef)] ∧ WS v1 (bif b4 then [(S, m, y, M * 6, flat f1), (m, E, x, K * 6, flat Qf)] else []) ((bif b11 then [(V8, bif b14 then cdCells RC else cdCells Cd.zero, 28)] else []) ++ ((bif b12 then [(V9, bif b15 then #[.slice x K k, .int .i64 T] else #[.slice none 0 0, .int .i64 0], 31)] else []) ++ ((bif b13 then [(V11, bif b17 then pkCells U else pkCells ⟨0, 0, 0, 0, 0, 0⟩, 33)] else [])))) w ∧ (True ∧ b4 = false → True) ∧ (b4 = false → b5 = false ∧ b6 = false ∧ b7 = false ∧ b8 = false ∧ b9 = false ∧ b10 = false ∧ b14 = false ∧ b15 = false ∧ b16 = false ∧ b17 = false ∧ b18 = false) ∧ (b11 = false → b14 = false) ∧ (b12 = false → b15 = false) ∧ (b13 = false → b17 = false)) ?start ?step ?fin
        case start => exact ⟨false, false, false, false, false, false, false, false, false, false, false, false, false, false, false, false, false, false, false, none, 0, none, 0, 0, 0, 0, 0, 0, 0, rfl, by simp only [setAll, List.setIfInBounds_toArray, List.set_cons_zero, List.set_cons_succ, cond_false], WS.start _, fun h => trivial, fun _ => ⟨rfl, rfl, rfl, rfl, rfl, rfl, rfl, rfl, rfl, rfl, rfl⟩, fun _ => rfl, fun _ => rfl, fun _ => rfl⟩
        case step =>
          rintro listed a' w' i ⟨b0, b1, b2, b3, b4, b5, b6, b7, b8, b9, b10, b11, b12, b13, b14, b15, b16, b17, b18, x, k, y, l, S, m, E, V8, V9, V11, rfl, rfl, ws, hpr, clc, clb0, clb1, clb2⟩ hr
          have hlt : i < 19 := (ready_at hr).1
          have hi : i = 0 ∨ i = 1 ∨ i = 2 ∨ i = 3 ∨ i = 4 ∨ i = 5 ∨ i = 6 ∨ i = 7 ∨ i = 8 ∨ i = 9 ∨ i = 10 ∨ i = 11 ∨ i = 12 ∨ i = 13 ∨ i = 14 ∨ i = 15 ∨ i = 16 ∨ i = 17 ∨ i = 18 := by omega
          clear hlt
          rcases hi with rfl | rfl | rfl | rfl | rfl | rfl | rfl | rfl | rfl | rfl | rfl | rfl | rfl | rfl | rfl | rfl | rfl | rfl | rfl
          · obtain ⟨hb, hd⟩ := ready_dep hr _ rfl
            replace hb : b0 = false := hb
            subst hb
            obtain ⟨sC, sX⟩ := hSB2.out _ ws.bel
            obtain ⟨c0, c1, c2, c3, c4, c5, c6⟩ := cd_cells sC
            have k0 : w'.cell? ⟨V13, 0, none⟩ = some (.slice d3 len1 len1) := Sits.cell sX 0
            have k1 : w'.cell? ⟨V13, 1, none⟩ = some (.int .i64 lim1) := Sits.cell sX 1
            refine wpOp_of_k fun K' HK' => ⟨_, rfl, ?_⟩
            have HW : Hid _ := ws
            have HPR : Hid _ := hpr
            have HCC : Hid _ := clc
            have HCB0 : Hid _ := clb0
            have HCB1 : Hid _ := clb1
            have HCB2 : Hid _ := clb2
            clear ws hpr clc clb0 clb1 clb2
            simp only [List.getElem_toArray, List.getElem_cons_zero]
            simp only [setAll, List.setIfInBounds_toArray, List.set_cons_zero, List.set_cons_succ, cond_false]
            go_wp2_with (fail)
            have ws := HW.out
            have hpr := HPR.out
            have clc := HCC.out
            have clb0 := HCB0.out
            have clb1 := HCB1.out
            have clb2 := HCB2.out
            refine HK'.out _ _ ?_
            exact ⟨true, b1, b2, b3, b4, b5, b6, b7, b8, b9, b10, b11, b12, b13, b14, b15, b16, b17, b18, x, k, y, l, S, m, E, V8, V9, V11, rfl, (by simp only [setAll, List.setIfInBounds_toArray, List.set_cons_zero, List.set_cons_succ, cond_true]), ws, fun _ => trivial, clc, clb0, clb1, clb2⟩
          · obtain ⟨hb, hd⟩ := ready_dep hr _ rfl
            replace hb : b1 = false := hb
            subst hb
            simp [Region.binds] at hd
            subst hd
            refine wpOp_of_k fun K' HK' => ⟨_, rfl, ?_⟩
            have HW : Hid _ := ws
            have HPR : Hid _ := hpr
            have HCC : Hid _ := clc
            have HCB0 : Hid _ := clb0
            have HCB1 : Hid _ := clb1
            have HCB2 : Hid _ := clb2
            clear ws hpr clc clb0 clb1 clb2
            simp only [List.getElem_toArray, List.getElem_cons_zero, List.getElem_cons_succ]
            simp only [setAll, List.setIfInBounds_toArray, List.set_cons_zero, List.set_cons_succ, cond_true, cond_false]
            go_wp2_with (go_at_call 6; refine (toCodel_any r0 _).mono ?_; rintro e w9 ⟨rfl, kq9⟩)
            have ws := HW.out
            have hpr := HPR.out
            have clc := HCC.out
            have clb0 := HCB0.out
            have clb1 := HCB1.out
            have clb2 := HCB2.out
            refine HK'.out _ _ ?_
            exact ⟨true, true, b2, b3, b4, b5, b6, b7, b8, b9, b10, b11, b12, b13, b14, b15, b16, b17, b18, x, k, y, l, S, m, E, V8, V9, V11, rfl, (by simp only [setAll, List.setIfInBounds_toArray, List.set_cons_zero, List.set_cons_succ, cond_true]), ws.below kq9.1, fun _ => trivial, clc, clb0, clb1, clb2⟩
          · obtain ⟨hb, hd⟩ := ready_dep hr _ rfl
            replace hb : b2 = false := hb
            subst hb
            obtain ⟨sC, sX⟩ := hSB2.out _ ws.bel
            obtain ⟨c0, c1, c2, c3, c4, c5, c6⟩ := cd_cells sC
            have k0 : w'.cell? ⟨V13, 0, none⟩ = some (.slice d3 len1 len1) := Sits.cell sX 0
            have k1 : w'.cell? ⟨V13, 1, none⟩ = some (.int .i64 lim1) := Sits.cell sX 1
            refine wpOp_of_k fun K' HK' => ⟨_, rfl, ?_⟩
            have HW : Hid _ := ws
            have HPR : Hid _ := hpr
            have HCC : Hid _ := clc
            have HCB0 : Hid _ := clb0
            have HCB1 : Hid _ := clb1
            have HCB2 : Hid _ := clb2
            clear ws hpr clc clb0 clb1 clb2
            simp only [List.getElem_toArray, List.getElem_cons_zero, List.getElem_cons_succ]
            simp only [setAll, List.setIfInBounds_toArray, List.set_cons_zero, List.set_cons_succ, cond_false]
            go_wp2_with (fail)
            have ws := HW.out
            have hpr := HPR.out
            have clc := HCC.out
            have clb0 := HCB0.out
            have clb1 := HCB1.out
            have clb2 := HCB2.out
            refine HK'.out _ _ ?_
            exact ⟨b0, b1, true, b3, b4, b5, b6, b7, b8, b9, b10, b11, b12, b13, b14, b15, b16, b17, b18, x, k, y, l, S, m, E, V8, V9, V11, rfl, (by simp only [setAll, List.setIfInBounds_toArray, List.set_cons_zero, List.set_cons_succ, cond_true]), ws, fun _ => trivial, clc, clb0, clb1, clb2⟩
          · obtain ⟨hb, hd⟩ := ready_dep hr _ rfl
            replace hb : b3 = false := hb
            subst hb
            refine wpOp_of_k fun K' HK' => ⟨_, rfl, ?_⟩
            have HW : Hid _ := ws
            have HPR : Hid _ := hpr
            have HCC : Hid _ := clc
            have HCB0 : Hid _ := clb0
            have HCB1 : Hid _ := clb1
            have HCB2 : Hid _ := clb2
            clear ws hpr clc clb0 clb1 clb2
            simp only [List.getElem_toArray, List.getElem_cons_zero, List.getElem_cons_succ]
            simp only [setAll, List.setIfInBounds_toArray, List.set_cons_zero, List.set_cons_succ, cond_false]
            go_wp2_with (fail)
            have ws := HW.out
            have hpr := HPR.out
            have clc := HCC.out
            have clb0 := HCB0.out
            have clb1 := HCB1.out
            have clb2 := HCB2.out
            refine HK'.out _ _ ?_
            exact ⟨b0, b1, b2, true, b4, b5, b6, b7, b8, b9, b10, b11, b12, b13, b14, b15, b16, b17, b18, x, k, y, l, S, m, E, V8, V9, V11, rfl, (by simp only [setAll, List.setIfInBounds_toArray, List.set_cons_zero, List.set_cons_succ, cond_true]), ws, fun _ => trivial, clc, clb0, clb1, clb2⟩
          · obtain ⟨hb, hd⟩ := ready_dep hr _ rfl
            replace hb : b4 = false := hb
            subst hb
            simp [Region.binds] at hd
            obtain ⟨rfl, rfl, rfl, _⟩ := hd
            obtain ⟨rfl, rfl, rfl, rfl, rfl, rfl, rfl, rfl, rfl, rfl, rfl⟩ := clc rfl
            refine wpOp_of_k fun K' HK' => ⟨_, rfl, ?_⟩
            have HW : Hid _ := ws
            have HPR : Hid _ := hpr
            have HCC : Hid _ := clc
            have HCB0 : Hid _ := clb0
            have HCB1 : Hid _ := clb1
            have HCB2 : Hid _ := clb2
            clear ws hpr clc clb0 clb1 clb2
            simp only [List.getElem_toArray, List.getElem_cons_zero, List.getElem_cons_succ]
            simp only [setAll, List.setIfInBounds_toArray, List.set_cons_zero, List.set_cons_succ, cond_true, cond_false]
            go_wp2_with (go_at_call 8; refine (HI.out _ d3 ((hPd.out _ HW.out.bel))).mono ?_; rintro e w9 ⟨x9, k9, y9, l9, rfl, ⟨m9, hm0, hm1, zy, zx⟩, bq9⟩)
            have ws := HW.out
            have hpr := HPR.out
            have clc := HCC.out
            have clb0 := HCB0.out
            have clb1 := HCB1.out
            have clb2 := HCB2.out
            refine HK'.out _ _ ?_
            exact ⟨b0, true, true, true, true, false, false, false, false, false, false, b11, b12, b13, false, false, false, false, false, x9, k9, y9, l9, w'.heap.size, m9, w9.heap.size, V8, V9, V11, rfl, (by simp only [setAll, List.setIfInBounds_toArray, List.set_cons_zero, List.set_cons_succ, cond_true, cond_false]), WS.call (ys := [(w'.heap.size, m9, y9, M * 6, flat f1), (m9, w9.heap.size, x9, K * 6, flat Qf)]) ws bq9 (by intro z hz; simp only [List.mem_cons, List.not_mem_nil, or_false] at hz; rcases hz with rfl | rfl <;> first | exact ⟨Nat.le_refl _, hm1, zy⟩ | exact ⟨hm0, Nat.le_refl _, zx⟩), fun _ => trivial, fun h => absurd h (by simp), fun _ => rfl, fun _ => rfl, fun _ => rfl⟩
          · obtain ⟨hb, hd⟩ := ready_dep hr _ rfl
            replace hb : b5 = false := hb
            subst hb
            simp [Region.binds] at hd
            subst hd
            refine wpOp_of_k fun K' HK' => ⟨_, rfl, ?_⟩
            have HW : Hid _ := ws
            have HPR : Hid _ := hpr
            have HCC : Hid _ := clc
            have HCB0 : Hid _ := clb0
            have HCB1 : Hid _ := clb1
            have HCB2 : Hid _ := clb2
            clear ws hpr clc clb0 clb1 clb2
            simp only [List.getElem_toArray, List.getElem_cons_zero, List.getElem_cons_succ]
            simp only [setAll, List.setIfInBounds_toArray, List.set_cons_zero, List.set_cons_succ, cond_true, cond_false]
            go_wp2_with (fail)
            have ws := HW.out
            have hpr := HPR.out
            have clc := HCC.out
            have clb0 := HCB0.out
            have clb1 := HCB1.out
            have clb2 := HCB2.out
            refine HK'.out _ _ ?_
            exact ⟨b0, b1, b2, b3, true, true, b6, b7, b8, b9, b10, b11, b12, b13, b14, b15, b16, b17, b18, x, k, y, l, S, m, E, V8, V9, V11, rfl, (by simp only [setAll, List.setIfInBounds_toArray, List.set_cons_zero, List.set_cons_succ, cond_true]), ws, fun _ => trivial, fun h => absurd h (by simp), clb0, clb1, clb2⟩
          · obtain ⟨hb, hd⟩ := ready_dep hr _ rfl
            replace hb : b6 = false := hb
            subst hb
            simp [Region.binds] at hd
            subst hd
            obtain rfl : b4 = true := by
              cases b4 with
              | true => rfl
              | false => have h := clc rfl; simp at h
            refine wpOp_of_k fun K' HK' => ⟨_, rfl, ?_⟩
            have HW : Hid _ := ws
            have HPR : Hid _ := hpr
            have HCC : Hid _ := clc
            have HCB0 : Hid _ := clb0
            have HCB1 : Hid _ := clb1
            have HCB2 : Hid _ := clb2
            clear ws hpr clc clb0 clb1 clb2
            simp only [List.getElem_toArray, List.getElem_cons_zero, List.getElem_cons_succ]
            simp only [setAll, List.setIfInBounds_toArray, List.set_cons_zero, List.set_cons_succ, cond_true, cond_false]
            go_wp2_with (fail)
            have ws := HW.out
            have hpr := HPR.out
            have clc := HCC.out
            have clb0 := HCB0.out
            have clb1 := HCB1.out
            have clb2 := HCB2.out
            refine HK'.out _ _ ?_
            exact ⟨b0, b1, b2, b3, true, true, true, b7, b8, b9, b10, b11, b12, b13, b14, b15, b16, b17, b18, x, k, y, l, S, m, E, V8, V9, V11, rfl, (by simp only [setAll, List.setIfInBounds_toArray, List.set_cons_zero, List.set_cons_succ, cond_true]), ws, fun _ => trivial, fun h => absurd h (by simp), clb0, clb1, clb2⟩
          · obtain ⟨hb, hd⟩ := ready_dep hr _ rfl
            replace hb : b7 = false := hb
            subst hb
            simp [Region.binds] at hd
            subst hd
            obtain rfl : b4 = true := by
              cases b4 with
              | true => rfl
              | false => have h := clc rfl; simp at h
            refine wpOp_of_k fun K' HK' => ⟨_, rfl, ?_⟩
            have HW : Hid _ := ws
            have HPR : Hid _ := hpr
            have HCC : Hid _ := clc
            have HCB0 : Hid _ := clb0
            have HCB1 : Hid _ := clb1
            have HCB2 : Hid _ := clb2
            clear ws hpr clc clb0 clb1 clb2
            simp only [List.getElem_toArray, List.getElem_cons_zero, List.getElem_cons_succ]
            simp only [setAll, List.setIfInBounds_toArray, List.set_cons_zero, List.set_cons_succ, cond_true, cond_false]
            go_wp2_with (fail)
            have ws := HW.out
            have hpr := HPR.out
            have clc := HCC.out
            have clb0 := HCB0.out
            have clb1 := HCB1.out
            have clb2 := HCB2.out
            refine HK'.out _ _ ?_
            exact ⟨b0, b1, b2, b3, true, true, b6, true, b8, b9, b10, b11, b12, b13, b14, b15, b16, b17, b18, x, k, y, l, S, m, E, V8, V9, V11, rfl, (by simp only [setAll, List.setIfInBounds_toArray, List.set_cons_zero, List.set_cons_succ, cond_true]), ws, fun _ => trivial, fun h => absurd h (by simp), clb0, clb1, clb2⟩
          · obtain ⟨hb, hd⟩ := ready_dep hr _ rfl
            replace hb : b8 = false := hb
            subst hb
            simp [Region.binds] at hd
            subst hd
            obtain rfl : b4 = true := by
              cases b4 with
              | true => rfl
              | false => have h := clc rfl; simp at h
            refine wpOp_of_k fun K' HK' => ⟨_, rfl, ?_⟩
            have HW : Hid _ := ws
            have HPR : Hid _ := hpr
            have HCC : Hid _ := clc
            have HCB0 : Hid _ := clb0
            have HCB1 : Hid _ := clb1
            have HCB2 : Hid _ := clb2
            clear ws hpr clc clb0 clb1 clb2
            simp only [List.getElem_toArray, List.getElem_cons_zero, List.getElem_cons_succ]
            simp only [setAll, List.setIfInBounds_toArray, List.set_cons_zero, List.set_cons_succ, cond_true, cond_false]
            go_wp2_with (fail)
            have ws := HW.out
            have hpr := HPR.out
            have clc := HCC.out
            have clb0 := HCB0.out
            have clb1 := HCB1.out
            have clb2 := HCB2.out
            refine HK'.out _ _ ?_
            exact ⟨b0, b1, b2, b3, true, true, b6, b7, true, b9, b10, b11, b12, b13, b14, b15, b16, b17, b18, x, k, y, l, S, m, E, V8, V9, V11, rfl, (by simp only [setAll, List.setIfInBounds_toArray, List.set_cons_zero, List.set_cons_succ, cond_true]), ws, fun _ => trivial, fun h => absurd h (by simp), clb0, clb1, clb2⟩
          · obtain ⟨hb, hd⟩ := ready_dep hr _ rfl
            replace hb : b9 = false := hb
            subst hb
            simp [Region.binds] at hd
            subst hd
            obtain rfl : b4 = true := by
              cases b4 with
              | true => rfl
              | false => have h := clc rfl; simp at h
            refine wpOp_of_k fun K' HK' => ⟨_, rfl, ?_⟩
            have HW : Hid _ := ws
            have HPR : Hid _ := hpr
            have HCC : Hid _ := clc
            have HCB0 : Hid _ := clb0
            have HCB1 : Hid _ := clb1
            have HCB2 : Hid _ := clb2
            clear ws hpr clc clb0 clb1 clb2
            simp only [List.getElem_toArray, List.getElem_cons_zero, List.getElem_cons_succ]
            simp only [setAll, List.setIfInBounds_toArray, List.set_cons_zero, List.set_cons_succ, cond_true, cond_false]
            go_wp2_with (fail)
            have ws := HW.out
            have hpr := HPR.out
            have clc := HCC.out
            have clb0 := HCB0.out
            have clb1 := HCB1.out
            have clb2 := HCB2.out
            refine HK'.out _ _ ?_
            exact ⟨b0, b1, b2, b3, true, true, b6, b7, b8, true, b10, b11, b12, b13, b14, b15, b16, b17, b18, x, k, y, l, S, m, E, V8, V9, V11, rfl, (by simp only [setAll, List.setIfInBounds_toArray, List.set_cons_zero, List.set_cons_succ, cond_true]), ws, fun _ => trivial, fun h => absurd h (by simp), clb0, clb1, clb2⟩
          · obtain ⟨hb, hd⟩ := ready_dep hr _ rfl
            replace hb : b10 = false := hb
            subst hb
            simp [Region.binds] at hd
            subst hd
            obtain rfl : b4 = true := by
              cases b4 with
              | true => rfl
              | false => have h := clc rfl; simp at h
            refine wpOp_of_k fun K' HK' => ⟨_, rfl, ?_⟩
            have HW : Hid _ := ws
            have HPR : Hid _ := hpr
            have HCC : Hid _ := clc
            have HCB0 : Hid _ := clb0
            have HCB1 : Hid _ := clb1
            have HCB2 : Hid _ := clb2
            clear ws hpr clc clb0 clb1 clb2
            simp only [List.getElem_toArray, List.getElem_cons_zero, List.getElem_cons_succ]
            simp only [setAll, List.setIfInBounds_toArray, List.set_cons_zero, List.set_cons_succ, cond_true, cond_false]
            go_wp2_with (fail)
            have ws := HW.out
            have hpr := HPR.out
            have clc := HCC.out
            have clb0 := HCB0.out
            have clb1 := HCB1.out
            have clb2 := HCB2.out
            refine HK'.out _ _ ?_
            exact ⟨b0, b1, b2, b3, true, true, b6, b7, b8, b9, true, b11, b12, b13, b14, b15, b16, b17, b18, x, k, y, l, S, m, E, V8, V9, V11, rfl, (by simp only [setAll, List.setIfInBounds_toArray, List.set_cons_zero, List.set_cons_succ, cond_true]), ws, fun _ => trivial, fun h => absurd h (by simp), clb0, clb1, clb2⟩
          · obtain ⟨hb, hd⟩ := ready_dep hr _ rfl
            replace hb : b11 = false := hb
            subst hb
            obtain rfl := clb0 rfl
            have hbb : Below w'.heap.size w' (w'.alloc (.cells (cdCells Cd.zero) 28)) := (Below.refl _ _).alloc (Nat.le_refl _) _
            refine wpOp_of_k fun K' HK' => ⟨_, rfl, ?_⟩
            have HW : Hid _ := ws
            have HPR : Hid _ := hpr
            have HCC : Hid _ := clc
            have HCB0 : Hid _ := clb0
            have HCB1 : Hid _ := clb1
            have HCB2 : Hid _ := clb2
            clear ws hpr clc clb0 clb1 clb2
            simp only [List.getElem_toArray, List.getElem_cons_zero, List.getElem_cons_succ]
            simp only [setAll, List.setIfInBounds_toArray, List.set_cons_zero, List.set_cons_succ, cond_false]
            go_wp2_with (fail)
            have ws := HW.out
            have hpr := HPR.out
            have clc := HCC.out
            have clb0 := HCB0.out
            have clb1 := HCB1.out
            have clb2 := HCB2.out
            have wsn := WS.alloc0 (cs := cdCells Cd.zero) (t := 28) ws
            refine HK'.out _ _ ?_
            exact ⟨b0, b1, b2, b3, b4, b5, b6, b7, b8, b9, b10, true, b12, b13, false, b15, b16, b17, b18, x, k, y, l, S, m, E, w'.heap.size, V9, V11, rfl, (by simp only [setAll, List.setIfInBounds_toArray, List.set_cons_zero, List.set_cons_succ, cond_true]), wsn, fun _ => trivial, fun h => by simpa using clc h, fun h => absurd h (by simp), clb1, clb2⟩
          · obtain ⟨hb, hd⟩ := ready_dep hr _ rfl
            replace hb : b12 = false := hb
            subst hb
            obtain rfl := clb1 rfl
            have hbb : Below w'.heap.size w' (w'.alloc (.cells (#[.slice none 0 0, .int .i64 0]) 31)) := (Below.refl _ _).alloc (Nat.le_refl _) _
            refine wpOp_of_k fun K' HK' => ⟨_, rfl, ?_⟩
            have HW : Hid _ := ws
            have HPR : Hid _ := hpr
            have HCC : Hid _ := clc
            have HCB0 : Hid _ := clb0
            have HCB1 : Hid _ := clb1
            have HCB2 : Hid _ := clb2
            clear ws hpr clc clb0 clb1 clb2
            simp only [List.getElem_toArray, List.getElem_cons_zero, List.getElem_cons_succ]
            simp only [setAll, List.setIfInBounds_toArray, List.set_cons_zero, List.set_cons_succ, cond_false]
            go_wp2_with (fail)
            have ws := HW.out
            have hpr := HPR.out
            have clc := HCC.out
            have clb0 := HCB0.out
            have clb1 := HCB1.out
            have clb2 := HCB2.out
            have wsn := WS.alloc1 (cs := #[.slice none 0 0, .int .i64 0]) (t := 31) ws
            refine HK'.out _ _ ?_
            exact ⟨b0, b1, b2, b3, b4, b5, b6, b7, b8, b9, b10, b11, true, b13, b14, false, b16, b17, b18, x, k, y, l, S, m, E, V8, w'.heap.size, V11, rfl, (by simp only [setAll, List.setIfInBounds_toArray, List.set_cons_zero, List.set_cons_succ, cond_true]), wsn, fun _ => trivial, fun h => by simpa using clc h, clb0, fun h => absurd h (by simp), clb2⟩
          · obtain ⟨hb, hd⟩ := ready_dep hr _ rfl
            replace hb : b13 = false := hb
            subst hb
            obtain rfl := clb2 rfl
            have hbb : Below w'.heap.size w' (w'.alloc (.cells (pkCells ⟨0, 0, 0, 0, 0, 0⟩) 33)) := (Below.refl _ _).alloc (Nat.le_refl _) _
            refine wpOp_of_k fun K' HK' => ⟨_, rfl, ?_⟩
            have HW : Hid _ := ws
            have HPR : Hid _ := hpr
            have HCC : Hid _ := clc
            have HCB0 : Hid _ := clb0
            have HCB1 : Hid _ := clb1
            have HCB2 : Hid _ := clb2
            clear ws hpr clc clb0 clb1 clb2
            simp only [List.getElem_toArray, List.getElem_cons_zero, List.getElem_cons_succ]
            simp only [setAll, List.setIfInBounds_toArray, List.set_cons_zero, List.set_cons_succ, cond_false]
            go_wp2_with (fail)
            have ws := HW.out
            have hpr := HPR.out
            have clc := HCC.out
            have clb0 := HCB0.out
            have clb1 := HCB1.out
            have clb2 := HCB2.out
            have wsn := WS.alloc2 (cs := pkCells ⟨0, 0, 0, 0, 0, 0⟩) (t := 33) ws
            refine HK'.out _ _ ?_
            exact ⟨b0, b1, b2, b3, b4, b5, b6, b7, b8, b9, b10, b11, b12, true, b14, b15, b16, false, b18, x, k, y, l, S, m, E, V8, V9, w'.heap.size, rfl, (by simp only [setAll, List.setIfInBounds_toArray, List.set_cons_zero, List.set_cons_succ, cond_true]), wsn, fun _ => trivial, fun h => by simpa using clc h, clb0, clb1, fun h => absurd h (by simp)⟩
          · obtain ⟨hb, hd⟩ := ready_dep hr _ rfl
            replace hb : b14 = false := hb
            subst hb
            simp [Region.binds] at hd
            obtain ⟨rfl, rfl, rfl, rfl, rfl, rfl, rfl, _, rfl, _, _, rfl, rfl⟩ := hd
            have s9 := WS.at0 ws
            have fz := Sits.frozen s9
            have y0 : w'.cell? ⟨V8, 0, none⟩ = some (.int .i64 0) := Sits.cell s9 0
            have y1 : w'.cell? ⟨V8, 1, none⟩ = some (.int .i64 0) := Sits.cell s9 1
            have y2 : w'.cell? ⟨V8, 2, none⟩ = some (.int .i64 0) := Sits.cell s9 2
            have y3 : w'.cell? ⟨V8, 3, none⟩ = some (.int .i64 0) := Sits.cell s9 3
            have y4 : w'.cell? ⟨V8, 4, none⟩ = some (.int .i64 0) := Sits.cell s9 4
            have y5 : w'.cell? ⟨V8, 5, none⟩ = some (.int .i64 0) := Sits.cell s9 5
            have y6 : w'.cell? ⟨V8, 6, none⟩ = some (.bool false) := Sits.cell s9 6
            refine wpOp_of_k fun K' HK' => ⟨_, rfl, ?_⟩
            have HW : Hid _ := ws
            have HPR : Hid _ := hpr
            have HCC : Hid _ := clc
            have HCB0 : Hid _ := clb0
            have HCB1 : Hid _ := clb1
            have HCB2 : Hid _ := clb2
            clear ws hpr clc clb0 clb1 clb2
            simp only [List.getElem_toArray, List.getElem_cons_zero, List.getElem_cons_succ]
            simp only [setAll, List.setIfInBounds_toArray, List.set_cons_zero, List.set_cons_succ, cond_true]
            go_wp2_with (fail)
            have ws := HW.out
            have hpr := HPR.out
            have clc := HCC.out
            have clb0 := HCB0.out
            have clb1 := HCB1.out
            have clb2 := HCB2.out
            have wsn := (WS.store0 (WS.store0 (WS.store0 (WS.store0 (WS.store0 (WS.store0 (WS.store0 ws 0 (.int .i64 RC.tg)) 1 (.int .i64 RC.iv)) 2 (.int .i64 RC.fi)) 3 (.int .i64 RC.nx)) 4 (.int .i64 RC.ct)) 5 (.int .i64 RC.la)) 6 (.bool RC.dr))
            refine HK'.out _ _ ?_
            exact ⟨true, true, true, true, true, true, true, b7, b8, b9, b10, true, true, true, true, b15, b16, b17, b18, x, k, y, l, S, m, E, V8, V9, V11, rfl, (by simp only [setAll, List.setIfInBounds_toArray, List.set_cons_zero, List.set_cons_succ, cond_true]), wsn, fun _ => trivial, fun h => absurd h (by simp), fun h => absurd h (by simp), clb1, clb2⟩
          · obtain ⟨hb, hd⟩ := ready_dep hr _ rfl
            replace hb : b15 = false := hb
            subst hb
            simp [Region.binds] at hd
            obtain ⟨rfl, rfl, rfl, rfl, rfl, rfl, rfl, rfl, rfl, rfl, _, rfl, _, rfl, _⟩ := hd
            have s9 := WS.at1 ws
            have fz := Sits.frozen s9
            have y0 : w'.cell? ⟨V9, 0, none⟩ = some (.slice none 0 0) := Sits.cell s9 0
            have y1 : w'.cell? ⟨V9, 1, none⟩ = some (.int .i64 0) := Sits.cell s9 1
            refine wpOp_of_k fun K' HK' => ⟨_, rfl, ?_⟩
            have HW : Hid _ := ws
            have HPR : Hid _ := hpr
            have HCC : Hid _ := clc
            have HCB0 : Hid _ := clb0
            have HCB1 : Hid _ := clb1
            have HCB2 : Hid _ := clb2
            clear ws hpr clc clb0 clb1 clb2
            simp only [List.getElem_toArray, List.getElem_cons_zero, List.getElem_cons_succ]
            simp only [setAll, List.setIfInBounds_toArray, List.set_cons_zero, List.set_cons_succ, cond_true]
            go_wp2_with (fail)
            have ws := HW.out
            have hpr := HPR.out
            have clc := HCC.out
            have clb0 := HCB0.out
            have clb1 := HCB1.out
            have clb2 := HCB2.out
            have wsn := (WS.store1 (WS.store1 ws 0 (.slice x K k)) 1 (.int .i64 T))
            refine HK'.out _ _ ?_
            exact ⟨true, true, true, true, true, true, true, true, b8, b9, b10, true, true, true, true, true, b16, b17, b18, x, k, y, l, S, m, E, V8, V9, V11, rfl, (by simp only [setAll, List.setIfInBounds_toArray, List.set_cons_zero, List.set_cons_succ, cond_true]), wsn, fun _ => trivial, fun h => absurd h (by simp), clb0, fun h => absurd h (by simp), clb2⟩
          · obtain ⟨hb, hd⟩ := ready_dep hr _ rfl
            replace hb : b16 = false := hb
            subst hb
            simp [Region.binds] at hd
            obtain ⟨rfl, rfl, rfl, rfl, rfl, rfl, rfl, rfl, rfl, rfl, _, rfl, rfl, rfl, rfl, _⟩ := hd
            refine wpOp_of_k fun K' HK' => ⟨_, rfl, ?_⟩
            have HW : Hid _ := ws
            have HPR : Hid _ := hpr
            have HCC : Hid _ := clc
            have HCB0 : Hid _ := clb0
            have HCB1 : Hid _ := clb1
            have HCB2 : Hid _ := clb2
            clear ws hpr clc clb0 clb1 clb2
            simp only [List.getElem_toArray, List.getElem_cons_zero, List.getElem_cons_succ]
            simp only [setAll, List.setIfInBounds_toArray, List.set_cons_zero, List.set_cons_succ, cond_true, cond_false]
            go_wp2_with (fail)
            have ws := HW.out
            have hpr := HPR.out
            have clc := HCC.out
            have clb0 := HCB0.out
            have clb1 := HCB1.out
            have clb2 := HCB2.out
            refine HK'.out _ _ ?_
            exact ⟨true, true, true, true, true, true, true, true, true, b9, b10, true, true, true, true, true, true, b17, b18, x, k, y, l, S, m, E, V8, V9, V11, rfl, (by simp only [setAll, List.setIfInBounds_toArray, List.set_cons_zero, List.set_cons_succ, cond_true]), ws, fun _ => trivial, fun h => absurd h (by simp), clb0, clb1, clb2⟩
          · obtain ⟨hb, hd⟩ := ready_dep hr _ rfl
            replace hb : b17 = false := hb
            subst hb
            simp [Region.binds] at hd
            obtain ⟨rfl, rfl, rfl, rfl, rfl, rfl, rfl, rfl, rfl, rfl, rfl, rfl, _, rfl, rfl, _, rfl, rfl, _⟩ := hd
            have s9 := WS.at2 ws
            have fz := Sits.frozen s9
            have y0 : w'.cell? ⟨V11, 0, none⟩ = some (.int .i64 0) := Sits.cell s9 0
            have y1 : w'.cell? ⟨V11, 1, none⟩ = some (.int .i64 0) := Sits.cell s9 1
            have y2 : w'.cell? ⟨V11, 2, none⟩ = some (.int .i64 0) := Sits.cell s9 2
            have y3 : w'.cell? ⟨V11, 3, none⟩ = some (.int .i64 0) := Sits.cell s9 3
            have y4 : w'.cell? ⟨V11, 4, none⟩ = some (.int .i64 0) := Sits.cell s9 4
            have y5 : w'.cell? ⟨V11, 5, none⟩ = some (.int .i64 0) := Sits.cell s9 5
            refine wpOp_of_k fun K' HK' => ⟨_, rfl, ?_⟩
            have HW : Hid _ := ws
            have HPR : Hid _ := hpr
            have HCC : Hid _ := clc
            have HCB0 : Hid _ := clb0
            have HCB1 : Hid _ := clb1
            have HCB2 : Hid _ := clb2
            clear ws hpr clc clb0 clb1 clb2
            simp only [List.getElem_toArray, List.getElem_cons_zero, List.getElem_cons_succ]
            simp only [setAll, List.setIfInBounds_toArray, List.set_cons_zero, List.set_cons_succ, cond_true]
            go_wp2_with (fail)
            have ws := HW.out
            have hpr := HPR.out
            have clc := HCC.out
            have clb0 := HCB0.out
            have clb1 := HCB1.out
            have clb2 := HCB2.out
            have wsn := (WS.store2 (WS.store2 (WS.store2 (WS.store2 (WS.store2 (WS.store2 ws 0 (.int .i64 U.id)) 1 (.int .i64 U.flow)) 2 (.int .i64 U.host)) 3 (.int .i64 U.size)) 4 (.int .i64 U.tm)) 5 (.int .i64 U.ecn))
            refine HK'.out _ _ ?_
            exact ⟨true, true, true, true, true, true, true, true, true, true, b10, true, true, true, true, true, true, true, b18, x, k, y, l, S, m, E, V8, V9, V11, rfl, (by simp only [setAll, List.setIfInBounds_toArray, List.set_cons_zero, List.set_cons_succ, cond_true]), wsn, fun _ => trivial, fun h => absurd h (by simp), clb0, clb1, fun h => absurd h (by simp)⟩
          · obtain ⟨hb, hd⟩ := ready_dep hr _ rfl
            replace hb : b18 = false := hb
            subst hb
            simp [Region.binds] at hd
            obtain ⟨rfl, rfl, rfl, rfl, rfl, rfl, rfl, rfl, rfl, rfl, rfl, rfl, _, rfl, rfl, rfl, rfl, rfl, rfl, _⟩ := hd
            refine wpOp_of_k fun K' HK' => ⟨_, rfl, ?_⟩
            have HW : Hid _ := ws
            have HPR : Hid _ := hpr
            have HCC : Hid _ := clc
            have HCB0 : Hid _ := clb0
            have HCB1 : Hid _ := clb1
            have HCB2 : Hid _ := clb2
            clear ws hpr clc clb0 clb1 clb2
            simp only [List.getElem_toArray, List.getElem_cons_zero, List.getElem_cons_succ]
            simp only [setAll, List.setIfInBounds_toArray, List.set_cons_zero, List.set_cons_succ, cond_true, cond_false]
            go_wp2_with (fail)
            have ws := HW.out
            have hpr := HPR.out
            have clc := HCC.out
            have clb0 := HCB0.out
            have clb1 := HCB1.out
            have clb2 := HCB2.out
            refine HK'.out _ _ ?_
            exact ⟨true, true, true, true, true, true, true, true, true, true, true, true, true, true, true, true, true, true, true, x, k, y, l, S, m, E, V8, V9, V11, rfl, (by simp only [setAll, List.setIfInBounds_toArray, List.set_cons_zero, List.set_cons_succ, cond_true]), ws, fun _ => trivial, fun h => absurd h (by simp), clb0, clb1, clb2⟩
        case fin =>
          rintro listed a' w' ⟨b0, b1, b2, b3, b4, b5, b6, b7, b8, b9, b10, b11, b12, b13, b14, b15, b16, b17, b18, x, k, y, l, S, m, E, V8, V9, V11, rfl, rfl, ws, hpr, clc, clb0, clb1, clb2⟩ hr
          clear clc clb0 clb1 clb2 hpr
          obtain rfl : b0 = true := ready_none hr 0 _ rfl (by simp [Region.binds])
          obtain rfl : b1 = true := ready_none hr 1 _ rfl (by simp [Region.binds])
          obtain rfl : b2 = true := ready_none hr 2 _ rfl (by simp [Region.binds])
          obtain rfl : b3 = true := ready_none hr 3 _ rfl (by simp [Region.binds])
          obtain rfl : b4 = true := ready_none hr 4 _ rfl (by simp [Region.binds])
          obtain rfl : b5 = true := ready_none hr 5 _ rfl (by simp [Region.binds])
          obtain rfl : b6 = true := ready_none hr 6 _ rfl (by simp [Region.binds])
          obtain rfl : b7 = true := ready_none hr 7 _ rfl (by simp [Region.binds])
          obtain rfl : b8 = true := ready_none hr 8 _ rfl (by simp [Region.binds])
          obtain rfl : b9 = true := ready_none hr 9 _ rfl (by simp [Region.binds])
          obtain rfl : b10 = true := ready_none hr 10 _ rfl (by simp [Region.binds])
          obtain rfl : b11 = true := ready_none hr 11 _ rfl (by simp [Region.binds])
          obtain rfl : b12 = true := ready_none hr 12 _ rfl (by simp [Region.binds])
          obtain rfl : b13 = true := ready_none hr 13 _ rfl (by simp [Region.binds])
          obtain rfl : b14 = true := ready_none hr 14 _ rfl (by simp [Region.binds])
          obtain rfl : b15 = true := ready_none hr 15 _ rfl (by simp [Region.binds])
          obtain rfl : b16 = true := ready_none hr 16 _ rfl (by simp [Region.binds])
          obtain rfl : b17 = true := ready_none hr 17 _ rfl (by simp [Region.binds])
          obtain rfl : b18 = true := ready_none hr 18 _ rfl (by simp [Region.binds])
          simp only [setAll, List.setIfInBounds_toArray, List.set_cons_zero, List.set_cons_succ, cond_true]
          go_wp2_with fail
          go_meet
          case rel => exact ⟨V8, V9, V11, x, k, y, l, S, m, E, rfl, rfl, rfl, rfl, rfl, ws⟩
      case rest =>
        obtain ⟨G8, G9, G11, gx, gk, gy, gl, GS, gm, GE, rfl, rfl, rfl, rfl, rfl, gs⟩ := hcut
        have HW : Hid (WB (S, E, y, M * 6, flat f1) (S, E, x, K * 6, flat Qf) (V8, cdCells RC, 28) (V9, #[.slice x K k, .int .i64 T], 31) (V11, pkCells U, 33) wc) := ((WS2.out).below gs.bel).wb
        have HG : Hid (WB (GS, gm, gy, M * 6, flat f1) (gm, GE, gx, K * 6, flat Qf) (G8, cdCells RC, 28) (G9, #[.slice gx K gk, .int .i64 T], 31) (G11, pkCells U, 33) wc) := gs.wb
        have HX : Hid (Sits wc V13 #[.slice d3 len1 len1, .int .i64 lim1] 31) := Sits.below SX.out gs.bel (Sits.lt SX.out)
        have HZX : Hid (ZI L13 U13 wc d3 (len1 * 6) (flat f1)) := ZI.below Z13.out gs.bel
        have HV1 : Hid (Below v1.heap.size v1 wc) := (WS2.out).bel.trans (gs.bel.mono (WS2.out).size)
        have ng8 : V13 < G8 := Nat.lt_of_lt_of_le l13 (gs.box (G8, cdCells RC, 28) (by simp)).1
        have ng9 : V13 < G9 := Nat.lt_of_lt_of_le l13 (gs.box (G9, #[.slice gx K gk, .int .i64 T], 31) (by simp)).1
        have ng11 : V13 < G11 := Nat.lt_of_lt_of_le l13 (gs.box (G11, pkCells U, 33) (by simp)).1
        have ngS : V13 < GS := Nat.lt_of_lt_of_le l13 (gs.zone (GS, gm, gy, M * 6, flat f1) (by simp)).1
        have ngm : V13 < gm := Nat.lt_of_lt_of_le l13 (gs.zone (gm, GE, gx, K * 6, flat Qf) (by simp)).1
        have of1 := gs.off (GS, gm, gy, M * 6, flat f1) (by simp)
        have of2 := gs.off (gm, GE, gx, K * 6, flat Qf) (by simp)
        have o18 := of1 (G8, cdCells RC, 28) (by simp)
        have o19 := of1 (G9, #[.slice gx K gk, .int .i64 T], 31) (by simp)
        have o11 := of1 (G11, pkCells U, 33) (by simp)
        have o28 := of2 (G8, cdCells RC, 28) (by simp)
        have o29 := of2 (G9, #[.slice gx K gk, .int .i64 T], 31) (by simp)
        have o21 := of2 (G11, pkCells U, 33) (by simp)
        have OFF : Hid (((G8 < GS ∨ gm ≤ G8) ∧ (G9 < GS ∨ gm ≤ G9) ∧ (G11 < GS ∨ gm ≤ G11)) ∧ ((G8 < gm ∨ GE ≤ G8) ∧ (G9 < gm ∨ GE ≤ G9) ∧ (G11 < gm ∨ GE ≤ G11))) := ⟨⟨o18, o19, o11⟩, ⟨o28, o29, o21⟩⟩
        clear gs WS2 SX Z13 of1 of2 o18 o19 o11 o28 o29 o21
        have HA : Hid (∀ W, Below wc.heap.size wc W → WB (S, E, y, M * 6, flat f1) (S, E, x, K * 6, flat Qf) (V8, cdCells RC, 28) (V9, #[.slice x K k, .int .i64 T], 31) (V11, pkCells U, 33) W ∧ WB (GS, gm, gy, M * 6, flat f1) (gm, GE, gx, K * 6, flat Qf) (G8, cdCells RC, 28) (G9, #[.slice gx K gk, .int .i64 T], 31) (G11, pkCells U, 33) W ∧ Sits W V13 #[.slice d3 len1 len1, .int .i64 lim1] 31 ∧ ZI L13 U13 W d3 (len1 * 6) (flat f1)) := fun W hW => ⟨(HW.out).below hW, (HG.out).below hW, Sits.below HX.out hW (Sits.lt HX.out), ZI.below HZX.out hW⟩
        obtain ⟨a1, a2, _⟩ := HA.out _ (Below.refl _ _)
        have q1 := a1.one
        have q2 := a2.one
        obtain ⟨p0, p1, p2, p3, p4, p5, p6⟩ := cd_cells q1
        obtain ⟨r0', r1, r2, r3, r4, r5, r6⟩ := cd_cells q2
        clear a1 a2 q1 q2
        go_upto_region 10 with (first | (go_at_call 9; refine (eqCodel_yes RC _).mono ?_; rintro e w4 ⟨rfl, k4⟩; have HB4 : Hid (Below wc.heap.size wc w4) := k4.1; obtain ⟨a1, a2, _⟩ := HA.out _ k4.1; have q1 := a1.two; have q2 := a2.two; have j0 : w4.cell? ⟨V9, 0, none⟩ = some (.slice x K k) := q1.cell 0; have j1 : w4.cell? ⟨V9, 1, none⟩ = some (.int .i64 T) := q1.cell 1; have h0 : w4.cell? ⟨G9, 0, none⟩ = some (.slice gx K gk) := q2.cell 0; have h1 : w4.cell? ⟨G9, 1, none⟩ = some (.int .i64 T) := q2.cell 1; have HP1 : Hid (PR w4.heap.size w4 x K Qf) := (a1.zt).pr; have HP2 : Hid (PR w4.heap.size w4 gx K Qf) := (a2.zt).pr; clear a1 a2 q1 q2 k4) | (go_at_call 10; refine (eqFifo_yes gx x K gk k T Qf _ HP2.out HP1.out HKL.out).mono ?_; rintro e w5 ⟨rfl, k5⟩; have HB5 : Hid (Below wc.heap.size wc w5) := (HB4.out).trans (k5.mono (HB4.out).size); obtain ⟨a1, a2, _⟩ := HA.out _ HB5.out; have HP3 : Hid (PR w5.heap.size w5 y M f1) := (a1.zo).pr; have HP4 : Hid (PR w5.heap.size w5 gy M f1) := (a2.zo).pr; clear a1 a2 k5) | (go_at_call 11; refine (eqPktS_yes gy y M gl l f1 _ HP4.out HP3.out HML.out).mono ?_; rintro e w6 ⟨rfl, k6⟩; have HB6 : Hid (Below wc.heap.size wc w6) := (HB5.out).trans (k6.mono (HB5.out).size); obtain ⟨a1, a2, _⟩ := HA.out _ HB6.out; have q1 := a1.thr; have q2 := a2.thr; have s0 : w6.cell? ⟨V11, 0, none⟩ = some (.int .i64 U.id) := q1.cell 0; have s1 : w6.cell? ⟨V11, 1, none⟩ = some (.int .i64 U.flow) := q1.cell 1; have s2 : w6.cell? ⟨V11, 2, none⟩ = some (.int .i64 U.host) := q1.cell 2; have s3 : w6.cell? ⟨V11, 3, none⟩ = some (.int .i64 U.size) := q1.cell 3; have s4 : w6.cell? ⟨V11, 4, none⟩ = some (.int .i64 U.tm) := q1.cell 4; have s5 : w6.cell? ⟨V11, 5, none⟩ = some (.int .i64 U.ecn) := q1.cell 5; have m0 : w6.cell? ⟨G11, 0, none⟩ = some (.int .i64 U.id) := q2.cell 0; have m1 : w6.cell? ⟨G11, 1, none⟩ = some (.int .i64 U.flow) := q2.cell 1; have m2 : w6.cell? ⟨G11, 2, none⟩ = some (.int .i64 U.host) := q2.cell 2; have m3 : w6.cell? ⟨G11, 3, none⟩ = some (.int .i64 U.size) := q2.cell 3; have m4 : w6.cell? ⟨G11, 4, none⟩ = some (.int .i64 U.tm) := q2.cell 4; have m5 : w6.cell? ⟨G11, 5, none⟩ = some (.int .i64 U.ecn) := q2.cell 5; clear a1 a2 q1 q2 k6) | (go_at_call 12; refine (eqPkt_yes U _).mono ?_; rintro e w7 ⟨rfl, k7⟩; have HB7 : Hid (Below wc.heap.size wc w7) := (HB6.out).trans (k7.1.mono (HB6.out).size); clear k7))
        have HB17 : Hid (Below v1.heap.size v1 w7) := (HV1.out).trans (Below.mono HB7.out (HV1.out).size)
        have BW7 : Hid (Below w.heap.size w w7) := B.trans (Below.mono HB17.out B.size)
        have hSB10 : Hid (∀ w', Below w7.heap.size w7 w' → ((w'.cell? ⟨V13, 0, none⟩ = some (.slice d3 len1 len1) ∧ w'.cell? ⟨V13, 1, none⟩ = some (.int .i64 lim1)) ∧ (w'.cell? ⟨w.heap.size + 1, 0, none⟩ = some (.slice a1 len1 cap1) ∧ w'.cell? ⟨w.heap.size + 1, 1, none⟩ = some (.int .i64 lim1)))) := fun w' hw' => by
          obtain ⟨_, _, sx, _⟩ := HA.out _ ((HB7.out).trans (hw'.mono (HB7.out).size))
          obtain ⟨_, lf⟩ := hSB.out _ ((HB17.out).trans (hw'.mono (HB17.out).size))
          exact ⟨⟨sx.cell 0, sx.cell 1⟩, fi2_cells lf⟩
        have HPX : Hid (PR w7.heap.size w7.drew d3 len1 f1) := by
          obtain ⟨_, _, _, zx⟩ := HA.out _ HB7.out
          exact zx.pr
        have HPA : Hid (PR w.heap.size w7.drew a1 len1 f1) := PR.below HR.out (BW7.out).drew
        clear p0 p1 p2 p3 p4 p5 p6 r0' r1 r2 r3 r4 r5 r6 j0 j1 h0 h1 HP1 HP2 HP3 HP4 s0 s1 s2 s3 s4 s5 m0 m1 m2 m3 m4 m5 HB4 HB5 HB6
        go_cut [88] from 84 (fun s wx => s = .bool false ∧ Below w7.heap.size w7 wx)
        case first =>
          go_region_held3 (fun w' => ((w'.cell? ⟨V13, 0, none⟩ = some (.slice d3 len1 len1) ∧ w'.cell? ⟨V13, 1, none⟩ = some (.int .i64 lim1)) ∧ (w'.cell? ⟨w.heap.size + 1, 0, none⟩ = some (.slice a1 len1 cap1) ∧ w'.cell? ⟨w.heap.size + 1, 1, none⟩ = some (.int .i64 lim1)))) (first | exact hSB10.out _ ((Below.refl _ _).drew) | exact hSB10.out _ ((Below.refl _ w7).drew.trans b8) | exact hSB10.out _ (((Below.refl _ w7).drew.trans b8).trans (b9.mono b8.size))) (first | (go_at_call 7; refine (toFifo_any a1 len1 cap1 lim1 f1 _ ((HPA.out).mono (BW7.out).size) hn).mono ?_; rintro o w8 ⟨d8, rfl, z8, b8⟩) | (go_at_call 10; refine (eqFifo_yes d3 d8 len1 len1 len1 lim1 f1 _ ((PR.below HPX.out b8).mono b8.size) z8.pr hn).mono ?_; rintro o w9 ⟨rfl, b9⟩))
          all_goals
            go_wp2_with fail
            go_meet
            case rel => exact ⟨rfl, ((Below.refl _ w7).drew.trans b8).trans (b9.mono b8.size)⟩
        case rest =>
          obtain ⟨rfl, hb8⟩ := hcut
          obtain ⟨aw, ag, sx, zx⟩ := HA.out _ ((HB7.out).trans (hb8.mono (HB7.out).size))
          have HV8 : Hid (Below v1.heap.size v1 wc) := (HB17.out).trans (hb8.mono (HB17.out).size)
          have HAW : Hid (WB (S, E, y, M * 6, flat f1) (S, E, x, K * 6, flat Qf) (V8, cdCells RC, 28) (V9, #[.slice x K k, .int .i64 T], 31) (V11, pkCells U, 33) wc) := aw
          have HAG : Hid (WB (GS, gm, gy, M * 6, flat f1) (gm, GE, gx, K * 6, flat Qf) (G8, cdCells RC, 28) (G9, #[.slice gx K gk, .int .i64 T], 31) (G11, pkCells U, 33) wc) := ag
          have HZ8 : Hid (ZI L13 U13 wc d3 (len1 * 6) (flat f1)) := zx
          have X0 : wc.cell? ⟨V13, 0, none⟩ = some (.slice d3 len1 len1) := sx.cell 0
          have X1 : wc.cell? ⟨V13, 1, none⟩ = some (.int .i64 lim1) := sx.cell 1
          have nwc : L13 ≤ wc.heap.size := by have := sx.lt; omega
          clear aw ag sx zx hb8 HA HB7 HB17 BW7 hSB10 HPX HPA
          have hk0 : decide (1 + (len1 : Int) * 6 < 0) = false := by simp; omega
          go_upto_region 14 with (go_at_call 13; refine (markFifo_zi L13 U13 d3 len1 len1 lim1 (flat f1) 1 _ HZ8.out hn (by omega) (by omega)).mono ?_; rintro e w10 ⟨rfl, _, c10⟩; have HC10 : Hid (Chg L13 U13 wc w10) := c10; clear c10)
          have HW10 : Hid (WB (S, E, y, M * 6, flat f1) (S, E, x, K * 6, flat Qf) (V8, cdCells RC, 28) (V9, #[.slice x K k, .int .i64 T], 31) (V11, pkCells U, 33) w10) := WB.chg HAW.out HC10.out (.inl n8) (.inl n9) (.inl n11) (.inl nE) (.inl nE)
          have HG10 : Hid (WB (GS, gm, gy, M * 6, flat f1) (gm, GE, gx, K * 6, flat Qf) (G8, cdCells RC, 28) (G9, #[.slice gx K gk, .int .i64 T], 31) (G11, pkCells U, 33) w10) := WB.chg HAG.out HC10.out (.inr (by show U13 ≤ G8; omega)) (.inr (by show U13 ≤ G9; omega)) (.inr (by show U13 ≤ G11; omega)) (.inr (by show U13 ≤ GS; omega)) (.inr (by show U13 ≤ gm; omega))
          have HV10 : Hid (Below v1.heap.size v1 w10) := (HV8.out).trans ((Chg.below HC10.out nwc).mono nv1)
          have HA2 : Hid (∀ W, Below w10.heap.size w10 W → WB (S, E, y, M * 6, flat f1) (S, E, x, K * 6, flat Qf) (V8, cdCells RC, 28) (V9, #[.slice x K k, .int .i64 T], 31) (V11, pkCells U, 33) W ∧ WB (GS, gm, gy, M * 6, flat f1) (gm, GE, gx, K * 6, flat Qf) (G8, cdCells RC, 28) (G9, #[.slice gx K gk, .int .i64 T], 31) (G11, pkCells U, 33) W ∧ True) := fun W hW => ⟨(HW10.out).below hW, (HG10.out).below hW, trivial⟩
          clear X0 X1 HAW HAG HZ8 HC10 HV8
          obtain ⟨a1, a2, _⟩ := HA2.out _ (Below.refl _ _)
          have q1 := a1.one
          have q2 := a2.one
          obtain ⟨p0, p1, p2, p3, p4, p5, p6⟩ := cd_cells q1
          obtain ⟨r0', r1, r2, r3, r4, r5, r6⟩ := cd_cells q2
          clear a1 a2 q1 q2
          go_upto_region 17 with (first | (go_at_call 9; refine (eqCodel_yes RC _).mono ?_; rintro e w4 ⟨rfl, k4⟩; have HB4 : Hid (Below w10.heap.size w10 w4) := k4.1; obtain ⟨a1, a2, _⟩ := HA2.out _ k4.1; have q1 := a1.two; have q2 := a2.two; have j0 : w4.cell? ⟨V9, 0, none⟩ = some (.slice x K k) := q1.cell 0; have j1 : w4.cell? ⟨V9, 1, none⟩ = some (.int .i64 T) := q1.cell 1; have h0 : w4.cell? ⟨G9, 0, none⟩ = some (.slice gx K gk) := q2.cell 0; have h1 : w4.cell? ⟨G9, 1, none⟩ = some (.int .i64 T) := q2.cell 1; have HP1 : Hid (PR w4.heap.size w4 x K Qf) := (a1.zt).pr; have HP2 : Hid (PR w4.heap.size w4 gx K Qf) := (a2.zt).pr; clear a1 a2 q1 q2 k4) | (go_at_call 10; refine (eqFifo_yes gx x K gk k T Qf _ HP2.out HP1.out HKL.out).mono ?_; rintro e w5 ⟨rfl, k5⟩; have HB5 : Hid (Below w10.heap.size w10 w5) := (HB4.out).trans (k5.mono (HB4.out).size); obtain ⟨a1, a2, _⟩ := HA2.out _ HB5.out; have HP3 : Hid (PR w5.heap.size w5 y M f1) := (a1.zo).pr; have HP4 : Hid (PR w5.heap.size w5 gy M f1) := (a2.zo).pr; clear a1 a2 k5) | (go_at_call 11; refine (eqPktS_yes gy y M gl l f1 _ HP4.out HP3.out HML.out).mono ?_; rintro e w6 ⟨rfl, k6⟩; have HB6 : Hid (Below w10.heap.size w10 w6) := (HB5.out).trans (k6.mono (HB5.out).size); obtain ⟨a1, a2, _⟩ := HA2.out _ HB6.out; have q1 := a1.thr; have q2 := a2.thr; have s0 : w6.cell? ⟨V11, 0, none⟩ = some (.int .i64 U.id) := q1.cell 0; have s1 : w6.cell? ⟨V11, 1, none⟩ = some (.int .i64 U.flow) := q1.cell 1; have s2 : w6.cell? ⟨V11, 2, none⟩ = some (.int .i64 U.host) := q1.cell 2; have s3 : w6.cell? ⟨V11, 3, none⟩ = some (.int .i64 U.size) := q1.cell 3; have s4 : w6.cell? ⟨V11, 4, none⟩ = some (.int .i64 U.tm) := q1.cell 4; have s5 : w6.cell? ⟨V11, 5, none⟩ = some (.int .i64 U.ecn) := q1.cell 5; have m0 : w6.cell? ⟨G11, 0, none⟩ = some (.int .i64 U.id) := q2.cell 0; have m1 : w6.cell? ⟨G11, 1, none⟩ = some (.int .i64 U.flow) := q2.cell 1; have m2 : w6.cell? ⟨G11, 2, none⟩ = some (.int .i64 U.host) := q2.cell 2; have m3 : w6.cell? ⟨G11, 3, none⟩ = some (.int .i64 U.size) := q2.cell 3; have m4 : w6.cell? ⟨G11, 4, none⟩ = some (.int .i64 U.tm) := q2.cell 4; have m5 : w6.cell? ⟨G11, 5, none⟩ = some (.int .i64 U.ecn) := q2.cell 5; clear a1 a2 q1 q2 k6) | (go_at_call 12; refine (eqPkt_yes U _).mono ?_; rintro e w7 ⟨rfl, k7⟩; have HC7 : Hid (Below w10.heap.size w10 w7) := (HB6.out).trans (k7.1.mono (HB6.out).size); clear k7))
          have HV7 : Hid (Below v1.heap.size v1 w7) := (HV10.out).trans (Below.mono HC7.out (HV10.out).size)
          obtain ⟨aw, ag, _⟩ := HA2.out _ HC7.out
          have HAW : Hid (WB (S, E, y, M * 6, flat f1) (S, E, x, K * 6, flat Qf) (V8, cdCells RC, 28) (V9, #[.slice x K k, .int .i64 T], 31) (V11, pkCells U, 33) w7) := aw
          have HAG : Hid (WB (GS, gm, gy, M * 6, flat f1) (gm, GE, gx, K * 6, flat Qf) (G8, cdCells RC, 28) (G9, #[.slice gx K gk, .int .i64 T], 31) (G11, pkCells U, 33) w7) := ag
          have Y0 : w7.cell? ⟨G9, 0, none⟩ = some (.slice gx K gk) := ag.two.cell 0
          have Y1 : w7.cell? ⟨G9, 1, none⟩ = some (.int .i64 T) := ag.two.cell 1
          have nw7 : V13 < w7.heap.size := by have := ag.two.lt; omega
          clear aw ag HA2 HC7 HW10 HG10 HV10 p0 p1 p2 p3 p4 p5 p6 r0' r1 r2 r3 r4 r5 r6 j0 j1 h0 h1 HP1 HP2 HP3 HP4 s0 s1 s2 s3 s4 s5 m0 m1 m2 m3 m4 m5 HB4 HB5 HB6 hk0
          go_upto_region 18 with (go_at_call 13; refine (markFifo_zi gm GE gx K gk T (flat Qf) 1 _ (HAG.out).zt HKL.out (by omega) (by omega)).mono ?_; rintro e w11 ⟨rfl, z11, c11⟩; have HC11 : Hid (Chg gm GE w7 w11) := c11; have HZ11 : Hid (ZI gm GE w11 gx (K * 6) (fun o => 1 + (o : Int))) := z11; clear z11 c11)
          obtain ⟨⟨o18, o19, o11⟩, ⟨o28, o29, o21⟩⟩ := OFF.out
          have HW11 : Hid (WB (S, E, y, M * 6, flat f1) (S, E, x, K * 6, flat Qf) (V8, cdCells RC, 28) (V9, #[.slice x K k, .int .i64 T], 31) (V11, pkCells U, 33) w11) := WB.chg HAW.out HC11.out (.inl (by show V8 < gm; omega)) (.inl (by show V9 < gm; omega)) (.inl (by show V11 < gm; omega)) (.inl (by show E ≤ gm; omega)) (.inl (by show E ≤ gm; omega))
          have S9 : Hid (Sits w11 G9 #[.slice gx K gk, .int .i64 T] 31) := Sits.other' HC11.out (HAG.out).two o29
          have HZy : Hid (ZI GS gm w11 gy (M * 6) (flat f1)) := ZI.chg (HAG.out).zo HC11.out (.inl (Nat.le_refl _))
          have HV11 : Hid (Below v1.heap.size v1 w11) := (HV7.out).trans ((Chg.below (Chg.wide0 HC11.out (show V13 + 1 ≤ gm by omega)) (by omega)).mono (by omega))
          have nw11 : V13 < w11.heap.size := by have := (HC11.out).size; omega
          have hKi : (K : Int) ≤ 1048576 := by have := HKL.out; omega
          have hMi : (M : Int) ≤ 1048576 := by have := HML.out; omega
          clear Y0 Y1 HAW HAG HC11 HV7
          go_upto_region 19 with (go_at_call 14; refine (markPktS_zi GS gm gy M gl (flat f1) (1 + (K : Int) * 6) _ HZy.out HML.out (by omega) (by omega)).mono ?_; rintro e w12 ⟨rfl, z12, c12⟩; have HC12 : Hid (Chg GS gm w11 w12) := c12; have HZ12 : Hid (ZI GS gm w12 gy (M * 6) (fun o => 1 + (K : Int) * 6 + (o : Int))) := z12; clear z12 c12)
          have S12 : Sits w12 G9 #[.slice gx K gk, .int .i64 T] 31 := Sits.other' HC12.out S9.out o19
          have HS12 : Hid (Sits w12 G9 #[.slice gx K gk, .int .i64 T] 31) := S12
          have HW12 : Hid (WB (S, E, y, M * 6, flat f1) (S, E, x, K * 6, flat Qf) (V8, cdCells RC, 28) (V9, #[.slice x K k, .int .i64 T], 31) (V11, pkCells U, 33) w12) := WB.chg HW11.out HC12.out (.inl (by show V8 < GS; omega)) (.inl (by show V9 < GS; omega)) (.inl (by show V11 < GS; omega)) (.inl (by show E ≤ GS; omega)) (.inl (by show E ≤ GS; omega))
          have HX12 : Hid (ZI gm GE w12 gx (K * 6) (fun o => 1 + (o : Int))) := ZI.chg HZ11.out HC12.out (.inr (Nat.le_refl _))
          have HV12 : Hid (Below v1.heap.size v1 w12) := (HV11.out).trans ((Chg.below (Chg.wide0 HC12.out (show V13 + 1 ≤ GS by omega)) (by omega)).mono (by omega))
          have Y0 : w12.cell? ⟨G9, 0, none⟩ = some (.slice gx K gk) := S12.cell 0
          have Y1 : w12.cell? ⟨G9, 1, none⟩ = some (.int .i64 T) := S12.cell 1
          have hk1 : decide (1 + (K : Int) * 6 < 0) = false := decide_eq_false (by omega)
          have hk2 : decide (1 + (K : Int) * 6 + (M : Int) * 6 < 0) = false := decide_eq_false (by omega)
          clear S12 S9 HW11 HZ11 HZy HV11 HC12 nw7 o18 o19 o11 o28 o29 o21
          go_upto_region 23 with (go_at_call 15; refine (heldFifo_any gx K gk T 1 _ (ZI.row HX12.out) HKL.out (by omega) (by omega)).mono ?_; rintro e w13 ⟨rfl, b13⟩; have HB13 : Hid (Below w12.heap.size w12 w13) := b13; clear b13)
          have HY13 : Hid (ZI GS gm w13 gy (M * 6) (fun o => 1 + (K : Int) * 6 + (o : Int))) := ZI.below HZ12.out HB13.out
          have HX13 : Hid (ZI gm GE w13 gx (K * 6) (fun o => 1 + (o : Int))) := ZI.below HX12.out HB13.out
          have HS13 : Hid (Sits w13 G9 #[.slice gx K gk, .int .i64 T] 31) := Sits.below HS12.out HB13.out (Sits.lt HS12.out)
          have HW13 : Hid (WB (S, E, y, M * 6, flat f1) (S, E, x, K * 6, flat Qf) (V8, cdCells RC, 28) (V9, #[.slice x K k, .int .i64 T], 31) (V11, pkCells U, 33) w13) := (HW12.out).below HB13.out
          have HV13 : Hid (Below v1.heap.size v1 w13) := (HV12.out).trans (Below.mono HB13.out (HV12.out).size)
          clear Y0 Y1 HZ12 HX12 HS12 HW12 HV12 HB13
          go_upto_region 28 with (go_at_call 16; refine (heldPktS_any gy M gl (1 + (K : Int) * 6) _ (ZI.row HY13.out) HML.out (by omega) (by omega)).mono ?_; rintro e w14 ⟨rfl, hw14⟩; replace hw14 := hw14.symm; subst hw14)
          have hSB3 : Hid (∀ W, Below w13.heap.size w13 W → Sits W w.heap.size (cdCells r0) 23 ∧ Lies W (w.heap.size + 1) #[.slice a1 len1 cap1, .int .i64 lim1] 26) := fun W hW => hSB.out W ((HV13.out).trans (hW.mono (HV13.out).size))
          replace B : Below w.heap.size w w13 := B.trans (Below.mono HV13.out B.size)
          clear hSB hSB2 hPd HV13 HV1 HW HG HX HZX OFF
          set_option maxRecDepth 100000 in go_cut [22, 23, 24, 25, 26] from 27 (fun s8 s9 s10 s11 s12 wx => ∃ (V8 V9 V11 : Nat) (x : Option Addr) (k : Nat) (y : Option Addr) (l S m E : Nat), s8 = .pointer (some ⟨V8, 0, none⟩) ∧ s9 = .pointer (some ⟨V9, 0, none⟩) ∧ s10 = .slice y M l ∧ s11 = .pointer (some ⟨V11, 0, none⟩) ∧ s12 = .bool O ∧ WS w13 [(S, m, y, M * 6, flat f1), (m, E, x, K * 6, flat Qf)] [(V8, cdCells RC, 28), (V9, #[.slice x K k, .int .i64 T], 31), (V11, pkCells U, 33)] wx)
          case first =>
            refine wp_region_inv0 (by kernel_rfl) (fun a0 v1 listed a w => ∃ (b0 b1 b2 b3 b4 b5 b6 b7 b8 b9 b10 b11 b12 b13 b14 b15 b16 b17 b18 b19 : Bool) (d x : Option Addr) (k : Nat) (y : Option Addr) (l S m E V8 V9 V11 : Nat), listed = #[b0, b1, b2, b3, b4, b5, b6, b7, b8, b9, b10, b11, b12, b13, b14, b15, b16, b17, b18, b19] ∧ a = setAll a0 [(143, bif b0 then r0.val else u143), (144, bif b1 then r0.val else u144), (145, bif b2 then fiVal a1 len1 cap1 lim1 else u145), (146, bif b3 then fiVal d len1 len1 lim1 else u146), (147, bif b4 then (.int .i64 z2) else u147), (148, bif b5 then (.tuple #[RC.val, fiVal x K k T, .slice y M l, U.val, .bool O]) else u148), (142, bif b6 then (.tuple #[RC.val, fiVal x K k T, .slice y M l, U.val, .bool O]) else u142), (149, bif b7 then RC.val else u149), (150, bif b8 then fiVal x K k T else u150), (151, bif b9 then (.slice y M l) else u151), (152, bif b10 then U.val else u152), (153, bif b11 then (.bool O) else u153), (22, bif b12 then (.pointer (some ⟨V8, 0, none⟩)) else undef), (23, bif b13 then (.pointer (some ⟨V9, 0, none⟩)) else undef), (25, bif b14 then (.pointer (some ⟨V11, 0, none⟩)) else undef), (24, bif b17 then (.slice y M l) else undef), (26, bif b19 then (.bool O) else undef)] ∧ WS v1 (bif b5 then [(S, m, y, M * 6, flat f1), (m, E, x, K * 6, flat Qf)] else []) ((bif b12 then [(V8, bif b15 then cdCells RC else cdCells Cd.zero, 28)] else []) ++ ((bif b13 then [(V9, bif b16 then #[.slice x K k, .int .i64 T] else #[.slice none 0 0, .int .i64 0], 31)] else []) ++ ((bif b14 then [(V11, bif b18 then pkCells U else pkCells ⟨0, 0, 0, 0, 0, 0⟩, 33)] else [])))) w ∧ (b3 = true ∧ b5 = false → PR w.heap.size w d len1 f1) ∧ (b5 = false → b6 = false ∧ b7 = false ∧ b8 = false ∧ b9 = false ∧ b10 = false ∧ b11 = false ∧ b15 = false ∧ b16 = false ∧ b17 = false ∧ b18 = false ∧ b19 = false) ∧ (b12 = false → b15 = false) ∧ (b13 = false → b16 = false) ∧ (b14 = false → b18 = false)) ?start ?step ?fin
            case start => exact ⟨false, false, false, false, false, false, false, false, false, false, false, false, false, false, false, false, false, false, false, false, none, none, 0, none, 0, 0, 0, 0, 0, 0, 0, rfl, by simp only [setAll, List.setIfInBounds_toArray, List.set_cons_zero, List.set_cons_succ, cond_false], WS.start _, fun h => absurd h (by simp), fun _ => ⟨rfl, rfl, rfl, rfl, rfl, rfl, rfl, rfl, rfl, rfl, rfl⟩, fun _ => rfl, fun _ => rfl, fun _ => rfl⟩
            case step =>
              rintro listed a' w' i ⟨b0, b1, b2, b3, b4, b5, b6, b7, b8, b9, b10, b11, b12, b13, b14, b15, b16, b17, b18, b19, d, x, k, y, l, S, m, E, V8, V9, V11, rfl, rfl, ws, hpr, clc, clb0, clb1, clb2⟩ hr
              have hlt : i < 20 := (ready_at hr).1
              have hi : i = 0 ∨ i = 1 ∨ i = 2 ∨ i = 3 ∨ i = 4 ∨ i = 5 ∨ i = 6 ∨ i = 7 ∨ i = 8 ∨ i = 9 ∨ i = 10 ∨ i = 11 ∨ i = 12 ∨ i = 13 ∨ i = 14 ∨ i = 15 ∨ i = 16 ∨ i = 17 ∨ i = 18 ∨ i = 19 := by omega
              clear hlt
              rcases hi with rfl | rfl | rfl | rfl | rfl | rfl | rfl | rfl | rfl | rfl | rfl | rfl | rfl | rfl | rfl | rfl | rfl | rfl | rfl | rfl
              · obtain ⟨hb, hd⟩ := ready_dep hr _ rfl
                replace hb : b0 = false := hb
                subst hb
                obtain ⟨sC, lF⟩ := hSB3.out _ ws.bel
                obtain ⟨c0, c1, c2, c3, c4, c5, c6⟩ := cd_cells sC
                obtain ⟨k0, k1⟩ := fi2_cells lF
                refine wpOp_of_k fun K' HK' => ⟨_, rfl, ?_⟩
                have HW : Hid _ := ws
                have HPR : Hid _ := hpr
                have HCC : Hid _ := clc
                have HCB0 : Hid _ := clb0
                have HCB1 : Hid _ := clb1
                have HCB2 : Hid _ := clb2
                clear ws hpr clc clb0 clb1 clb2
                simp only [List.getElem_toArray, List.getElem_cons_zero]
                simp only [setAll, List.setIfInBounds_toArray, List.set_cons_zero, List.set_cons_succ, cond_false]
                go_wp2_with (fail)
                have ws := HW.out
                have hpr := HPR.out
                have clc := HCC.out
                have clb0 := HCB0.out
                have clb1 := HCB1.out
                have clb2 := HCB2.out
                refine HK'.out _ _ ?_
                exact ⟨true, b1, b2, b3, b4, b5, b6, b7, b8, b9, b10, b11, b12, b13, b14, b15, b16, b17, b18, b19, d, x, k, y, l, S, m, E, V8, V9, V11, rfl, (by simp only [setAll, List.setIfInBounds_toArray, List.set_cons_zero, List.set_cons_succ, cond_true]), ws, hpr, clc, clb0, clb1, clb2⟩
              · obtain ⟨hb, hd⟩ := ready_dep hr _ rfl
                replace hb : b1 = false := hb
                subst hb
                simp [Region.binds] at hd
                subst hd
                refine wpOp_of_k fun K' HK' => ⟨_, rfl, ?_⟩
                have HW : Hid _ := ws
                have HPR : Hid _ := hpr
                have HCC : Hid _ := clc
                have HCB0 : Hid _ := clb0
                have HCB1 : Hid _ := clb1
                have HCB2 : Hid _ := clb2
                clear ws hpr clc clb0 clb1 clb2
                simp only [List.getElem_toArray, List.getElem_cons_zero, List.getElem_cons_succ]
                simp only [setAll, List.setIfInBounds_toArray, List.set_cons_zero, List.set_cons_succ, cond_true, cond_false]
                go_wp2_with (go_at_call 6; refine (toCodel_any r0 _).mono ?_; rintro e w9 ⟨rfl, kq9⟩)
                have ws := HW.out
                have hpr := HPR.out
                have clc := HCC.out
                have clb0 := HCB0.out
                have clb1 := HCB1.out
                have clb2 := HCB2.out
                refine HK'.out _ _ ?_
                exact ⟨true, true, b2, b3, b4, b5, b6, b7, b8, b9, b10, b11, b12, b13, b14, b15, b16, b17, b18, b19, d, x, k, y, l, S, m, E, V8, V9, V11, rfl, (by simp only [setAll, List.setIfInBounds_toArray, List.set_cons_zero, List.set_cons_succ, cond_true]), ws.below kq9.1, fun h => ((hpr h).below kq9.1).mono kq9.1.size, clc, clb0, clb1, clb2⟩
              · obtain ⟨hb, hd⟩ := ready_dep hr _ rfl
                replace hb : b2 = false := hb
                subst hb
                obtain ⟨sC, lF⟩ := hSB3.out _ ws.bel
                obtain ⟨c0, c1, c2, c3, c4, c5, c6⟩ := cd_cells sC
                obtain ⟨k0, k1⟩ := fi2_cells lF
                refine wpOp_of_k fun K' HK' => ⟨_, rfl, ?_⟩
                have HW : Hid _ := ws
                have HPR : Hid _ := hpr
                have HCC : Hid _ := clc
                have HCB0 : Hid _ := clb0
                have HCB1 : Hid _ := clb1
                have HCB2 : Hid _ := clb2
                clear ws hpr clc clb0 clb1 clb2
                simp only [List.getElem_toArray, List.getElem_cons_zero, List.getElem_cons_succ]
                simp only [setAll, List.setIfInBounds_toArray, List.set_cons_zero, List.set_cons_succ, cond_false]
                go_wp2_with (fail)
                have ws := HW.out
                have hpr := HPR.out
                have clc := HCC.out
                have clb0 := HCB0.out
                have clb1 := HCB1.out
                have clb2 := HCB2.out
                refine HK'.out _ _ ?_
                exact ⟨b0, b1, true, b3, b4, b5, b6, b7, b8, b9, b10, b11, b12, b13, b14, b15, b16, b17, b18, b19, d, x, k, y, l, S, m, E, V8, V9, V11, rfl, (by simp only [setAll, List.setIfInBounds_toArray, List.set_cons_zero, List.set_cons_succ, cond_true]), ws, hpr, clc, clb0, clb1, clb2⟩
              · obtain ⟨hb, hd⟩ := ready_dep hr _ rfl
                replace hb : b3 = false := hb
                subst hb
                simp [Region.binds] at hd
                obtain ⟨rfl, rfl⟩ := hd
                have hbw : Below w.heap.size w w' := B.trans (ws.bel.mono B.size)
                refine wpOp_of_k fun K' HK' => ⟨_, rfl, ?_⟩
                have HW : Hid _ := ws
                have HPR : Hid _ := hpr
                have HCC : Hid _ := clc
                have HCB0 : Hid _ := clb0
                have HCB1 : Hid _ := clb1
                have HCB2 : Hid _ := clb2
                clear ws hpr clc clb0 clb1 clb2
                simp only [List.getElem_toArray, List.getElem_cons_zero, List.getElem_cons_succ]
                simp only [setAll, List.setIfInBounds_toArray, List.set_cons_zero, List.set_cons_succ, cond_true, cond_false]
                go_wp2_with (go_at_call 7; refine (toFifo_any a1 len1 cap1 lim1 f1 _ ((PR.below HR.out hbw).mono hbw.size) hn).mono ?_; rintro e w9 ⟨d9, rfl, z9, bq9⟩)
                have ws := HW.out
                have hpr := HPR.out
                have clc := HCC.out
                have clb0 := HCB0.out
                have clb1 := HCB1.out
                have clb2 := HCB2.out
                refine HK'.out _ _ ?_
                exact ⟨b0, true, true, true, b4, b5, b6, b7, b8, b9, b10, b11, b12, b13, b14, b15, b16, b17, b18, b19, d9, x, k, y, l, S, m, E, V8, V9, V11, rfl, (by simp only [setAll, List.setIfInBounds_toArray, List.set_cons_zero, List.set_cons_succ, cond_true]), ws.below bq9, fun _ => ZI.pr z9, clc, clb0, clb1, clb2⟩
              · obtain ⟨hb, hd⟩ := ready_dep hr _ rfl
                replace hb : b4 = false := hb
                subst hb
                refine wpOp_of_k fun K' HK' => ⟨_, rfl, ?_⟩
                have HW : Hid _ := ws
                have HPR : Hid _ := hpr
                have HCC : Hid _ := clc
                have HCB0 : Hid _ := clb0
                have HCB1 : Hid _ := clb1
                have HCB2 : Hid _ := clb2
                clear ws hpr clc clb0 clb1 clb2
                simp only [List.getElem_toArray, List.getElem_cons_zero, List.getElem_cons_succ]
                simp only [setAll, List.setIfInBounds_toArray, List.set_cons_zero, List.set_cons_succ, cond_false]
                go_wp2_with (fail)
                have ws := HW.out
                have hpr := HPR.out
                have clc := HCC.out
                have clb0 := HCB0.out
                have clb1 := HCB1.out
                have clb2 := HCB2.out
                refine HK'.out _ _ ?_
                exact ⟨b0, b1, b2, b3, true, b5, b6, b7, b8, b9, b10, b11, b12, b13, b14, b15, b16, b17, b18, b19, d, x, k, y, l, S, m, E, V8, V9, V11, rfl, (by simp only [setAll, List.setIfInBounds_toArray, List.set_cons_zero, List.set_cons_succ, cond_true]), ws, hpr, clc, clb0, clb1, clb2⟩
              · obtain ⟨hb, hd⟩ := ready_dep hr _ rfl
                replace hb : b5 = false := hb
                subst hb
                simp [Region.binds] at hd
                obtain ⟨rfl, rfl, rfl, _⟩ := hd
                obtain ⟨rfl, rfl, rfl, rfl, rfl, rfl, rfl, rfl, rfl, rfl, rfl⟩ := clc rfl
                refine wpOp_of_k fun K' HK' => ⟨_, rfl, ?_⟩
                have HW : Hid _ := ws
                have HPR : Hid _ := hpr
                have HCC : Hid _ := clc
                have HCB0 : Hid _ := clb0
                have HCB1 : Hid _ := clb1
                have HCB2 : Hid _ := clb2
                clear ws hpr clc clb0 clb1 clb2
                simp only [List.getElem_toArray, List.getElem_cons_zero, List.getElem_cons_succ]
                simp only [setAll, List.setIfInBounds_toArray, List.set_cons_zero, List.set_cons_succ, cond_true, cond_false]
                go_wp2_with (go_at_call 8; refine (HI.out _ d (HPR.out ⟨rfl, rfl⟩)).mono ?_; rintro e w9 ⟨x9, k9, y9, l9, rfl, ⟨m9, hm0, hm1, zy, zx⟩, bq9⟩)
                have ws := HW.out
                have hpr := HPR.out
                have clc := HCC.out
                have clb0 := HCB0.out
                have clb1 := HCB1.out
                have clb2 := HCB2.out
                refine HK'.out _ _ ?_
                exact ⟨b0, true, b2, true, true, true, false, false, false, false, false, false, b12, b13, b14, false, false, false, false, false, d, x9, k9, y9, l9, w'.heap.size, m9, w9.heap.size, V8, V9, V11, rfl, (by simp only [setAll, List.setIfInBounds_toArray, List.set_cons_zero, List.set_cons_succ, cond_true, cond_false]), WS.call (ys := [(w'.heap.size, m9, y9, M * 6, flat f1), (m9, w9.heap.size, x9, K * 6, flat Qf)]) ws bq9 (by intro z hz; simp only [List.mem_cons, List.not_mem_nil, or_false] at hz; rcases hz with rfl | rfl <;> first | exact ⟨Nat.le_refl _, hm1, zy⟩ | exact ⟨hm0, Nat.le_refl _, zx⟩), fun h => absurd h.2 (by simp), fun h => absurd h (by simp), fun _ => rfl, fun _ => rfl, fun _ => rfl⟩
              · obtain ⟨hb, hd⟩ := ready_dep hr _ rfl
                replace hb : b6 = false := hb
                subst hb
                simp [Region.binds] at hd
                subst hd
                refine wpOp_of_k fun K' HK' => ⟨_, rfl, ?_⟩
                have HW : Hid _ := ws
                have HPR : Hid _ := hpr
                have HCC : Hid _ := clc
                have HCB0 : Hid _ := clb0
                have HCB1 : Hid _ := clb1
                have HCB2 : Hid _ := clb2
                clear ws hpr clc clb0 clb1 clb2
                simp only [List.getElem_toArray, List.getElem_cons_zero, List.getElem_cons_succ]
                simp only [setAll, List.setIfInBounds_toArray, List.set_cons_zero, List.set_cons_succ, cond_true, cond_false]
                go_wp2_with (fail)
                have ws := HW.out
                have hpr := HPR.out
                have clc := HCC.out
                have clb0 := HCB0.out
                have clb1 := HCB1.out
                have clb2 := HCB2.out
                refine HK'.out _ _ ?_
                exact ⟨b0, b1, b2, b3, b4, true, true, b7, b8, b9, b10, b11, b12, b13, b14, b15, b16, b17, b18, b19, d, x, k, y, l, S, m, E, V8, V9, V11, rfl, (by simp only [setAll, List.setIfInBounds_toArray, List.set_cons_zero, List.set_cons_succ, cond_true]), ws, fun h => absurd h.2 (by simp), fun h => absurd h (by simp), clb0, clb1, clb2⟩
              · obtain ⟨hb, hd⟩ := ready_dep hr _ rfl
                replace hb : b7 = false := hb
                subst hb
                simp [Region.binds] at hd
                subst hd
                obtain rfl : b5 = true := by
                  cases b5 with
                  | true => rfl
                  | false => have h := clc rfl; simp at h
                refine wpOp_of_k fun K' HK' => ⟨_, rfl, ?_⟩
                have HW : Hid _ := ws
                have HPR : Hid _ := hpr
                have HCC : Hid _ := clc
                have HCB0 : Hid _ := clb0
                have HCB1 : Hid _ := clb1
                have HCB2 : Hid _ := clb2
                clear ws hpr clc clb0 clb1 clb2
                simp only [List.getElem_toArray, List.getElem_cons_zero, List.getElem_cons_succ]
                simp only [setAll, List.setIfInBounds_toArray, List.set_cons_zero, List.set_cons_succ, cond_true, cond_false]
                go_wp2_with (fail)
                have ws := HW.out
                have hpr := HPR.out
                have clc := HCC.out
                have clb0 := HCB0.out
                have clb1 := HCB1.out
                have clb2 := HCB2.out
                refine HK'.out _ _ ?_
                exact ⟨b0, b1, b2, b3, b4, true, true, true, b8, b9, b10, b11, b12, b13, b14, b15, b16, b17, b18, b19, d, x, k, y, l, S, m, E, V8, V9, V11, rfl, (by simp only [setAll, List.setIfInBounds_toArray, List.set_cons_zero, List.set_cons_succ, cond_true]), ws, fun h => absurd h.2 (by simp), fun h => absurd h (by simp), clb0, clb1, clb2⟩
              · obtain ⟨hb, hd⟩ := ready_dep hr _ rfl
                replace hb : b8 = false := hb
                subst hb
                simp [Region.binds] at hd
                subst hd
                obtain rfl : b5 = true := by
                  cases b5 with
                  | true => rfl
                  | false => have h := clc rfl; simp at h
                refine wpOp_of_k fun K' HK' => ⟨_, rfl, ?_⟩
                have HW : Hid _ := ws
                have HPR : Hid _ := hpr
                have HCC : Hid _ := clc
                have HCB0 : Hid _ := clb0
                have HCB1 : Hid _ := clb1
                have HCB2 : Hid _ := clb2
                clear ws hpr clc clb0 clb1 clb2
                simp only [List.getElem_toArray, List.getElem_cons_zero, List.getElem_cons_succ]
                simp only [setAll, List.setIfInBounds_toArray, List.set_cons_zero, List.set_cons_succ, cond_true, cond_false]
                go_wp2_with (fail)
                have ws := HW.out
                have hpr := HPR.out
                have clc := HCC.out
                have clb0 := HCB0.out
                have clb1 := HCB1.out
                have clb2 := HCB2.out
                refine HK'.out _ _ ?_
                exact ⟨b0, b1, b2, b3, b4, true, true, b7, true, b9, b10, b11, b12, b13, b14, b15, b16, b17, b18, b19, d, x, k, y, l, S, m, E, V8, V9, V11, rfl, (by simp only [setAll, List.setIfInBounds_toArray, List.set_cons_zero, List.set_cons_succ, cond_true]), ws, fun h => absurd h.2 (by simp), fun h => absurd h (by simp), clb0, clb1, clb2⟩
              · obtain ⟨hb, hd⟩ := ready_dep hr _ rfl
                replace hb : b9 = false := hb
                subst hb
                simp [Region.binds] at hd
                subst hd
                obtain rfl : b5 = true := by
                  cases b5 with
                  | true => rfl
                  | false => have h := clc rfl; simp at h
                refine wpOp_of_k fun K' HK' => ⟨_, rfl, ?_⟩
                have HW : Hid _ := ws
                have HPR : Hid _ := hpr
                have HCC : Hid _ := clc
                have HCB0 : Hid _ := clb0
                have HCB1 : Hid _ := clb1
                have HCB2 : Hid _ := clb2
                clear ws hpr clc clb0 clb1 clb2
                simp only [List.getElem_toArray, List.getElem_cons_zero, List.getElem_cons_succ]
                simp only [setAll, List.setIfInBounds_toArray, List.set_cons_zero, List.set_cons_succ, cond_true, cond_false]
                go_wp2_with (fail)
                have ws := HW.out
                have hpr := HPR.out
                have clc := HCC.out
                have clb0 := HCB0.out
                have clb1 := HCB1.out
                have clb2 := HCB2.out
                refine HK'.out _ _ ?_
                exact ⟨b0, b1, b2, b3, b4, true, true, b7, b8, true, b10, b11, b12, b13, b14, b15, b16, b17, b18, b19, d, x, k, y, l, S, m, E, V8, V9, V11, rfl, (by simp only [setAll, List.setIfInBounds_toArray, List.set_cons_zero, List.set_cons_succ, cond_true]), ws, fun h => absurd h.2 (by simp), fun h => absurd h (by simp), clb0, clb1, clb2⟩
              · obtain ⟨hb, hd⟩ := ready_dep hr _ rfl
                replace hb : b10 = false := hb
                subst hb
                simp [Region.binds] at hd
                subst hd
                obtain rfl : b5 = true := by
                  cases b5 with
                  | true => rfl
                  | false => have h := clc rfl; simp at h
                refine wpOp_of_k fun K' HK' => ⟨_, rfl, ?_⟩
                have HW : Hid _ := ws
                have HPR : Hid _ := hpr
                have HCC : Hid _ := clc
                have HCB0 : Hid _ := clb0
                have HCB1 : Hid _ := clb1
                have HCB2 : Hid _ := clb2
                clear ws hpr clc clb0 clb1 clb2
                simp only [List.getElem_toArray, List.getElem_cons_zero, List.getElem_cons_succ]
                simp only [setAll, List.setIfInBounds_toArray, List.set_cons_zero, List.set_cons_succ, cond_true, cond_false]
                go_wp2_with (fail)
                have ws := HW.out
                have hpr := HPR.out
                have clc := HCC.out
                have clb0 := HCB0.out
                have clb1 := HCB1.out
                have clb2 := HCB2.out
                refine HK'.out _ _ ?_
                exact ⟨b0, b1, b2, b3, b4, true, true, b7, b8, b9, true, b11, b12, b13, b14, b15, b16, b17, b18, b19, d, x, k, y, l, S, m, E, V8, V9, V11, rfl, (by simp only [setAll, List.setIfInBounds_toArray, List.set_cons_zero, List.set_cons_succ, cond_true]), ws, fun h => absurd h.2 (by simp), fun h => absurd h (by simp), clb0, clb1, clb2⟩
              · obtain ⟨hb, hd⟩ := ready_dep hr _ rfl
                replace hb : b11 = false := hb
                subst hb
                simp [Region.binds] at hd
                subst hd
                obtain rfl : b5 = true := by
                  cases b5 with
                  | true => rfl
                  | false => have h := clc rfl; simp at h
                refine wpOp_of_k fun K' HK' => ⟨_, rfl, ?_⟩
                have HW : Hid _ := ws
                have HPR : Hid _ := hpr
                have HCC : Hid _ := clc
                have HCB0 : Hid _ := clb0
                have HCB1 : Hid _ := clb1
                have HCB2 : Hid _ := clb2
                clear ws hpr clc clb0 clb1 clb2
                simp only [List.getElem_toArray, List.getElem_cons_zero, List.getElem_cons_succ]
                simp only [setAll, List.setIfInBounds_toArray, List.set_cons_zero, List.set_cons_succ, cond_true, cond_false]
                go_wp2_with (fail)
                have ws := HW.out
                have hpr := HPR.out
                have clc := HCC.out
                have clb0 := HCB0.out
                have clb1 := HCB1.out
                have clb2 := HCB2.out
                refine HK'.out _ _ ?_
                exact ⟨b0, b1, b2, b3, b4, true, true, b7, b8, b9, b10, true, b12, b13, b14, b15, b16, b17, b18, b19, d, x, k, y, l, S, m, E, V8, V9, V11, rfl, (by simp only [setAll, List.setIfInBounds_toArray, List.set_cons_zero, List.set_cons_succ, cond_true]), ws, fun h => absurd h.2 (by simp), fun h => absurd h (by simp), clb0, clb1, clb2⟩
              · obtain ⟨hb, hd⟩ := ready_dep hr _ rfl
                replace hb : b12 = false := hb
                subst hb
                obtain rfl := clb0 rfl
                have hbb : Below w'.heap.size w' (w'.alloc (.cells (cdCells Cd.zero) 28)) := (Below.refl _ _).alloc (Nat.le_refl _) _
                refine wpOp_of_k fun K' HK' => ⟨_, rfl, ?_⟩
                have HW : Hid _ := ws
                have HPR : Hid _ := hpr
                have HCC : Hid _ := clc
                have HCB0 : Hid _ := clb0
                have HCB1 : Hid _ := clb1
                have HCB2 : Hid _ := clb2
                clear ws hpr clc clb0 clb1 clb2
                simp only [List.getElem_toArray, List.getElem_cons_zero, List.getElem_cons_succ]
                simp only [setAll, List.setIfInBounds_toArray, List.set_cons_zero, List.set_cons_succ, cond_false]
                go_wp2_with (fail)
                have ws := HW.out
                have hpr := HPR.out
                have clc := HCC.out
                have clb0 := HCB0.out
                have clb1 := HCB1.out
                have clb2 := HCB2.out
                have wsn := WS.alloc0 (cs := cdCells Cd.zero) (t := 28) ws
                refine HK'.out _ _ ?_
                exact ⟨b0, b1, b2, b3, b4, b5, b6, b7, b8, b9, b10, b11, true, b13, b14, false, b16, b17, b18, b19, d, x, k, y, l, S, m, E, w'.heap.size, V9, V11, rfl, (by simp only [setAll, List.setIfInBounds_toArray, List.set_cons_zero, List.set_cons_succ, cond_true]), wsn, fun h => ((hpr h).below hbb).mono hbb.size, fun h => by simpa using clc h, fun h => absurd h (by simp), clb1, clb2⟩
              · obtain ⟨hb, hd⟩ := ready_dep hr _ rfl
                replace hb : b13 = false := hb
                subst hb
                obtain rfl := clb1 rfl
                have hbb : Below w'.heap.size w' (w'.alloc (.cells (#[.slice none 0 0, .int .i64 0]) 31)) := (Below.refl _ _).alloc (Nat.le_refl _) _
                refine wpOp_of_k fun K' HK' => ⟨_, rfl, ?_⟩
                have HW : Hid _ := ws
                have HPR : Hid _ := hpr
                have HCC : Hid _ := clc
                have HCB0 : Hid _ := clb0
                have HCB1 : Hid _ := clb1
                have HCB2 : Hid _ := clb2
                clear ws hpr clc clb0 clb1 clb2
                simp only [List.getElem_toArray, List.getElem_cons_zero, List.getElem_cons_succ]
                simp only [setAll, List.setIfInBounds_toArray, List.set_cons_zero, List.set_cons_succ, cond_false]
                go_wp2_with (fail)
                have ws := HW.out
                have hpr := HPR.out
                have clc := HCC.out
                have clb0 := HCB0.out
                have clb1 := HCB1.out
                have clb2 := HCB2.out
                have wsn := WS.alloc1 (cs := #[.slice none 0 0, .int .i64 0]) (t := 31) ws
                refine HK'.out _ _ ?_
                exact ⟨b0, b1, b2, b3, b4, b5, b6, b7, b8, b9, b10, b11, b12, true, b14, b15, false, b17, b18, b19, d, x, k, y, l, S, m, E, V8, w'.heap.size, V11, rfl, (by simp only [setAll, List.setIfInBounds_toArray, List.set_cons_zero, List.set_cons_succ, cond_true]), wsn, fun h => ((hpr h).below hbb).mono hbb.size, fun h => by simpa using clc h, clb0, fun h => absurd h (by simp), clb2⟩
              · obtain ⟨hb, hd⟩ := ready_dep hr _ rfl
                replace hb : b14 = false := hb
                subst hb
                obtain rfl := clb2 rfl
                have hbb : Below w'.heap.size w' (w'.alloc (.cells (pkCells ⟨0, 0, 0, 0, 0, 0⟩) 33)) := (Below.refl _ _).alloc (Nat.le_refl _) _
                refine wpOp_of_k fun K' HK' => ⟨_, rfl, ?_⟩
                have HW : Hid _ := ws
                have HPR : Hid _ := hpr
                have HCC : Hid _ := clc
                have HCB0 : Hid _ := clb0
                have HCB1 : Hid _ := clb1
                have HCB2 : Hid _ := clb2
                clear ws hpr clc clb0 clb1 clb2
                simp only [List.getElem_toArray, List.getElem_cons_zero, List.getElem_cons_succ]
                simp only [setAll, List.setIfInBounds_toArray, List.set_cons_zero, List.set_cons_succ, cond_false]
                go_wp2_with (fail)
                have ws := HW.out
                have hpr := HPR.out
                have clc := HCC.out
                have clb0 := HCB0.out
                have clb1 := HCB1.out
                have clb2 := HCB2.out
                have wsn := WS.alloc2 (cs := pkCells ⟨0, 0, 0, 0, 0, 0⟩) (t := 33) ws
                refine HK'.out _ _ ?_
                exact ⟨b0, b1, b2, b3, b4, b5, b6, b7, b8, b9, b10, b11, b12, b13, true, b15, b16, b17, false, b19, d, x, k, y, l, S, m, E, V8, V9, w'.heap.size, rfl, (by simp only [setAll, List.setIfInBounds_toArray, List.set_cons_zero, List.set_cons_succ, cond_true]), wsn, fun h => ((hpr h).below hbb).mono hbb.size, fun h => by simpa using clc h, clb0, clb1, fun h => absurd h (by simp)⟩
              · obtain ⟨hb, hd⟩ := ready_dep hr _ rfl
                replace hb : b15 = false := hb
                subst hb
                simp [Region.binds] at hd
                obtain ⟨rfl, rfl, rfl, rfl, rfl, rfl, rfl, rfl, _, rfl, _, _, rfl, rfl⟩ := hd
                have s9 := WS.at0 ws
                have fz := Sits.frozen s9
                have y0 : w'.cell? ⟨V8, 0, none⟩ = some (.int .i64 0) := Sits.cell s9 0
                have y1 : w'.cell? ⟨V8, 1, none⟩ = some (.int .i64 0) := Sits.cell s9 1
                have y2 : w'.cell? ⟨V8, 2, none⟩ = some (.int .i64 0) := Sits.cell s9 2
                have y3 : w'.cell? ⟨V8, 3, none⟩ = some (.int .i64 0) := Sits.cell s9 3
                have y4 : w'.cell? ⟨V8, 4, none⟩ = some (.int .i64 0) := Sits.cell s9 4
                have y5 : w'.cell? ⟨V8, 5, none⟩ = some (.int .i64 0) := Sits.cell s9 5
                have y6 : w'.cell? ⟨V8, 6, none⟩ = some (.bool false) := Sits.cell s9 6
                refine wpOp_of_k fun K' HK' => ⟨_, rfl, ?_⟩
                have HW : Hid _ := ws
                have HPR : Hid _ := hpr
                have HCC : Hid _ := clc
                have HCB0 : Hid _ := clb0
                have HCB1 : Hid _ := clb1
                have HCB2 : Hid _ := clb2
                clear ws hpr clc clb0 clb1 clb2
                simp only [List.getElem_toArray, List.getElem_cons_zero, List.getElem_cons_succ]
                simp only [setAll, List.setIfInBounds_toArray, List.set_cons_zero, List.set_cons_succ, cond_true]
                go_wp2_with (fail)
                have ws := HW.out
                have hpr := HPR.out
                have clc := HCC.out
                have clb0 := HCB0.out
                have clb1 := HCB1.out
                have clb2 := HCB2.out
                have wsn := (WS.store0 (WS.store0 (WS.store0 (WS.store0 (WS.store0 (WS.store0 (WS.store0 ws 0 (.int .i64 RC.tg)) 1 (.int .i64 RC.iv)) 2 (.int .i64 RC.fi)) 3 (.int .i64 RC.nx)) 4 (.int .i64 RC.ct)) 5 (.int .i64 RC.la)) 6 (.bool RC.dr))
                refine HK'.out _ _ ?_
                exact ⟨true, true, true, true, true, true, true, true, b8, b9, b10, b11, true, true, true, true, b16, b17, b18, b19, d, x, k, y, l, S, m, E, V8, V9, V11, rfl, (by simp only [setAll, List.setIfInBounds_toArray, List.set_cons_zero, List.set_cons_succ, cond_true]), wsn, fun h => absurd h.2 (by simp), fun h => absurd h (by simp), fun h => absurd h (by simp), clb1, clb2⟩
              · obtain ⟨hb, hd⟩ := ready_dep hr _ rfl
                replace hb : b16 = false := hb
                subst hb
                simp [Region.binds] at hd
                obtain ⟨rfl, rfl, rfl, rfl, rfl, rfl, rfl, rfl, rfl, rfl, rfl, _, rfl, _, rfl, _⟩ := hd
                have s9 := WS.at1 ws
                have fz := Sits.frozen s9
                have y0 : w'.cell? ⟨V9, 0, none⟩ = some (.slice none 0 0) := Sits.cell s9 0
                have y1 : w'.cell? ⟨V9, 1, none⟩ = some (.int .i64 0) := Sits.cell s9 1
                refine wpOp_of_k fun K' HK' => ⟨_, rfl, ?_⟩
                have HW : Hid _ := ws
                have HPR : Hid _ := hpr
                have HCC : Hid _ := clc
                have HCB0 : Hid _ := clb0
                have HCB1 : Hid _ := clb1
                have HCB2 : Hid _ := clb2
                clear ws hpr clc clb0 clb1 clb2
                simp only [List.getElem_toArray, List.getElem_cons_zero, List.getElem_cons_succ]
                simp only [setAll, List.setIfInBounds_toArray, List.set_cons_zero, List.set_cons_succ, cond_true]
                go_wp2_with (fail)
                have ws := HW.out
                have hpr := HPR.out
                have clc := HCC.out
                have clb0 := HCB0.out
                have clb1 := HCB1.out
                have clb2 := HCB2.out
                have wsn := (WS.store1 (WS.store1 ws 0 (.slice x K k)) 1 (.int .i64 T))
                refine HK'.out _ _ ?_
                exact ⟨true, true, true, true, true, true, true, true, true, b9, b10, b11, true, true, true, true, true, b17, b18, b19, d, x, k, y, l, S, m, E, V8, V9, V11, rfl, (by simp only [setAll, List.setIfInBounds_toArray, List.set_cons_zero, List.set_cons_succ, cond_true]), wsn, fun h => absurd h.2 (by simp), fun h => absurd h (by simp), clb0, fun h => absurd h (by simp), clb2⟩
              · obtain ⟨hb, hd⟩ := ready_dep hr _ rfl
                replace hb : b17 = false := hb
                subst hb
                simp [Region.binds] at hd
                obtain ⟨rfl, rfl, rfl, rfl, rfl, rfl, rfl, rfl, rfl, rfl, rfl, _, rfl, rfl, rfl, rfl, _⟩ := hd
                refine wpOp_of_k fun K' HK' => ⟨_, rfl, ?_⟩
                have HW : Hid _ := ws
                have HPR : Hid _ := hpr
                have HCC : Hid _ := clc
                have HCB0 : Hid _ := clb0
                have HCB1 : Hid _ := clb1
                have HCB2 : Hid _ := clb2
                clear ws hpr clc clb0 clb1 clb2
                simp only [List.getElem_toArray, List.getElem_cons_zero, List.getElem_cons_succ]
                simp only [setAll, List.setIfInBounds_toArray, List.set_cons_zero, List.set_cons_succ, cond_true, cond_false]
                go_wp2_with (fail)
                have ws := HW.out
                have hpr := HPR.out
                have clc := HCC.out
                have clb0 := HCB0.out
                have clb1 := HCB1.out
                have clb2 := HCB2.out
                refine HK'.out _ _ ?_
                exact ⟨true, true, true, true, true, true, true, true, true, true, b10, b11, true, true, true, true, true, true, b18, b19, d, x, k, y, l, S, m, E, V8, V9, V11, rfl, (by simp only [setAll, List.setIfInBounds_toArray, List.set_cons_zero, List.set_cons_succ, cond_true]), ws, fun h => absurd h.2 (by simp), fun h => absurd h (by simp), clb0, clb1, clb2⟩
              · obtain ⟨hb, hd⟩ := ready_dep hr _ rfl
                replace hb : b18 = false := hb
                subst hb
                simp [Region.binds] at hd
                obtain ⟨rfl, rfl, rfl, rfl, rfl, rfl, rfl, rfl, rfl, rfl, rfl, rfl, rfl, _, rfl, rfl, _, rfl, rfl, _⟩ := hd
                have s9 := WS.at2 ws
                have fz := Sits.frozen s9
                have y0 : w'.cell? ⟨V11, 0, none⟩ = some (.int .i64 0) := Sits.cell s9 0
                have y1 : w'.cell? ⟨V11, 1, none⟩ = some (.int .i64 0) := Sits.cell s9 1
                have y2 : w'.cell? ⟨V11, 2, none⟩ = some (.int .i64 0) := Sits.cell s9 2
                have y3 : w'.cell? ⟨V11, 3, none⟩ = some (.int .i64 0) := Sits.cell s9 3
                have y4 : w'.cell? ⟨V11, 4, none⟩ = some (.int .i64 0) := Sits.cell s9 4
                have y5 : w'.cell? ⟨V11, 5, none⟩ = some (.int .i64 0) := Sits.cell s9 5
                refine wpOp_of_k fun K' HK' => ⟨_, rfl, ?_⟩
                have HW : Hid _ := ws
                have HPR : Hid _ := hpr
                have HCC : Hid _ := clc
                have HCB0 : Hid _ := clb0
                have HCB1 : Hid _ := clb1
                have HCB2 : Hid _ := clb2
                clear ws hpr clc clb0 clb1 clb2
                simp only [List.getElem_toArray, List.getElem_cons_zero, List.getElem_cons_succ]
                simp only [setAll, List.setIfInBounds_toArray, List.set_cons_zero, List.set_cons_succ, cond_true]
                go_wp2_with (fail)
                have ws := HW.out
                have hpr := HPR.out
                have clc := HCC.out
                have clb0 := HCB0.out
                have clb1 := HCB1.out
                have clb2 := HCB2.out
                have wsn := (WS.store2 (WS.store2 (WS.store2 (WS.store2 (WS.store2 (WS.store2 ws 0 (.int .i64 U.id)) 1 (.int .i64 U.flow)) 2 (.int .i64 U.host)) 3 (.int .i64 U.size)) 4 (.int .i64 U.tm)) 5 (.int .i64 U.ecn))
                refine HK'.out _ _ ?_
                exact ⟨true, true, true, true, true, true, true, true, true, true, true, b11, true, true, true, true, true, true, true, b19, d, x, k, y, l, S, m, E, V8, V9, V11, rfl, (by simp only [setAll, List.setIfInBounds_toArray, List.set_cons_zero, List.set_cons_succ, cond_true]), wsn, fun h => absurd h.2 (by simp), fun h => absurd h (by simp), clb0, clb1, fun h => absurd h (by simp)⟩
              · obtain ⟨hb, hd⟩ := ready_dep hr _ rfl
                replace hb : b19 = false := hb
                subst hb
                simp [Region.binds] at hd
                obtain ⟨rfl, rfl, rfl, rfl, rfl, rfl, rfl, rfl, rfl, rfl, rfl, rfl, rfl, _, rfl, rfl, rfl, rfl, rfl, rfl, _⟩ := hd
                refine wpOp_of_k fun K' HK' => ⟨_, rfl, ?_⟩
                have HW : Hid _ := ws
                have HPR : Hid _ := hpr
                have HCC : Hid _ := clc
                have HCB0 : Hid _ := clb0
                have HCB1 : Hid _ := clb1
                have HCB2 : Hid _ := clb2
                clear ws hpr clc clb0 clb1 clb2
                simp only [List.getElem_toArray, List.getElem_cons_zero, List.getElem_cons_succ]
                simp only [setAll, List.setIfInBounds_toArray, List.set_cons_zero, List.set_cons_succ, cond_true, cond_false]
                go_wp2_with (fail)
                have ws := HW.out
                have hpr := HPR.out
                have clc := HCC.out
                have clb0 := HCB0.out
                have clb1 := HCB1.out
                have clb2 := HCB2.out
                refine HK'.out _ _ ?_
                exact ⟨true, true, true, true, true, true, true, true, true, true, true, true, true, true, true, true, true, true, true, true, d, x, k, y, l, S, m, E, V8, V9, V11, rfl, (by simp only [setAll, List.setIfInBounds_toArray, List.set_cons_zero, List.set_cons_succ, cond_true]), ws, fun h => absurd h.2 (by simp), fun h => absurd h (by simp), clb0, clb1, clb2⟩
            case fin =>
              rintro listed a' w' ⟨b0, b1, b2, b3, b4, b5, b6, b7, b8, b9, b10, b11, b12, b13, b14, b15, b16, b17, b18, b19, d, x, k, y, l, S, m, E, V8, V9, V11, rfl, rfl, ws, hpr, clc, clb0, clb1, clb2⟩ hr
              clear clc clb0 clb1 clb2 hpr
              obtain rfl : b0 = true := ready_none hr 0 _ rfl (by simp [Region.binds])
              obtain rfl : b1 = true := ready_none hr 1 _ rfl (by simp [Region.binds])
              obtain rfl : b2 = true := ready_none hr 2 _ rfl (by simp [Region.binds])
              obtain rfl : b3 = true := ready_none hr 3 _ rfl (by simp [Region.binds])
              obtain rfl : b4 = true := ready_none hr 4 _ rfl (by simp [Region.binds])
              obtain rfl : b5 = true := ready_none hr 5 _ rfl (by simp [Region.binds])
              obtain rfl : b6 = true := ready_none hr 6 _ rfl (by simp [Region.binds])
              obtain rfl : b7 = true := ready_none hr 7 _ rfl (by simp [Region.binds])
              obtain rfl : b8 = true := ready_none hr 8 _ rfl (by simp [Region.binds])
              obtain rfl : b9 = true := ready_none hr 9 _ rfl (by simp [Region.binds])
              obtain rfl : b10 = true := ready_none hr 10 _ rfl (by simp [Region.binds])
              obtain rfl : b11 = true := ready_none hr 11 _ rfl (by simp [Region.binds])
              obtain rfl : b12 = true := ready_none hr 12 _ rfl (by simp [Region.binds])
              obtain rfl : b13 = true := ready_none hr 13 _ rfl (by simp [Region.binds])
              obtain rfl : b14 = true := ready_none hr 14 _ rfl (by simp [Region.binds])
              obtain rfl : b15 = true := ready_none hr 15 _ rfl (by simp [Region.binds])
              obtain rfl : b16 = true := ready_none hr 16 _ rfl (by simp [Region.binds])
              obtain rfl : b17 = true := ready_none hr 17 _ rfl (by simp [Region.binds])
              obtain rfl : b18 = true := ready_none hr 18 _ rfl (by simp [Region.binds])
              obtain rfl : b19 = true := ready_none hr 19 _ rfl (by simp [Region.binds])
              simp only [setAll, List.setIfInBounds_toArray, List.set_cons_zero, List.set_cons_succ, cond_true]
              go_wp2_with fail
              go_meet
              case rel => exact ⟨V8, V9, V11, x, k, y, l, S, m, E, rfl, rfl, rfl, rfl, rfl, ws⟩
          case rest =>
            obtain ⟨T8, T9, T11, tx, tk, ty, tl, tS, tm, tE, rfl, rfl, rfl, rfl, rfl, hs⟩ := hcut
            have HW14 : Hid (WB (S, E, y, M * 6, flat f1) (S, E, x, K * 6, flat Qf) (V8, cdCells RC, 28) (V9, #[.slice x K k, .int .i64 T], 31) (V11, pkCells U, 33) wc) := (HW13.out).below hs.bel
            have HT14 : Hid (WB (tS, tm, ty, M * 6, flat f1) (tm, tE, tx, K * 6, flat Qf) (T8, cdCells RC, 28) (T9, #[.slice tx K tk, .int .i64 T], 31) (T11, pkCells U, 33) wc) := hs.wb
            have HS14 : Hid (Sits wc G9 #[.slice gx K gk, .int .i64 T] 31) := Sits.below HS13.out hs.bel (Sits.lt HS13.out)
            have HX14 : Hid (ZI gm GE wc gx (K * 6) (fun o => 1 + (o : Int))) := ZI.below HX13.out hs.bel
            have HY14 : Hid (ZI GS gm wc gy (M * 6) (fun o => 1 + (K : Int) * 6 + (o : Int))) := ZI.below HY13.out hs.bel
            have HB14 : Hid (Below w.heap.size w wc) := B.trans (hs.bel.mono B.size)
            clear hs HW13 HS13 HX13 HY13 hSB3
            have HA3 : Hid (∀ W, Below wc.heap.size wc W → WB (S, E, y, M * 6, flat f1) (S, E, x, K * 6, flat Qf) (V8, cdCells RC, 28) (V9, #[.slice x K k, .int .i64 T], 31) (V11, pkCells U, 33) W ∧ WB (tS, tm, ty, M * 6, flat f1) (tm, tE, tx, K * 6, flat Qf) (T8, cdCells RC, 28) (T9, #[.slice tx K tk, .int .i64 T], 31) (T11, pkCells U, 33) W ∧ True) := fun W hW => ⟨(HW14.out).below hW, (HT14.out).below hW, trivial⟩
            obtain ⟨a1, a2, _⟩ := HA3.out _ (Below.refl _ _)
            have q1 := a1.one
            have q2 := a2.one
            obtain ⟨p0, p1, p2, p3, p4, p5, p6⟩ := cd_cells q1
            obtain ⟨r0', r1, r2, r3, r4, r5, r6⟩ := cd_cells q2
            clear a1 a2 q1 q2
            go_upto_region 32 with (first | (go_at_call 9; refine (eqCodel_yes RC _).mono ?_; rintro e w4 ⟨rfl, k4⟩; have HB4 : Hid (Below wc.heap.size wc w4) := k4.1; obtain ⟨a1, a2, _⟩ := HA3.out _ k4.1; have q1 := a1.two; have q2 := a2.two; have j0 : w4.cell? ⟨V9, 0, none⟩ = some (.slice x K k) := q1.cell 0; have j1 : w4.cell? ⟨V9, 1, none⟩ = some (.int .i64 T) := q1.cell 1; have h0 : w4.cell? ⟨T9, 0, none⟩ = some (.slice tx K tk) := q2.cell 0; have h1 : w4.cell? ⟨T9, 1, none⟩ = some (.int .i64 T) := q2.cell 1; have HP1 : Hid (PR w4.heap.size w4 x K Qf) := (a1.zt).pr; have HP2 : Hid (PR w4.heap.size w4 tx K Qf) := (a2.zt).pr; clear a1 a2 q1 q2 k4) | (go_at_call 10; refine (eqFifo_yes tx x K tk k T Qf _ HP2.out HP1.out HKL.out).mono ?_; rintro e w5 ⟨rfl, k5⟩; have HB5 : Hid (Below wc.heap.size wc w5) := (HB4.out).trans (k5.mono (HB4.out).size); obtain ⟨a1, a2, _⟩ := HA3.out _ HB5.out; have HP3 : Hid (PR w5.heap.size w5 y M f1) := (a1.zo).pr; have HP4 : Hid (PR w5.heap.size w5 ty M f1) := (a2.zo).pr; clear a1 a2 k5) | (go_at_call 11; refine (eqPktS_yes ty y M tl l f1 _ HP4.out HP3.out HML.out).mono ?_; rintro e w6 ⟨rfl, k6⟩; have HB6 : Hid (Below wc.heap.size wc w6) := (HB5.out).trans (k6.mono (HB5.out).size); obtain ⟨a1, a2, _⟩ := HA3.out _ HB6.out; have q1 := a1.thr; have q2 := a2.thr; have s0 : w6.cell? ⟨V11, 0, none⟩ = some (.int .i64 U.id) := q1.cell 0; have s1 : w6.cell? ⟨V11, 1, none⟩ = some (.int .i64 U.flow) := q1.cell 1; have s2 : w6.cell? ⟨V11, 2, none⟩ = some (.int .i64 U.host) := q1.cell 2; have s3 : w6.cell? ⟨V11, 3, none⟩ = some (.int .i64 U.size) := q1.cell 3; have s4 : w6.cell? ⟨V11, 4, none⟩ = some (.int .i64 U.tm) := q1.cell 4; have s5 : w6.cell? ⟨V11, 5, none⟩ = some (.int .i64 U.ecn) := q1.cell 5; have m0 : w6.cell? ⟨T11, 0, none⟩ = some (.int .i64 U.id) := q2.cell 0; have m1 : w6.cell? ⟨T11, 1, none⟩ = some (.int .i64 U.flow) := q2.cell 1; have m2 : w6.cell? ⟨T11, 2, none⟩ = some (.int .i64 U.host) := q2.cell 2; have m3 : w6.cell? ⟨T11, 3, none⟩ = some (.int .i64 U.size) := q2.cell 3; have m4 : w6.cell? ⟨T11, 4, none⟩ = some (.int .i64 U.tm) := q2.cell 4; have m5 : w6.cell? ⟨T11, 5, none⟩ = some (.int .i64 U.ecn) := q2.cell 5; clear a1 a2 q1 q2 k6) | (go_at_call 12; refine (eqPkt_yes U _).mono ?_; rintro e w7 ⟨rfl, k7⟩; have HD7 : Hid (Below wc.heap.size wc w7) := (HB6.out).trans (k7.1.mono (HB6.out).size); clear k7))
            have S15 := Sits.below HS14.out HD7.out (Sits.lt HS14.out)
            have HS15 : Hid (Sits w7 G9 #[.slice gx K gk, .int .i64 T] 31) := S15
            have Y0 : w7.cell? ⟨G9, 0, none⟩ = some (.slice gx K gk) := S15.cell 0
            have Y1 : w7.cell? ⟨G9, 1, none⟩ = some (.int .i64 T) := S15.cell 1
            have HX15 : Hid (ZI gm GE w7 gx (K * 6) (fun o => 1 + (o : Int))) := ZI.below HX14.out HD7.out
            have HY15 : Hid (ZI GS gm w7 gy (M * 6) (fun o => 1 + (K : Int) * 6 + (o : Int))) := ZI.below HY14.out HD7.out
            have HB15 : Hid (Below w.heap.size w w7) := (HB14.out).trans (Below.mono HD7.out (HB14.out).size)
            clear S15 p0 p1 p2 p3 p4 p5 p6 r0' r1 r2 r3 r4 r5 r6 j0 j1 h0 h1 HP1 HP2 HP3 HP4 s0 s1 s2 s3 s4 s5 m0 m1 m2 m3 m4 m5 HB4 HB5 HB6 HA3 HW14 HT14 HS14 HX14 HY14 HB14
            go_upto_region 35 with (go_at_call 15; refine (heldFifo_any gx K gk T 1 _ (ZI.row HX15.out) HKL.out (by omega) (by omega)).mono ?_; rintro e w16 ⟨rfl, b16⟩; have HB16 : Hid (Below w7.heap.size w7 w16) := b16; clear b16)
            have HY16 : Hid (ZI GS gm w16 gy (M * 6) (fun o => 1 + (K : Int) * 6 + (o : Int))) := ZI.below HY15.out HB16.out
            clear Y0 Y1
            go_wp2_with (go_at_call 16; refine (heldPktS_any gy M gl (1 + (K : Int) * 6) _ (ZI.row HY16.out) HML.out (by omega) (by omega)).mono ?_; rintro e w17 ⟨rfl, hw17⟩; replace hw17 := hw17.symm; subst hw17)
            go_ret
            exact ⟨rfl, (HB15.out).trans (Below.mono HB16.out (HB15.out).size)⟩

section
variable {H : Type} {enc : TypeId × Value → H} {W : World} {base : Nat} {sp : Nat → Bool} {held : Bool}

set_option maxRecDepth 100000 in
theorem openInt {n : Nat} {c : Value} {y : DataW H × List MemPlace} (h : DataW.trod enc Try.prog W base sp held n 3 [c] = some y) : ∃ z : Int, c = .int .i64 z ∧ (-9223372036854775808 ≤ z ∧ z ≤ 9223372036854775807) := by
  obtain ⟨z, h1, _, hw⟩ := DataW.trod_int Try.underlying3 h
  simp only [List.cons.injEq, and_true] at h1
  exact ⟨z, h1, bd hw⟩

set_option maxRecDepth 100000 in
theorem openBool {n : Nat} {c : Value} {y : DataW H × List MemPlace} (h : DataW.trod enc Try.prog W base sp held n 4 [c] = some y) : ∃ z : Bool, c = .bool z := by
  obtain ⟨z, h1, _⟩ := DataW.trod_bool Try.underlying4 h
  simp only [List.cons.injEq, and_true] at h1
  exact ⟨z, h1⟩

set_option maxRecDepth 100000 in
theorem openCodel {fuel : Nat} {cs : List Value} {x : DataW H × List MemPlace} (h : DataW.trod enc Try.prog W base sp held fuel 23 cs = some x) :
    ∃ r : Cd, r.In ∧ cs = [.int .i64 r.tg, .int .i64 r.iv, .int .i64 r.fi, .int .i64 r.nx, .int .i64 r.ct, .int .i64 r.la, .bool r.dr] := by
  obtain ⟨xs, n, rfl, hx, hl, hxl, hall⟩ := DataW.trod_struct Try.underlying23 h
  rw [cellsCodel] at hl
  match cs, hl with
  | [c0, c1, c2, c3, c4, c5, c6], _ =>
  match xs, hxl with
  | [y0, y1, y2, y3, y4, y5, y6], _ =>
  have b0 : DataW.trod enc Try.prog W base sp held n 3 (([c0, c1, c2, c3, c4, c5, c6].drop 0).take (Try.prog.cellsOf 3)) = some y0 := hall 0 _ rfl
  rw [cellsInt] at b0
  replace b0 : DataW.trod enc Try.prog W base sp held n 3 [c0] = some y0 := b0
  have b1 : DataW.trod enc Try.prog W base sp held n 3 (([c0, c1, c2, c3, c4, c5, c6].drop 1).take (Try.prog.cellsOf 3)) = some y1 := hall 1 _ rfl
  rw [cellsInt] at b1
  replace b1 : DataW.trod enc Try.prog W base sp held n 3 [c1] = some y1 := b1
  have b2 : DataW.trod enc Try.prog W base sp held n 3 (([c0, c1, c2, c3, c4, c5, c6].drop 2).take (Try.prog.cellsOf 3)) = some y2 := hall 2 _ rfl
  rw [cellsInt] at b2
  replace b2 : DataW.trod enc Try.prog W base sp held n 3 [c2] = some y2 := b2
  have b3 : DataW.trod enc Try.prog W base sp held n 3 (([c0, c1, c2, c3, c4, c5, c6].drop 3).take (Try.prog.cellsOf 3)) = some y3 := hall 3 _ rfl
  rw [cellsInt] at b3
  replace b3 : DataW.trod enc Try.prog W base sp held n 3 [c3] = some y3 := b3
  have b4 : DataW.trod enc Try.prog W base sp held n 3 (([c0, c1, c2, c3, c4, c5, c6].drop 4).take (Try.prog.cellsOf 3)) = some y4 := hall 4 _ rfl
  rw [cellsInt] at b4
  replace b4 : DataW.trod enc Try.prog W base sp held n 3 [c4] = some y4 := b4
  have b5 : DataW.trod enc Try.prog W base sp held n 3 (([c0, c1, c2, c3, c4, c5, c6].drop 5).take (Try.prog.cellsOf 3)) = some y5 := hall 5 _ rfl
  rw [cellsInt] at b5
  replace b5 : DataW.trod enc Try.prog W base sp held n 3 [c5] = some y5 := b5
  have b6 : DataW.trod enc Try.prog W base sp held n 4 (([c0, c1, c2, c3, c4, c5, c6].drop 6).take (Try.prog.cellsOf 4)) = some y6 := hall 6 _ rfl
  rw [cellsBool] at b6
  replace b6 : DataW.trod enc Try.prog W base sp held n 4 [c6] = some y6 := b6
  obtain ⟨z0, rfl, i0⟩ := openInt (y := y0) b0
  obtain ⟨z1, rfl, i1⟩ := openInt (y := y1) b1
  obtain ⟨z2, rfl, i2⟩ := openInt (y := y2) b2
  obtain ⟨z3, rfl, i3⟩ := openInt (y := y3) b3
  obtain ⟨z4, rfl, i4⟩ := openInt (y := y4) b4
  obtain ⟨z5, rfl, i5⟩ := openInt (y := y5) b5
  obtain ⟨z6, rfl⟩ := openBool (y := y6) b6
  exact ⟨⟨z0, z1, z2, z3, z4, z5, z6⟩, ⟨i0, i1, i2, i3, i4, i5⟩, rfl⟩

set_option maxRecDepth 100000 in
theorem openPkt {fuel : Nat} {cs : List Value} {x : DataW H × List MemPlace} (h : DataW.trod enc Try.prog W base sp held fuel 66 cs = some x) :
    ∃ r : Pk, r.In ∧ cs = [.int .i64 r.id, .int .i64 r.flow, .int .i64 r.host, .int .i64 r.size, .int .i64 r.tm, .int .i64 r.ecn] := by
  obtain ⟨xs, n, rfl, hx, hl, hxl, hall⟩ := DataW.trod_struct Try.underlying66 h
  rw [cellsPkt] at hl
  match cs, hl with
  | [c0, c1, c2, c3, c4, c5], _ =>
  match xs, hxl with
  | [y0, y1, y2, y3, y4, y5], _ =>
  have b0 : DataW.trod enc Try.prog W base sp held n 3 (([c0, c1, c2, c3, c4, c5].drop 0).take (Try.prog.cellsOf 3)) = some y0 := hall 0 _ rfl
  rw [cellsInt] at b0
  replace b0 : DataW.trod enc Try.prog W base sp held n 3 [c0] = some y0 := b0
  have b1 : DataW.trod enc Try.prog W base sp held n 3 (([c0, c1, c2, c3, c4, c5].drop 1).take (Try.prog.cellsOf 3)) = some y1 := hall 1 _ rfl
  rw [cellsInt] at b1
  replace b1 : DataW.trod enc Try.prog W base sp held n 3 [c1] = some y1 := b1
  have b2 : DataW.trod enc Try.prog W base sp held n 3 (([c0, c1, c2, c3, c4, c5].drop 2).take (Try.prog.cellsOf 3)) = some y2 := hall 2 _ rfl
  rw [cellsInt] at b2
  replace b2 : DataW.trod enc Try.prog W base sp held n 3 [c2] = some y2 := b2
  have b3 : DataW.trod enc Try.prog W base sp held n 3 (([c0, c1, c2, c3, c4, c5].drop 3).take (Try.prog.cellsOf 3)) = some y3 := hall 3 _ rfl
  rw [cellsInt] at b3
  replace b3 : DataW.trod enc Try.prog W base sp held n 3 [c3] = some y3 := b3
  have b4 : DataW.trod enc Try.prog W base sp held n 3 (([c0, c1, c2, c3, c4, c5].drop 4).take (Try.prog.cellsOf 3)) = some y4 := hall 4 _ rfl
  rw [cellsInt] at b4
  replace b4 : DataW.trod enc Try.prog W base sp held n 3 [c4] = some y4 := b4
  have b5 : DataW.trod enc Try.prog W base sp held n 3 (([c0, c1, c2, c3, c4, c5].drop 5).take (Try.prog.cellsOf 3)) = some y5 := hall 5 _ rfl
  rw [cellsInt] at b5
  replace b5 : DataW.trod enc Try.prog W base sp held n 3 [c5] = some y5 := b5
  obtain ⟨z0, rfl, i0⟩ := openInt (y := y0) b0
  obtain ⟨z1, rfl, i1⟩ := openInt (y := y1) b1
  obtain ⟨z2, rfl, i2⟩ := openInt (y := y2) b2
  obtain ⟨z3, rfl, i3⟩ := openInt (y := y3) b3
  obtain ⟨z4, rfl, i4⟩ := openInt (y := y4) b4
  obtain ⟨z5, rfl, i5⟩ := openInt (y := y5) b5
  exact ⟨⟨z0, z1, z2, z3, z4, z5⟩, ⟨i0, i1, i2, i3, i4, i5⟩, rfl⟩

set_option maxRecDepth 100000 in
theorem openPkts {fuel : Nat} {cs : List Value} {x : DataW H × List MemPlace} (h : DataW.trod enc Try.prog W base sp held fuel 24 cs = some x) :
    ∃ (a : Option Addr) (len cap : Nat) (f : Nat → Pk), cs = [.slice a len cap] ∧ len ≤ cap ∧ cap ≤ maxLen ∧ PR W.heap.size W a len f ∧ ∀ i, i < len → (f i).In := by
  rcases Go.Deep.open_slice Try.underlying24 h with ⟨rfl, _⟩ | ⟨a, len, cap, m, n, D, Pl, rfl, hb, hl, hm, hmm, _, hx⟩
  · exact ⟨none, 0, 0, fun _ => default, rfl, Nat.le_refl _, Nat.zero_le _, .inl rfl, fun i hi => absurd hi (Nat.not_lt_zero _)⟩
  · have hlm : len ≤ m := by rw [hmm]; split <;> omega
    have each : ∀ i, i < len → ∃ r : Pk, r.In ∧ (∀ t, t < 6 → W.cell? ((a.add (i * 6)).add t) = some (.int .i64 (r.nth t))) := by
      intro i hi
      obtain ⟨cs', h1, h2⟩ := hx i (by omega)
      rw [cellsPkt] at h1
      obtain ⟨_, hlen, hcell⟩ := World.cells?_some h1
      obtain ⟨r, hr, rfl⟩ := openPkt h2
      refine ⟨r, hr, fun t ht => ?_⟩
      have := hcell t (by omega)
      rw [this]
      have hc : t = 0 ∨ t = 1 ∨ t = 2 ∨ t = 3 ∨ t = 4 ∨ t = 5 := by omega
      rcases hc with rfl | rfl | rfl | rfl | rfl | rfl <;> rfl
    obtain ⟨f, hf⟩ := Go.Deep.choose_lt each
    refine ⟨some a, len, cap, f, rfl, hl, hm, ?_, fun i hi => (hf i hi).1⟩
    by_cases h0 : len = 0
    · exact .inl h0
    · obtain ⟨b, off, inner⟩ := a
      have hc0 := (hf 0 (by omega)).2 0 (by omega)
      have hin : inner = none := by simpa [Addr.add] using World.cell?_spot hc0
      subst hin
      refine .inr ⟨b, off, rfl, World.block_lt_of_cell? W _ hc0, fun i hi => ?_⟩
      have hh : ∀ t, t < 6 → W.cell? ⟨b, off + i * 6 + t, none⟩ = some (.int .i64 ((f i).nth t)) := fun t ht => by
        have := (hf i hi).2 t ht
        rw [Go.WideShapes.add_plain, Go.WideShapes.add_plain] at this
        exact this
      exact ⟨hh 0 (by omega), hh 1 (by omega), hh 2 (by omega), hh 3 (by omega), hh 4 (by omega), hh 5 (by omega)⟩

set_option maxRecDepth 100000 in
theorem openFifo {fuel : Nat} {cs : List Value} {x : DataW H × List MemPlace} (h : DataW.trod enc Try.prog W base sp held fuel 26 cs = some x) :
    ∃ (a : Option Addr) (len cap : Nat) (lim : Int) (f : Nat → Pk), FifoIn W a len cap lim f ∧ cs = [.slice a len cap, .int .i64 lim] := by
  obtain ⟨xs, n, rfl, hx, hl, hxl, hall⟩ := DataW.trod_struct Try.underlying26 h
  rw [cellsFifo] at hl
  match cs, hl with
  | [c0, c1], _ =>
  match xs, hxl with
  | [y0, y1], _ =>
  have b0 : DataW.trod enc Try.prog W base sp held n 24 (([c0, c1].drop 0).take (Try.prog.cellsOf 24)) = some y0 := hall 0 _ rfl
  rw [cellsSlice] at b0
  replace b0 : DataW.trod enc Try.prog W base sp held n 24 [c0] = some y0 := b0
  have b1 : DataW.trod enc Try.prog W base sp held n 3 (([c0, c1].drop 1).take (Try.prog.cellsOf 3)) = some y1 := hall 1 _ rfl
  rw [cellsInt] at b1
  replace b1 : DataW.trod enc Try.prog W base sp held n 3 [c1] = some y1 := b1
  obtain ⟨z, rfl, iz⟩ := openInt (y := y1) b1
  obtain ⟨a, len, cap, f, hs, h1, h2, h3, h4⟩ := openPkts (x := y0) b0
  simp only [List.cons.injEq, and_true] at hs
  subst hs
  exact ⟨a, len, cap, z, f, ⟨iz, h1, h2, h3, h4⟩, rfl⟩

end

set_option maxRecDepth 100000 in
theorem lifted (os : Os) (started : os.Started) (H : Type) (enc : TypeId × Value → H) :
    ReturnsInHanded {} Try.checked os 3 .any (Rows.fnExactCodelPopSpec.pre6 enc Try.prog Try.f3 Rows.fnExactCodelPopRow.domain false) (Rows.fnExactCodelPopSpec.post enc Try.prog Try.f3 false true false false) := by
  refine returnsInHanded_of_change (C := Try.checked) own started (by kernel_rfl) Try.func3
    (ChangeSpec.witness6 (enc := enc) (C := Try.checked) false ⟨#[], #[.agg #[.int .i64 0, .int .i64 0, .int .i64 0, .int .i64 0, .int .i64 0, .int .i64 0, .bool false], .agg #[.slice none 0 0, .int .i64 0], .int .i64 0], []⟩ 8 (by kernel_rfl) (by kernel_rfl) (by kernel_rfl) (by kernel_rfl)) ?_
  intro W base args ds gs before hval0 hW hcnd _
  have hval : ∀ (j : Nat) t v, Try.f3.params[j]? = some t → args[j]? = some v → Value.okWide Try.prog W .any base t v := hval0
  have hW' := hW
  obtain ⟨p, q, hA0, hV, rfl, hfz, hnd⟩ := hW
  have hA : DataW.TrodAll enc Try.prog W 0 (fun _ => true) true Try.f3.params.toList args.toList ds p := hA0
  rw [Try.params3] at hA hval
  obtain ⟨v0, vs0, d0, ds0, p0, q0, hargs, rfl, rfl, h0, tl0⟩ := trodAll_cons hA
  obtain ⟨v1, vs1, d1, ds1, p1, q1, rfl, rfl, rfl, h1, tl1⟩ := trodAll_cons tl0
  obtain ⟨v2, vs2, d2, ds2, p2, q2, rfl, rfl, rfl, h2, tl2⟩ := trodAll_cons tl1
  obtain ⟨rfl, rfl, rfl⟩ := trodAll_nil tl2
  obtain rfl : args = #[v0, v1, v2] := by cases args; simp_all
  obtain ⟨rfl, rfl⟩ := trodVars_none hV
  have k0 := h0
  have lt0 : ∀ x ∈ p0, x.block < W.heap.size := by obtain ⟨m, hm⟩ := k0; exact DataW.trod_lt m _ _ _ hm
  have k1 := h1
  have lt1 : ∀ x ∈ p1, x.block < W.heap.size := by obtain ⟨m, hm⟩ := k1; exact DataW.trod_lt m _ _ _ hm
  have k2 := h2
  have lt2 : ∀ x ∈ p2, x.block < W.heap.size := by obtain ⟨m, hm⟩ := k2; exact DataW.trod_lt m _ _ _ hm
  obtain ⟨cs0, rfl, hcs0⟩ := okWide_struct Try.underlying23 (hval 0 23 v0 rfl rfl)
  obtain ⟨r0, hin0, hrc0⟩ : ∃ r0 : Cd, r0.In ∧ cs0 = #[.int .i64 r0.tg, .int .i64 r0.iv, .int .i64 r0.fi, .int .i64 r0.nx, .int .i64 r0.ct, .int .i64 r0.la, .bool r0.dr] := by
    obtain ⟨fuel, hf⟩ := h0
    obtain ⟨r, hin, hcs'⟩ := openCodel hf
    have hc2 : cs0 = (cs0.toList).toArray := by simp
    have hcl : cs0.toList = [.int .i64 r.tg, .int .i64 r.iv, .int .i64 r.fi, .int .i64 r.nx, .int .i64 r.ct, .int .i64 r.la, .bool r.dr] := by simpa [Value.cells] using hcs'
    rw [hcl] at hc2
    exact ⟨r, hin, hc2⟩
  subst hrc0
  obtain ⟨cs1, rfl, hcs1⟩ := okWide_struct Try.underlying26 (hval 1 26 v1 rfl rfl)
  obtain ⟨a1, len1, cap1, lim1, f1, hin1, hrc1⟩ : ∃ (a : Option Addr) (len cap : Nat) (lim : Int) (f : Nat → Pk), FifoIn W a len cap lim f ∧ cs1 = #[.slice a len cap, .int .i64 lim] := by
    obtain ⟨fuel, hf⟩ := h1
    obtain ⟨a, len, cap, lim, f, hin, hcs'⟩ := openFifo hf
    have hc2 : cs1 = (cs1.toList).toArray := by simp
    have hcl : cs1.toList = [.slice a len cap, .int .i64 lim] := by simpa [Value.cells] using hcs'
    rw [hcl] at hc2
    exact ⟨a, len, cap, lim, f, hin, hc2⟩
  subst hrc1
  obtain ⟨z2, hzv2, _, _, hzw2⟩ := open_int Try.underlying3 (hval 2 3 v2 rfl rfl) h2
  subst hzv2
  clear hA0 hval0
  refine (walk r0 hin0 a1 len1 cap1 lim1 f1 z2 (bd hzw2) W hin1).mono fun e W' ⟨he, bel⟩ => ?_
  subst he
  exact ⟨_, rfl, _, _, _, [], _, [], hW', trodAll_mk1 (shut_bool Try.underlying4 _), (trodAll_cons_mk (Below.trod laidOut (by kernel_rfl) (of_decide_eq_true (by kernel_rfl)) k0 bel lt0) (trodAll_cons_mk (Below.trod laidOut (by kernel_rfl) (of_decide_eq_true (by kernel_rfl)) k1 bel lt1) (trodAll_cons_mk (Below.trod laidOut (by kernel_rfl) (of_decide_eq_true (by kernel_rfl)) k2 bel lt2) trodAll_mk0))), rfl, bel.frame _, fun h => by cases h⟩

theorem over : Rows.fnExactCodelPopRow.holds Try.pinned (OpenSpec.ofChange Rows.fnExactCodelPopSpec) :=
  OpenClaim.holds_of_wide 3 Try.f3 rfl rfl rfl rfl rfl rfl rfl ⟨rfl, rfl, rfl, rfl, rfl⟩ rfl rfl rfl rfl rfl (by kernel_rfl) Try.func3 (by kernel_rfl)
    (of_decide_eq_true (by kernel_rfl)) (by unfold Func.isWrapper; first | (rw [if_pos (by decide +kernel)]; kernel_rfl) | (rw [if_neg (by decide +kernel)]; exact ⟨rfl, rfl⟩))
    (fun os started H enc _ => lifted os started H enc)

theorem proved : Rows.FnExactCodelPopSaid := over
end Go.Proofs.Ytlhiadehohikdaa.fnExactCodelPop
namespace Go.Proofs.Ytlhiadehohikdaa
theorem fnExactCodelPop_holds : Rows.FnExactCodelPopSaid := fnExactCodelPop.proved
#print axioms fnExactCodelPop_holds
end Go.Proofs.Ytlhiadehohikdaa
