/-
  A TRACE'S TEXT, OF THE SPECIFICATION: TraceText.
-/
import Derived.Test.YtcfkmkkgeoaaeaaDoorTextS
import Derived.Lib.SmallJoins
namespace Go.Proofs.YtcfkmkkgeoaaeaaDoor
open Go.RowKit
set_option linter.unusedVariables false

theorem str_out : strL ⟨#[111, 117, 116]⟩ = wdOut := rfl
theorem str_drop : strL ⟨#[100, 114, 111, 112]⟩ = wdDrop := rfl
theorem ox_six (w : World) (base : Nat) (hb : base ≤ w.heap.size) : OX base (w.alloc (.cells #[.int .u8 116, .int .u8 114, .int .u8 97, .int .u8 99, .int .u8 101, .int .u8 10] 5 (6, 7))) (some ⟨w.heap.size, 0, none⟩) 6 (wdTrace ++ [10]) := by
  refine .inr ⟨w.heap.size, rfl, rfl, hb, by simp, fun j hj => ?_⟩
  have hj' : j < 6 := hj
  have h0 : (w.alloc (.cells #[.int .u8 116, .int .u8 114, .int .u8 97, .int .u8 99, .int .u8 101, .int .u8 10] 5 (6, 7))).heap[w.heap.size]? = some (.cells #[.int .u8 116, .int .u8 114, .int .u8 97, .int .u8 99, .int .u8 101, .int .u8 10] 5 (6, 7)) := World.alloc_heap_new w _
  generalize w.alloc (.cells #[.int .u8 116, .int .u8 114, .int .u8 97, .int .u8 99, .int .u8 101, .int .u8 10] 5 (6, 7)) = U at h0 ⊢
  rcases (by omega : j = 0 ∨ j = 1 ∨ j = 2 ∨ j = 3 ∨ j = 4 ∨ j = 5) with rfl | rfl | rfl | rfl | rfl | rfl
  all_goals exact ⟨by simp [World.cell?, h0, wdTrace], by simp [World.frozen?, h0]⟩
theorem own_ge {base : Nat} {w : World} {x : Option Addr} {cap N : Nat} {l : List Int} (h : OX base w x cap l) (hN : l.length = N) : ∀ k, (Value.slice x N cap).ownBlock = some k → base ≤ k := fun k e => (OX.own h k (by rw [hN]; exact e)).1

set_option maxRecDepth 100000 in
set_option maxHeartbeats 4000000 in
theorem straceText_any (T : Tr) (A : Ta) (w : World) (hA : TrAt w T A) :
    Calls Tryd.prog 5 #[T.val A] w fun e w' => ∃ (x : Option Addr) (cap : Nat), e = .returned (.slice x (txR T).length cap) ∧ Zn w.heap.size w'.heap.size w' x (txR T).length (fun i => (txR T).getD i 0) ∧ Below w.heap.size w w' := by
  obtain ⟨W0, hW0⟩ : ∃ W, w.alloc (.cells (trCells T A) 31) = W := ⟨_, rfl⟩
  have b0 : Below w.heap.size w W0 := by rw [← hW0]; exact (Below.refl _ w).alloc (Nat.le_refl _) _
  have s0 : Sits W0 w.heap.size (trCells T A) 31 := by rw [← hW0]; exact Sits.new w _ _
  have HB0 : Hid (Below w.heap.size w W0) := b0
  have HS0 : Hid (Sits W0 w.heap.size (trCells T A) 31) := s0
  have hA0 : TrAt W0 T A := hA.below b0
  have HA : Hid (∀ U, Below W0.heap.size W0 U → TrAt U T A) := fun U h => hA0.below h
  have HAW : Hid (TrAt w T A) := hA
  have hl0 := s0.lt
  clear b0 s0 hA0 hA
  cases hb : trB T
  case false =>
    have hE : txR T = [] := by unfold txR; rw [hb]; rfl
    rw [hE]
    have HG : Hid (trB T = false) := hb
    clear hb hE
    obtain ⟨c0, c1, c2, c3, c4, c5⟩ := tr_cells HS0.out
    go_enter Tryd.func5, Tryd.ntmps5
    (try rw [hW0])
    go_wp2_with (go_at_call 15; (try rw [hW0]); refine (straceOk_any T A _ (HA.out _ (Below.refl _ _))).mono ?_; rintro e w1 ⟨rfl, b1⟩; rw [HG.out])
    go_ret
    exact ⟨none, 0, rfl, .inl rfl, (HB0.out).trans (b1.mono (HB0.out).size)⟩
  case true =>
    have hE : txR T = wdTrace ++ [10] ++ outsL T T.no ++ dropsL T T.nd := by unfold txR; rw [hb]; rfl
    rw [hE]
    have HG : Hid (trB T = true) := hb
    have htp : trP T := of_decide_eq_true hb
    have HTP : Hid (trP T) := htp
    have hno : (T.no : Int) ≤ 120 := by have := htp.2.1; omega
    have hnd : (T.nd : Int) ≤ 120 := by have := htp.2.2.1; omega
    have HNT : Hid (T.nt = T.no) := htp.1
    clear hb hE htp
    obtain ⟨c0, c1, c2, c3, c4, c5⟩ := tr_cells HS0.out
    go_enter Tryd.func5, Tryd.ntmps5
    (try rw [hW0])
    go_upto_region 3 with (go_at_call 15; (try rw [hW0]); refine (straceOk_any T A _ (HA.out _ (Below.refl _ _))).mono ?_; rintro e w1 ⟨rfl, b1⟩; rw [HG.out])
    clear hW0 c0 c1 c2 c3 c4 c5
    obtain ⟨base, hbase⟩ : ∃ b, w.heap.size + 1 = b := ⟨_, rfl⟩
    have hbw : w.heap.size < base := by omega
    have hb1 : base ≤ w1.heap.size := by have := b1.size; omega
    have HO2 : Hid (OX base (w1.alloc (.cells #[.int .u8 116, .int .u8 114, .int .u8 97, .int .u8 99, .int .u8 101, .int .u8 10] 5 (6, 7))) (some ⟨w1.heap.size, 0, none⟩) 6 (wdTrace ++ [10])) := ox_six w1 base hb1
    have hcv := Go.Joins.run_convert_bytes_const_at (P := Tryd.prog) w1 27 5 #[.int .u8 116, .int .u8 114, .int .u8 97, .int .u8 99, .int .u8 101, .int .u8 10] 6 6 w1.heap.size rfl Tryd.underlying27 Tryd.underlying5
    simp only [List.size_toArray, List.length_cons, List.length_nil, Nat.reduceAdd] at hcv
    obtain ⟨W2, hW2⟩ : ∃ W, w1.alloc (.cells #[.int .u8 116, .int .u8 114, .int .u8 97, .int .u8 99, .int .u8 101, .int .u8 10] 5 (6, 7)) = W := ⟨_, rfl⟩
    have hb2 : base ≤ W2.heap.size := by rw [← hW2]; simp; omega
    have b02 : Below W0.heap.size W0 W2 := by rw [← hW2]; exact b1.alloc b1.size _
    have HB2 : Hid (Below w.heap.size w W2) := (HB0.out).trans (b02.mono (HB0.out).size)
    have HS2 : Hid (Sits W2 w.heap.size (trCells T A) 31) := Sits.below HS0.out b02 hl0
    have HPO : Hid (∀ U, Below base W2 U → (U.cell? ⟨w.heap.size, 1, none⟩ = some (.slice A.o T.no A.co) ∧ U.cell? ⟨w.heap.size, 2, none⟩ = some (.slice A.d T.nd A.cd) ∧ U.cell? ⟨w.heap.size, 4, none⟩ = some (.slice A.t T.nt A.ct)) ∧ Below w.heap.size w U) := fun U h => by
      obtain ⟨-, d1, d2, -, d4, -⟩ := tr_cells (Sits.below HS2.out h hbw)
      exact ⟨⟨d1, d2, d4⟩, (HB2.out).trans (h.mono (Nat.le_of_lt hbw))⟩
    rw [hW2] at HO2
    clear b1 b02 HB0 HS0 hl0 HA HS2 hbase hb1
    go_upto_region 4 with fail
    (try rw [hW2])
    obtain ⟨g0, hg0⟩ : ∃ g, w1.heap.size = g := ⟨_, rfl⟩
    rw [hg0] at HO2 ⊢
    clear hW2 hg0 hcv
    go_wp2
    go_loopw [3, 4] (fun t i wr => ∃ (k : Nat) (x : Option Addr) (c N : Nat), k ≤ T.no ∧ i = .int .i64 k ∧ t = .slice x N c ∧ (wdTrace ++ [10] ++ outsL T k).length = N ∧ OX base wr x c (wdTrace ++ [10] ++ outsL T k) ∧ Below base W2 wr) (fun _ i _ => T.no - (intOf i).toNat)
    case atStart => exact ⟨0, some ⟨g0, 0, none⟩, 6, 6, Nat.zero_le _, rfl, rfl, rfl, by simpa [outsL] using HO2.out, Below.refl _ _⟩
    case round =>
      obtain ⟨k, x, c, N, hk, rfl, rfl, hlen, ho, hbr⟩ := hrel
      have HL : Hid ((wdTrace ++ [10] ++ outsL T k).length = N) := hlen
      have HO : Hid (OX base wr x c (wdTrace ++ [10] ++ outsL T k)) := ho
      have HBR : Hid (Below base W2 wr) := hbr
      have hbz : base ≤ wr.heap.size := Nat.le_trans hb2 hbr.size
      have hNb : N ≤ 1000000 := by
        have h1 := outs_len HTP.out k hk
        have h2 := (HTP.out).2.1
        rw [← hlen]
        simp only [List.length_append, wdTrace, List.length_cons, List.length_nil]
        omega
      obtain ⟨⟨c1, c2, c4⟩, -⟩ := HPO.out _ hbr
      clear hlen ho hbr HO2
      by_cases hlt : k < T.no
      · have hki : (k : Int) < (T.no : Int) := by omega
        have hkt : (k : Int) < (T.nt : Int) := by have := HNT.out; omega
        have hk0 : ¬ (k : Int) < 0 := by omega
        obtain ⟨bo, oo, hoe, hol, hoc⟩ := PR.at (HAW.out).o hlt
        obtain ⟨bt, ot, hte, htl, htc⟩ := Row.at (HAW.out).t (show k < T.nt by have := HNT.out; omega)
        obtain ⟨gd, tt1, tt2⟩ := (HTP.out).2.2.2.1 k hlt
        have hgb := good_bds gd
        have HGD : Hid ((T.o k).good = true) := gd
        have htt : 0 ≤ T.t k ∧ T.t k ≤ 1000000000000 := ⟨by omega, tt2⟩
        have HTT : Hid (0 ≤ T.t k ∧ T.t k ≤ 1000000000000) := htt
        have HKC : Hid (∀ U, Below base W2 U → U.cell? ⟨w.heap.size, 1, none⟩ = some (.slice (some ⟨bo, oo, none⟩) T.no A.co) ∧ U.cell? ⟨w.heap.size, 4, none⟩ = some (.slice (some ⟨bt, ot, none⟩) T.nt A.ct) ∧ U.cell? ⟨bo, oo + k * 6, none⟩ = some (.int .i64 (T.o k).id) ∧ U.cell? ⟨bo, oo + k * 6 + 1, none⟩ = some (.int .i64 (T.o k).flow) ∧ U.cell? ⟨bo, oo + k * 6 + 2, none⟩ = some (.int .i64 (T.o k).host) ∧ U.cell? ⟨bo, oo + k * 6 + 3, none⟩ = some (.int .i64 (T.o k).size) ∧ U.cell? ⟨bo, oo + k * 6 + 4, none⟩ = some (.int .i64 (T.o k).tm) ∧ U.cell? ⟨bo, oo + k * 6 + 5, none⟩ = some (.int .i64 (T.o k).ecn) ∧ U.cell? ⟨bt, ot + k, none⟩ = some (.int .i64 (T.t k))) := fun U h => by
          have hw : Below w.heap.size w U := (HPO.out _ h).2
          obtain ⟨⟨d1, _, d4⟩, _⟩ := HPO.out _ h
          rw [hoe] at d1
          rw [hte] at d4
          obtain ⟨p0, p1, p2, p3, p4, p5⟩ := (hoc k hlt).below hw hol
          exact ⟨d1, d4, p0, p1, p2, p3, p4, p5, (hw.cell (p := ⟨bt, ot + k, none⟩) htl).trans (htc k (by have := HNT.out; omega))⟩
        obtain ⟨q, hq⟩ : ∃ q, T.o k = q := ⟨_, rfl⟩
        obtain ⟨tm, htm⟩ : ∃ t, T.t k = t := ⟨_, rfl⟩
        have HQ : Hid (T.o k = q ∧ T.t k = tm) := ⟨hq, htm⟩
        rw [hq, htm] at HKC
        rw [hq] at HGD
        rw [htm] at HTT
        obtain ⟨qi, qf, qh, qs, qt, qe⟩ := q
        obtain ⟨e1, e4, p0, p1, p2, p3, p4, p5, pt⟩ := HKC.out _ HBR.out
        clear c1 c2 c4 hoc htc hoe hte gd tt1 tt2 hgb htt hq htm hol htl
        go_upto_region 7 with fail
        go_region_held3 (fun U => U.cell? ⟨w.heap.size, 1, none⟩ = some (.slice (some ⟨bo, oo, none⟩) T.no A.co) ∧ U.cell? ⟨w.heap.size, 4, none⟩ = some (.slice (some ⟨bt, ot, none⟩) T.nt A.ct) ∧ U.cell? ⟨bo, oo + k * 6, none⟩ = some (.int .i64 qi) ∧ U.cell? ⟨bo, oo + k * 6 + 1, none⟩ = some (.int .i64 qf) ∧ U.cell? ⟨bo, oo + k * 6 + 2, none⟩ = some (.int .i64 qh) ∧ U.cell? ⟨bo, oo + k * 6 + 3, none⟩ = some (.int .i64 qs) ∧ U.cell? ⟨bo, oo + k * 6 + 4, none⟩ = some (.int .i64 qt) ∧ U.cell? ⟨bo, oo + k * 6 + 5, none⟩ = some (.int .i64 qe) ∧ U.cell? ⟨bt, ot + k, none⟩ = some (.int .i64 tm)) (first | exact HKC.out _ b4 | exact HKC.out _ (Below.drew HBR.out))
          (first | (go_at_call 16; refine (sl12text_any ⟨#[111, 117, 116]⟩ (by decide) (by decide) base x c (wdTrace ++ [10] ++ outsL T k) N HL.out ⟨qi, qf, qh, qs, qt, qe⟩ tm _ (OX.below HO.out ((Below.refl _ _).drew)) HGD.out HTT.out hNb hbz).mono ?_; rintro e w4 ⟨x4, c4, N4, rfl, hN4, ho4, hg4⟩; have b4 : Below base W2 w4 := (Below.drew HBR.out).trans (hg4.kept (own_ge HO.out HL.out) hbz); clear hg4))
        have hstep : wdTrace ++ [10] ++ outsL T (k + 1) = wdTrace ++ [10] ++ outsL T k ++ lnL (strL ⟨#[111, 117, 116]⟩) qi tm qe := by rw [outsL_succ, (HQ.out).1, (HQ.out).2, str_out]; simp
        have HST : Hid (wdTrace ++ [10] ++ outsL T (k + 1) = wdTrace ++ [10] ++ outsL T k ++ lnL (strL ⟨#[111, 117, 116]⟩) qi tm qe) := hstep
        have HN4 : Hid ((wdTrace ++ [10] ++ outsL T k ++ lnL (strL ⟨#[111, 117, 116]⟩) qi tm qe).length = N4) := hN4
        have HO4 : Hid (OB base w4 x4 c4 (wdTrace ++ [10] ++ outsL T k ++ lnL (strL ⟨#[111, 117, 116]⟩) qi tm qe)) := ho4
        clear hstep hN4 ho4
        go_wp2
        go_roundw
        case rel => exact ⟨k + 1, x4, c4, N4, by omega, by go_num, rfl, by rw [HST.out]; exact HN4.out, by rw [HST.out]; exact .inl HO4.out, b4⟩
        case measure => simp [intOf]; omega
      · obtain rfl : k = T.no := by omega
        obtain ⟨wk, rfl⟩ : ∃ W, W = wr := ⟨wr, rfl⟩
        clear hlt hk
        go_wp2
        go_loopw [3, 5] (fun t i wr => ∃ (j : Nat) (x : Option Addr) (c N : Nat), j ≤ T.nd ∧ i = .int .i64 j ∧ t = .slice x N c ∧ (wdTrace ++ [10] ++ outsL T T.no ++ dropsL T j).length = N ∧ OX base wr x c (wdTrace ++ [10] ++ outsL T T.no ++ dropsL T j) ∧ Below base W2 wr) (fun _ i _ => T.nd - (intOf i).toNat)
        case atStart => exact ⟨0, x, c, N, Nat.zero_le _, rfl, rfl, by simpa [dropsL] using HL.out, by simpa [dropsL] using HO.out, HBR.out⟩
        case round =>
          obtain ⟨j, x, c, N, hj, rfl, rfl, hlen, ho, hbr⟩ := hrel
          have HL : Hid ((wdTrace ++ [10] ++ outsL T T.no ++ dropsL T j).length = N) := hlen
          have HO : Hid (OX base wr x c (wdTrace ++ [10] ++ outsL T T.no ++ dropsL T j)) := ho
          have HBR : Hid (Below base W2 wr) := hbr
          have hbz : base ≤ wr.heap.size := Nat.le_trans hb2 hbr.size
          have hNb : N ≤ 1000000 := by
            have h1 := outs_len HTP.out T.no (Nat.le_refl _)
            have h2 := (HTP.out).2.1
            have h3 := drops_len HTP.out j hj
            have h4 := (HTP.out).2.2.1
            rw [← hlen]
            simp only [List.length_append, wdTrace, List.length_cons, List.length_nil]
            omega
          obtain ⟨⟨c1, c2, c4⟩, -⟩ := HPO.out _ hbr
          clear hlen ho hbr
          by_cases hlt : j < T.nd
          · have hki : (j : Int) < (T.nd : Int) := by omega
            have hk0 : ¬ (j : Int) < 0 := by omega
            obtain ⟨bo, oo, hoe, hol, hoc⟩ := PR.at (HAW.out).d hlt
            have gd := (HTP.out).2.2.2.2 j hlt
            have hgb := good_bds gd
            have HGD : Hid ((T.d j).good = true) := gd
            have htt : 0 ≤ (T.d j).tm ∧ (T.d j).tm ≤ 1000000000000 := hgb.2.1
            have HTT : Hid (0 ≤ (T.d j).tm ∧ (T.d j).tm ≤ 1000000000000) := htt
            have HKC : Hid (∀ U, Below base W2 U → U.cell? ⟨w.heap.size, 2, none⟩ = some (.slice (some ⟨bo, oo, none⟩) T.nd A.cd) ∧ U.cell? ⟨bo, oo + j * 6, none⟩ = some (.int .i64 (T.d j).id) ∧ U.cell? ⟨bo, oo + j * 6 + 1, none⟩ = some (.int .i64 (T.d j).flow) ∧ U.cell? ⟨bo, oo + j * 6 + 2, none⟩ = some (.int .i64 (T.d j).host) ∧ U.cell? ⟨bo, oo + j * 6 + 3, none⟩ = some (.int .i64 (T.d j).size) ∧ U.cell? ⟨bo, oo + j * 6 + 4, none⟩ = some (.int .i64 (T.d j).tm) ∧ U.cell? ⟨bo, oo + j * 6 + 5, none⟩ = some (.int .i64 (T.d j).ecn)) := fun U h => by
              have hw : Below w.heap.size w U := (HPO.out _ h).2
              obtain ⟨⟨_, d2, _⟩, _⟩ := HPO.out _ h
              rw [hoe] at d2
              obtain ⟨p0, p1, p2, p3, p4, p5⟩ := (hoc j hlt).below hw hol
              exact ⟨d2, p0, p1, p2, p3, p4, p5⟩
            obtain ⟨q, hq⟩ : ∃ q, T.d j = q := ⟨_, rfl⟩
            have HQ : Hid (T.d j = q) := hq
            rw [hq] at HKC HGD HTT
            obtain ⟨qi, qf, qh, qs, qt, qe⟩ := q
            simp only at HKC HTT
            obtain ⟨e2, p0, p1, p2, p3, p4, p5⟩ := HKC.out _ HBR.out
            clear c1 c2 c4 hoc hoe gd hgb htt hq hol
            go_upto_region 11 with fail
            go_region_held3 (fun U => U.cell? ⟨w.heap.size, 2, none⟩ = some (.slice (some ⟨bo, oo, none⟩) T.nd A.cd) ∧ U.cell? ⟨bo, oo + j * 6, none⟩ = some (.int .i64 qi) ∧ U.cell? ⟨bo, oo + j * 6 + 1, none⟩ = some (.int .i64 qf) ∧ U.cell? ⟨bo, oo + j * 6 + 2, none⟩ = some (.int .i64 qh) ∧ U.cell? ⟨bo, oo + j * 6 + 3, none⟩ = some (.int .i64 qs) ∧ U.cell? ⟨bo, oo + j * 6 + 4, none⟩ = some (.int .i64 qt) ∧ U.cell? ⟨bo, oo + j * 6 + 5, none⟩ = some (.int .i64 qe)) (first | exact HKC.out _ b4 | exact HKC.out _ (Below.drew HBR.out))
              (first | (go_at_call 16; refine (sl12text_any ⟨#[100, 114, 111, 112]⟩ (by decide) (by decide) base x c (wdTrace ++ [10] ++ outsL T T.no ++ dropsL T j) N HL.out ⟨qi, qf, qh, qs, qt, qe⟩ qt _ (OX.below HO.out ((Below.refl _ _).drew)) HGD.out HTT.out hNb hbz).mono ?_; rintro e w4 ⟨x4, c4, N4, rfl, hN4, ho4, hg4⟩; have b4 : Below base W2 w4 := (Below.drew HBR.out).trans (hg4.kept (own_ge HO.out HL.out) hbz); clear hg4))
            have hstep : wdTrace ++ [10] ++ outsL T T.no ++ dropsL T (j + 1) = wdTrace ++ [10] ++ outsL T T.no ++ dropsL T j ++ lnL (strL ⟨#[100, 114, 111, 112]⟩) qi qt qe := by rw [dropsL_succ, HQ.out, str_drop]; simp
            have HST : Hid (wdTrace ++ [10] ++ outsL T T.no ++ dropsL T (j + 1) = wdTrace ++ [10] ++ outsL T T.no ++ dropsL T j ++ lnL (strL ⟨#[100, 114, 111, 112]⟩) qi qt qe) := hstep
            have HN4 : Hid ((wdTrace ++ [10] ++ outsL T T.no ++ dropsL T j ++ lnL (strL ⟨#[100, 114, 111, 112]⟩) qi qt qe).length = N4) := hN4
            have HO4 : Hid (OB base w4 x4 c4 (wdTrace ++ [10] ++ outsL T T.no ++ dropsL T j ++ lnL (strL ⟨#[100, 114, 111, 112]⟩) qi qt qe)) := ho4
            clear hstep hN4 ho4
            go_wp2
            go_roundw
            case rel => exact ⟨j + 1, x4, c4, N4, by omega, by go_num, rfl, by rw [HST.out]; exact HN4.out, by rw [HST.out]; exact .inl HO4.out, b4⟩
            case measure => simp [intOf]; omega
          · obtain rfl : j = T.nd := by omega
            have hfin : Below w.heap.size w wr := (HPO.out _ HBR.out).2
            have HFIN : Hid (Below w.heap.size w wr) := hfin
            clear hfin
            go_wp2
            go_ret
            exact ⟨x, c, by rw [HL.out]; rfl, (OX.zn HO.out).mono (by omega) (Nat.le_refl _), HFIN.out⟩

end Go.Proofs.YtcfkmkkgeoaaeaaDoor
