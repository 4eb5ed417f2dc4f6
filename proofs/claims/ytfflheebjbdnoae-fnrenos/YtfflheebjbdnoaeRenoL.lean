/-
  Acked OF THE PROGRAM.
-/
import Derived.Test.YtfflheebjbdnoaeRenoX
namespace Go.Proofs.Ytfflheebjbdnoae
open Go.RowKit
set_option linter.unusedVariables false

set_option maxRecDepth 100000 in
set_option maxHeartbeats 8000000 in
theorem iacked_any (r : Rn) (ack : Int) (echo : Bool) (w : World) :
    Calls Try.prog 9 #[r.val, .int .i64 ack, .bool echo] w fun e w' => e = .returned (.tuple #[(r.ackF ack echo).val, .bool (r.ackB ack)]) ∧ Below w.heap.size w w' := by
  obtain ⟨s0, z0, c0, -⟩ := zero_boxes w r
  obtain ⟨W, hW⟩ : ∃ W, (w.alloc (.cells (rnCells r) 24)).alloc (.cells #[.int .i64 0, .int .i64 0, .int .i64 0, .int .i64 0, .int .i64 0, .int .i64 0, .int .i64 0, .int .i64 0, .bool false, .int .i64 0] 24) = W := ⟨_, rfl⟩
  rw [hW] at s0 z0 c0
  have lz := z0.lt
  have S0 : Hid (Sits W w.heap.size (rnCells r) 24) := s0
  have Z0 : Hid (Sits W (w.heap.size + 1) (rnCells Rn.zero) 24) := z0
  clear s0 z0
  cases hg : r.good
  case false =>
    have h1 : r.ackB ack = false := by unfold Rn.ackB; simp [hg]
    have h2 : r.ackF ack echo = Rn.zero := by unfold Rn.ackF; simp [hg]
    rw [h1, h2]
    clear h1 h2
    go_enter Try.func9, Try.ntmps9
    go_upto_region 1 with fail
    try rw [hW]
    clear hW
    obtain ⟨q0, q1, q2, q3, q4, q5, q6, q7, q8, q9⟩ := rn_cells S0.out
    have fs := Sits.frozen S0.out
    obtain ⟨p0, p1, p2, p3, p4, p5, p6, p7, p8, p9⟩ := rn_cells Z0.out
    have fz := Sits.frozen Z0.out
    dsimp only [Rn.zero] at p0 p1 p2 p3 p4 p5 p6 p7 p8 p9
    go_wp2_with (go_at_call 12; refine (irenoOk_any r _).mono ?_; rintro e w1 ⟨rfl, b1⟩; rw [hg]; have s1 := Sits.below (S0.out) b1 (Sits.lt (S0.out)); have z1 := Sits.below (Z0.out) b1 (Sits.lt (Z0.out)); clear q0 q1 q2 q3 q4 q5 q6 q7 q8 q9 p0 p1 p2 p3 p4 p5 p6 p7 p8 p9 fs fz; obtain ⟨q0, q1, q2, q3, q4, q5, q6, q7, q8, q9⟩ := rn_cells s1; have fs := s1.frozen; obtain ⟨p0, p1, p2, p3, p4, p5, p6, p7, p8, p9⟩ := rn_cells z1; have fz := z1.frozen; dsimp only [Rn.zero] at p0 p1 p2 p3 p4 p5 p6 p7 p8 p9; have lz1 := z1.lt; have ls1 := s1.lt; have S1 : Hid (Sits w1 w.heap.size (rnCells r) 24) := s1; have Z1 : Hid (Sits w1 (w.heap.size + 1) (rnCells Rn.zero) 24) := z1; have c1 := Below.trans (c0) (b1.mono (Below.size (c0))); clear s1 z1 b1)
    refine bodyPost_ret (ret_rnb (q := Rn.zero) (b := false) (t := 24) (B := w.heap.size + 1) Try.results9 rfl rfl ?_) rfl ⟨rfl, ?_⟩
    · exact put_sits Z1.out Rn.zero
    · exact put_below c1 (by omega) Rn.zero
  case true =>
  cases hin : inB ack r.una r.nx
  case false =>
    have h1 : r.ackB ack = false := by unfold Rn.ackB; simp [hin]
    have h2 : r.ackF ack echo = r := by unfold Rn.ackF; simp [hg, hin]
    rw [h1, h2]
    clear h1 h2
    go_enter Try.func9, Try.ntmps9
    go_upto_region 1 with fail
    try rw [hW]
    clear hW
    obtain ⟨q0, q1, q2, q3, q4, q5, q6, q7, q8, q9⟩ := rn_cells S0.out
    have fs := Sits.frozen S0.out
    obtain ⟨p0, p1, p2, p3, p4, p5, p6, p7, p8, p9⟩ := rn_cells Z0.out
    have fz := Sits.frozen Z0.out
    dsimp only [Rn.zero] at p0 p1 p2 p3 p4 p5 p6 p7 p8 p9
    go_wp2_with (first | (go_at_call 12; refine (irenoOk_any r _).mono ?_; rintro e w1 ⟨rfl, b1⟩; rw [hg]; have s1 := Sits.below (S0.out) b1 (Sits.lt (S0.out)); have z1 := Sits.below (Z0.out) b1 (Sits.lt (Z0.out)); clear q0 q1 q2 q3 q4 q5 q6 q7 q8 q9 p0 p1 p2 p3 p4 p5 p6 p7 p8 p9 fs fz; obtain ⟨q0, q1, q2, q3, q4, q5, q6, q7, q8, q9⟩ := rn_cells s1; have fs := s1.frozen; obtain ⟨p0, p1, p2, p3, p4, p5, p6, p7, p8, p9⟩ := rn_cells z1; have fz := z1.frozen; dsimp only [Rn.zero] at p0 p1 p2 p3 p4 p5 p6 p7 p8 p9; have lz1 := z1.lt; have ls1 := s1.lt; have S1 : Hid (Sits w1 w.heap.size (rnCells r) 24) := s1; have Z1 : Hid (Sits w1 (w.heap.size + 1) (rnCells Rn.zero) 24) := z1; have c1 := Below.trans (c0) (b1.mono (Below.size (c0))); clear s1 z1 b1) | (go_at_call 28; refine (within_any _ _ _ _).mono ?_; rintro e w9 ⟨rfl, hw9⟩; replace hw9 := hw9.symm; subst hw9; rw [hin]))
    refine bodyPost_ret (ret_rnb (q := r) (b := false) (t := 24) (B := w.heap.size + 1) Try.results9 rfl rfl ?_) rfl ⟨rfl, ?_⟩
    · exact put_sits Z1.out r
    · exact put_below c1 (by omega) r
  case true =>
  have h1 : r.ackB ack = true := by unfold Rn.ackB; simp [hg, hin]
  have hb : r.una ≤ ack ∧ ack ≤ r.nx := by simpa [inB] using hin
  obtain ⟨v, hA, hH⟩ := heard1 r ack hg hb.1 hb.2
  have hgq := ack1_good (ack := ack) hg hb.2
  have hE := heard2 (r.ack1 ack) r.half (good_fit hgq)
  obtain ⟨qa, hq1⟩ : ∃ q, r.ack1 ack = q := ⟨_, rfl⟩
  obtain ⟨h, hh⟩ : ∃ h, r.half = h := ⟨_, rfl⟩
  obtain ⟨qb, hq2⟩ : ∃ q, qa.ack2 h = q := ⟨_, rfl⟩
  have h2 : r.ackF ack echo = if echo then qb else qa := by unfold Rn.ackF; simp only [hg, hin, if_true, hq1, hh, hq2]
  rw [hq1, hh, hq2] at hE
  rw [hq1] at hH
  rw [h1, h2]
  have HA : Hid _ := hA
  have HH : Hid _ := hH
  have HE : Hid _ := hE
  have HF : Hid r.fit := good_fit hg
  clear h1 h2 hb hA hH hE hgq hq1 hq2
  go_enter Try.func9, Try.ntmps9
  go_upto_region 1 with fail
  try rw [hW]
  clear hW
  obtain ⟨q0, q1, q2, q3, q4, q5, q6, q7, q8, q9⟩ := rn_cells S0.out
  have fs := Sits.frozen S0.out
  obtain ⟨p0, p1, p2, p3, p4, p5, p6, p7, p8, p9⟩ := rn_cells Z0.out
  have fz := Sits.frozen Z0.out
  dsimp only [Rn.zero] at p0 p1 p2 p3 p4 p5 p6 p7 p8 p9
  go_upto_region 5 with (first | (go_at_call 12; refine (irenoOk_any r _).mono ?_; rintro e w1 ⟨rfl, b1⟩; rw [hg]; have s1 := Sits.below (S0.out) b1 (Sits.lt (S0.out)); have z1 := Sits.below (Z0.out) b1 (Sits.lt (Z0.out)); clear q0 q1 q2 q3 q4 q5 q6 q7 q8 q9 p0 p1 p2 p3 p4 p5 p6 p7 p8 p9 fs fz; obtain ⟨q0, q1, q2, q3, q4, q5, q6, q7, q8, q9⟩ := rn_cells s1; have fs := s1.frozen; obtain ⟨p0, p1, p2, p3, p4, p5, p6, p7, p8, p9⟩ := rn_cells z1; have fz := z1.frozen; dsimp only [Rn.zero] at p0 p1 p2 p3 p4 p5 p6 p7 p8 p9; have lz1 := z1.lt; have ls1 := s1.lt; have S1 : Hid (Sits w1 w.heap.size (rnCells r) 24) := s1; have Z1 : Hid (Sits w1 (w.heap.size + 1) (rnCells Rn.zero) 24) := z1; have c1 := Below.trans (c0) (b1.mono (Below.size (c0))); clear s1 z1 b1) | (go_at_call 28; refine (within_any _ _ _ _).mono ?_; rintro e w9 ⟨rfl, hw9⟩; replace hw9 := hw9.symm; subst hw9; rw [hin]))
  clear hin hg
  have hlt0 : w.heap.size < w1.heap.size := Sits.lt S1.out
  have hSB : ∀ W, Below w1.heap.size w1 W → SRn w.heap.size r W := fun W hW => rn_cells (Sits.below S1.out hW (Sits.lt S1.out))
  go_cut [8] from 26 (fun s8 wx => ∃ V : Nat, s8 = .pointer (some ⟨V, 0, none⟩) ∧ Sits wx V (rnCells qa) 24 ∧ w1.heap.size ≤ V ∧ Below w1.heap.size w1 wx)
  case first =>
    go_region_held3 (fun w' => SRn w.heap.size r w') (first | exact hSB _ (by (repeat first | (with_reducible exact Below.refl _ _) | (with_reducible assumption) | (with_reducible apply Below.drew) | (with_reducible refine Below.setCell ?_ (by first | omega | (simp; done) | (simp; omega)) _) | (with_reducible refine Below.alloc ?_ (by first | omega | (simp; done) | (simp; omega)) _))) | fail)
      (first | (go_at_call 30; refine (HA.out _).mono ?_; rintro e v2 ⟨rfl, b2⟩; have hb2 : Below w1.heap.size w1 v2 := Below.trans (by (repeat first | (with_reducible exact Below.refl _ _) | (with_reducible assumption) | (with_reducible apply Below.drew) | (with_reducible refine Below.setCell ?_ (by first | omega | (simp; done) | (simp; omega)) _) | (with_reducible refine Below.alloc ?_ (by first | omega | (simp; done) | (simp; omega)) _))) (b2.mono (by first | omega | (simp; done) | (simp; omega))); have hs2 := b2.size; (try simp at hs2)) | (go_at_call 29; refine (HH.out _).mono ?_; rintro e v3 ⟨rfl, b3⟩; have hb3 : Below w1.heap.size w1 v3 := Below.trans (by (repeat first | (with_reducible exact Below.refl _ _) | (with_reducible assumption) | (with_reducible apply Below.drew) | (with_reducible refine Below.setCell ?_ (by first | omega | (simp; done) | (simp; omega)) _) | (with_reducible refine Below.alloc ?_ (by first | omega | (simp; done) | (simp; omega)) _))) (b3.mono (by first | omega | (simp; done) | (simp; omega))); have hs3 := b3.size; (try simp at hs3); (first | (have vz := box_at (box_at (Sits.new w1 (rnCells Rn.zero) 24) b2 rfl).1 b3 rfl; obtain ⟨y0, y1, y2, y3, y4, y5, y6, y7, y8, y9⟩ := rn_cells (r := Rn.zero) vz.1; have fzz := vz.1.frozen; dsimp only [Rn.zero] at y0 y1 y2 y3 y4 y5 y6 y7 y8 y9) | (have vz := box_at (Sits.new v2 (rnCells Rn.zero) 24) b3 rfl; obtain ⟨y0, y1, y2, y3, y4, y5, y6, y7, y8, y9⟩ := rn_cells (r := Rn.zero) vz.1; have fzz := vz.1.frozen; dsimp only [Rn.zero] at y0 y1 y2 y3 y4 y5 y6 y7 y8 y9) | skip)))
    all_goals
      (go_wp2_with fail)
      go_meet
      case rel =>
        refine ⟨_, rfl, ?_, ?_, ?_⟩
        · first | (with_reducible exact box_new rfl) | exact put_sits vz.1 qa
        · first | omega | (simp; omega)
        · repeat first | (with_reducible exact hb3) | (with_reducible refine Below.setCell ?_ (by first | omega | (simp; done) | (simp; omega)) _) | (with_reducible refine Below.alloc ?_ (by first | omega | (simp; done) | (simp; omega)) _)
  obtain ⟨V, rfl, sV, hV, bx⟩ := hcut
  rename World => y
  have s2 := Sits.below S1.out bx (Sits.lt S1.out)
  have z2 := Sits.below Z1.out bx (Sits.lt Z1.out)
  have c2 := Below.trans c1 (bx.mono c1.size)
  clear q0 q1 q2 q3 q4 q5 q6 q7 q8 q9 p0 p1 p2 p3 p4 p5 p6 p7 p8 p9 fs fz bx hSB
  obtain ⟨q0, q1, q2, q3, q4, q5, q6, q7, q8, q9⟩ := rn_cells s2
  have fs := s2.frozen
  obtain ⟨p0, p1, p2, p3, p4, p5, p6, p7, p8, p9⟩ := rn_cells z2
  have fz := z2.frozen
  dsimp only [Rn.zero] at p0 p1 p2 p3 p4 p5 p6 p7 p8 p9
  obtain ⟨v0, v1, v2, v3, v4, v5, v6, v7, v8, v9⟩ := rn_cells sV
  have fv := sV.frozen
  have ls2 := s2.lt
  have lz2 := z2.lt
  have lv2 := sV.lt
  have S2 : Hid (Sits y w.heap.size (rnCells r) 24) := s2
  have Z2 : Hid (Sits y (w.heap.size + 1) (rnCells Rn.zero) 24) := z2
  have V2 : Hid (Sits y V (rnCells qa) 24) := sV
  clear s2 z2 sV S0 Z0 S1 Z1 c0 c1 lz
  cases echo
  case false =>
    go_wp2
    refine bodyPost_ret (ret_rnb (q := qa) (b := true) (t := 24) (B := w.heap.size + 1) Try.results9 rfl rfl ?_) rfl ⟨rfl, ?_⟩
    · exact put_sits Z2.out qa
    · exact put_below c2 (by omega) qa
  case true =>
    go_upto_region 7 with fail
    refine wp_region_qtail 6 (C := fun w' => Below y.heap.size y w') (by kernel_rfl) (by kernel_rfl) ((Below.refl _ _).drew) ?_
    simp only [List.take_succ_cons, List.take_zero, List.drop_succ_cons, List.drop_zero]
    repeat (first
      | go_big_quiet_skip
      | (go_big_quiet_want
         unfold Oper.quiet
         apply Exists.intro
         refine ⟨fun w' hw' => ?_, ?_⟩
         (obtain ⟨q0, q1, q2, q3, q4, q5, q6, q7, q8, q9⟩ := rn_cells (Sits.below S2.out hw' (Sits.lt S2.out))
          obtain ⟨v0, v1, v2, v3, v4, v5, v6, v7, v8, v9⟩ := rn_cells (Sits.below V2.out hw' (Sits.lt V2.out))
          go_simp
          first
            | (go_at_call 31; refine (halfOf_any r HF.out _).mono ?_; rintro e w8 ⟨rfl, hb8⟩; rw [hh]; exact ⟨rfl, hw'.trans (hb8.mono hw'.size)⟩)
            | (go_at_call 29; refine (HE.out _).mono ?_; rintro e w8 ⟨rfl, hb8⟩; exact ⟨rfl, hw'.trans (hb8.mono hw'.size)⟩)
            | exact rfl)
         simp only [Act.put, List.setIfInBounds_toArray, List.set_cons_zero, List.set_cons_succ]
         go_big_quiet_on))
    refine wpQuiet_nil ?_
    intro w3 hw3
    have sv3 := Sits.below V2.out hw3 (Sits.lt V2.out)
    have z3 := Sits.below Z2.out hw3 (Sits.lt Z2.out)
    have c3 := Below.trans c2 (hw3.mono c2.size)
    clear q0 q1 q2 q3 q4 q5 q6 q7 q8 q9 p0 p1 p2 p3 p4 p5 p6 p7 p8 p9 v0 v1 v2 v3 v4 v5 v6 v7 v8 v9 fs fz fv hw3
    obtain ⟨p0, p1, p2, p3, p4, p5, p6, p7, p8, p9⟩ := rn_cells z3
    have fz := z3.frozen
    dsimp only [Rn.zero] at p0 p1 p2 p3 p4 p5 p6 p7 p8 p9
    obtain ⟨v0, v1, v2, v3, v4, v5, v6, v7, v8, v9⟩ := rn_cells sv3
    have fv := sv3.frozen
    have lz3 := z3.lt
    have lv3 := sv3.lt
    have Z3 : Hid (Sits w3 (w.heap.size + 1) (rnCells Rn.zero) 24) := z3
    have V3 : Hid (Sits w3 V (rnCells qa) 24) := sv3
    clear z3 sv3
    go_upto_region 8 with fail
    obtain ⟨W4, hW4⟩ : ∃ x, ((((((((((w3.setCell ⟨V, 0, none⟩ (.int .i64 qb.mss)).setCell ⟨V, 1, none⟩ (.int .i64 qb.cw)).setCell ⟨V, 2, none⟩ (.int .i64 qb.th)).setCell ⟨V, 3, none⟩ (.int .i64 qb.ac)).setCell ⟨V, 4, none⟩ (.int .i64 qb.una)).setCell ⟨V, 5, none⟩ (.int .i64 qb.nx)).setCell ⟨V, 6, none⟩ (.int .i64 qb.du)).setCell ⟨V, 7, none⟩ (.int .i64 qb.rc)).setCell ⟨V, 8, none⟩ (.bool qb.inn)).setCell ⟨V, 9, none⟩ (.int .i64 qb.cut)) = x := ⟨_, rfl⟩
    have sv4 : Sits W4 V (rnCells qb) 24 := by rw [← hW4]; exact put_sits V3.out qb
    have z4 : Sits W4 (w.heap.size + 1) (rnCells Rn.zero) 24 := by rw [← hW4]; exact put_other Z3.out (by omega) qb
    have c4 : Below w.heap.size w W4 := by rw [← hW4]; exact put_below c3 (by omega) qb
    rw [hW4]
    clear hW4 p0 p1 p2 p3 p4 p5 p6 p7 p8 p9 v0 v1 v2 v3 v4 v5 v6 v7 v8 v9 fz fv
    obtain ⟨p0, p1, p2, p3, p4, p5, p6, p7, p8, p9⟩ := rn_cells z4
    have fz := z4.frozen
    dsimp only [Rn.zero] at p0 p1 p2 p3 p4 p5 p6 p7 p8 p9
    obtain ⟨v0, v1, v2, v3, v4, v5, v6, v7, v8, v9⟩ := rn_cells sv4
    have lz4 := z4.lt
    have Z4 : Hid (Sits W4 (w.heap.size + 1) (rnCells Rn.zero) 24) := z4
    clear z4 sv4
    go_wp2
    refine bodyPost_ret (ret_rnb (q := qb) (b := true) (t := 24) (B := w.heap.size + 1) Try.results9 rfl rfl ?_) rfl ⟨rfl, ?_⟩
    · exact put_sits Z4.out qb
    · exact put_below c4 (by omega) qb

end Go.Proofs.Ytfflheebjbdnoae
