/-
  l9draw OF THE SPECIFICATION: whatever the bytes are, a sender that is well.
-/
import Derived.Test.YtfflheebjbdnoaeDrawRn
import Derived.Test.YtfflheebjbdnoaeRenoX
namespace Go.Proofs.Ytfflheebjbdnoae
open Go.RowKit
set_option linter.unusedVariables false

def inM (x : Int) : Prop := 1 ≤ x ∧ x ≤ 10000
theorem mayF_bd {r : Rn} (hg : r.good = true) (win : Int) : 0 ≤ mayF r win ∧ mayF r win ≤ 100000000 := by
  obtain ⟨g1, g2, g3, g4, g5, g6, g7, g8, g9, g10, g11, g12, g13, g14, g15, g16, g17, g18⟩ := r.good_iff.1 hg
  have hf : 0 ≤ r.fl := by unfold Rn.fl; omega
  unfold mayF
  (repeat' split) <;> omega
theorem new_good9 {m : Int} (h : inM m) : (rnNew m).good = true := (Rn.good_iff _).2 (by unfold inM at h; simp [rnNew]; omega)

set_option maxRecDepth 100000 in
set_option maxHeartbeats 8000000 in
theorem l9draw_any (B : Nat) (a : Option Addr) (len cap : Nat) (w : World) (hc : Cur w B a len cap) :
    Calls Try.prog 36 #[.pointer (some ⟨B, 0, none⟩)] w fun e w' => ∃ r : Rn, e = .returned r.val ∧ r.good = true ∧ Cur w' B a len cap ∧ Only B w w' := by
  have hB := hc.1
  have HC : Hid (Cur w B a len cap) := hc
  clear hc
  go_enter Try.func36, Try.ntmps36
  go_wp2_with fail
  refine Calls.mono (pick3q inM B a len cap _ ((Cur.alloc HC.out _ _).alloc _ _) _ _ 100 1460 1 (Sits.new' (by simp)) ?ne ?q1 ?q2 ?q3) ?_
  case ne => simp; omega
  case q1 => unfold inM; omega
  case q2 => unfold inM; omega
  case q3 => unfold inM; omega
  rintro e w1 ⟨m, rfl, hm, c1, o1⟩
  have z1 : Sits w1 w.heap.size (rnCells Rn.zero) 24 := ((Sits.new w (rnCells Rn.zero) 24).alloc _).only o1 (by omega)
  replace o1 : Only B w w1 := (((Only.refl B w).alloc _).alloc _).trans o1
  have hg0 := new_good9 hm
  have hz0 : (rnNew m).orZero = rnNew m := by unfold Rn.orZero; simp [hg0]
  have C1 : Hid (Cur w1 B a len cap) := c1
  clear c1 HC
  unfold inM at hm
  go_wp2_with fail
  refine (srenoNew_any m (by omega) (by omega) _).mono ?_
  rintro e w2 ⟨rfl, b2⟩
  rw [hz0, hg0]
  obtain ⟨r0, hr0⟩ : ∃ r, rnNew m = r := ⟨_, rfl⟩
  rw [hr0] at hg0 ⊢
  clear hz0 hr0 hm
  go_wp2_with fail
  obtain ⟨V, hV⟩ : ∃ V, w2.heap.size = V := ⟨_, rfl⟩
  obtain ⟨wv, hwv⟩ : ∃ x, w2.alloc (.cells (rnCells r0) 24) = x := ⟨_, rfl⟩
  have z2 := z1.below b2 z1.lt
  have lV : w.heap.size < V := by rw [← hV]; exact z2.lt
  have D0 : DR B V w.heap.size r0 a len cap w wv := by
    have h1 : DR B w.heap.size w.heap.size Rn.zero a len cap w w1 := ⟨z1, z1, o1, C1.out⟩
    have h2 := (h1.bel b2).alloc (rnCells r0) 24
    rw [hwv] at h2
    exact ⟨by rw [← hwv]; exact Sits.new' hV, h2.sz, h2.on, h2.cu⟩
  rw [hwv, hV]
  clear hwv hV z1 z2 o1 b2 C1
  have HG0 : Hid (r0.good = true) := hg0
  have HD0 : Hid (DR B V w.heap.size r0 a len cap w wv) := D0
  clear hg0 D0
  refine (below_any B a len cap _ HD0.out.cu 30 (by omega) (by omega)).mono ?_
  rintro e w4 ⟨n, rfl, n0, n1, c4, o4⟩
  obtain ⟨n, rfl⟩ := Int.eq_ofNat_of_zero_le n0
  have HD4 : Hid (DR B V w.heap.size r0 a len cap w w4) := HD0.out.drawn (by omega) (by omega) o4 c4
  clear c4 o4 HD0
  go_wp2_with fail
  go_loopw [6] (fun i wr => ∃ (k : Nat) (r : Rn), (k : Int) ≤ (n : Int) ∧ i = .int .i64 k ∧ r.good = true ∧ DR B V w.heap.size r a len cap w wr) (fun i _ => n - (intOf i).toNat)
  case atStart => exact ⟨0, r0, by omega, rfl, HG0.out, HD4.out⟩
  case round =>
    obtain ⟨k, r, hk, rfl, hgr, dr⟩ := hrel
    clear HG0 HD4
    have HG : Hid (r.good = true) := hgr
    have HD : Hid (DR B V w.heap.size r a len cap w wr) := dr
    have ls := dr.sv.lt
    by_cases hlt : (k : Int) < (n : Int)
    · clear hgr dr
      go_upto_region 8 with fail
      obtain ⟨X, hX⟩ : ∃ X, wr.heap.size = X := ⟨_, rfl⟩
      obtain ⟨wx, hwx⟩ : ∃ x, wr.alloc (.cells (rnCells Rn.zero) 24) = x := ⟨_, rfl⟩
      have HDx : Hid (DR B V w.heap.size r a len cap w wx) := by rw [← hwx]; exact DR.alloc HD.out _ _
      have SX : Hid (Sits wx X (rnCells Rn.zero) 24) := by rw [← hwx]; exact Sits.new' hX
      have hVX : V < X := by rw [← hX]; exact ls
      have hwx' : wr.alloc (.cells #[.int .i64 0, .int .i64 0, .int .i64 0, .int .i64 0, .int .i64 0, .int .i64 0, .int .i64 0, .int .i64 0, .bool false, .int .i64 0] 24) = wx := hwx
      rw [hwx', hX]
      clear hwx hwx' hX HD ls
      go_wp2_with fail
      refine (below_any B a len cap _ HDx.out.cu 8 (by omega) (by omega)).mono ?_
      rintro e w8 ⟨y, rfl, y0, y1, c8, o8⟩
      have HD8 : Hid (DR B V w.heap.size r a len cap w w8) := DR.drawn HDx.out (by omega) (by omega) o8 c8
      have SX8 : Hid (Sits w8 X (rnCells Rn.zero) 24) := Sits.only SX.out o8 (by omega)
      clear c8 o8 HDx SX
      have hlt8 : V < w8.heap.size := Sits.lt (DR.sv HD8.out)
      have hltX : X < w8.heap.size := Sits.lt SX8.out
      have hSB : ∀ W, Below w8.heap.size w8 W → SRn V r W := fun W hW => rn_cells (Sits.below (DR.sv HD8.out) hW hlt8)
      have hVXn : V ≠ X := by omega
      have hgr := HG.out
      have hf := good_fit hgr
      unfold Rn.fit at hf
      have hy : y = 0 ∨ y = 1 ∨ y = 2 ∨ y = 3 ∨ y = 4 ∨ y = 5 ∨ y = 6 ∨ y = 7 := by omega
      rcases hy with rfl | rfl | rfl | rfl | rfl | rfl | rfl | rfl
      · obtain ⟨mv, hmv⟩ : ∃ v, mayF r 100000000 = v := ⟨_, rfl⟩
        have hmb := mayF_bd hgr 100000000
        rw [hmv] at hmb
        obtain ⟨m1, hm1⟩ : ∃ v, (if r.mss < mv then r.mss else mv) = v := ⟨_, rfl⟩
        have hm1b : 0 ≤ m1 ∧ m1 ≤ 10000 := by rw [← hm1]; split <;> omega
        obtain ⟨b, hb⟩ : ∃ v, (if m1 < 1 then 1 else m1) = v := ⟨_, rfl⟩
        have hbb : 1 ≤ b ∧ b ≤ 10000 := by rw [← hb]; split <;> omega
        have HK0 : r.sentB b = true → (r.sentF b).good = true := sent_good
        obtain ⟨q, hq⟩ : ∃ q, r.sentF b = q := ⟨_, rfl⟩
        obtain ⟨ok, hok⟩ : ∃ o, r.sentB b = o := ⟨_, rfl⟩
        rw [hq, hok] at HK0
        have HK : Hid (ok = true → q.good = true) := HK0
        clear HK0 hgr
        go_upto_region 13 with fail
        go_region_held3 (fun w' => SRn V r w') (first | (with_reducible exact rn_cells (put_other (DR.sv HDv.out) hVXn q)) | (with_reducible exact rn_cells (DR.sv HDv.out)) | exact hSB _ (by (repeat first | (with_reducible exact Below.refl _ _) | (with_reducible assumption) | (with_reducible apply Below.drew) | (with_reducible refine Below.setCell ?_ (by first | omega | (simp; done) | (simp; omega)) _) | (with_reducible refine Below.alloc ?_ (by first | omega | (simp; done) | (simp; omega)) _))) | fail)
          (first | (go_at_call 48; refine (smaySend_any r _ _).mono ?_; rintro e v2 ⟨rfl, b2⟩; rw [hmv]; have hb2 : Below w8.heap.size w8 v2 := Below.trans (by (repeat first | (with_reducible exact Below.refl _ _) | (with_reducible assumption) | (with_reducible apply Below.drew) | (with_reducible refine Below.setCell ?_ (by first | omega | (simp; done) | (simp; omega)) _) | (with_reducible refine Below.alloc ?_ (by first | omega | (simp; done) | (simp; omega)) _))) (b2.mono (by first | omega | (simp; done) | (simp; omega))); have hs2 := hb2.size) | (go_at_call 47; refine (less_any _ _ _).mono ?_; rintro e v3 ⟨rfl, hv3⟩; replace hv3 := hv3.symm; subst hv3; rw [hm1]) | (go_at_call 46; refine (more_any _ _ _).mono ?_; rintro e v3 ⟨rfl, hv3⟩; replace hv3 := hv3.symm; subst hv3; rw [hb]) | (go_at_call 45; refine (ssent_any r b (by omega) (by omega) _).mono ?_; rintro e v5 ⟨rfl, b5⟩; rw [hq, hok]; have hb5 : Below w8.heap.size w8 v5 := Below.trans (by (repeat first | (with_reducible exact Below.refl _ _) | (with_reducible assumption) | (with_reducible apply Below.drew) | (with_reducible refine Below.setCell ?_ (by first | omega | (simp; done) | (simp; omega)) _) | (with_reducible refine Below.alloc ?_ (by first | omega | (simp; done) | (simp; omega)) _))) (b5.mono (by first | omega | (simp; done) | (simp; omega))); have HDv : Hid (DR B V w.heap.size r a len cap w v5) := DR.bel HD8.out hb5; have sx := Sits.below SX8.out hb5 hltX; obtain ⟨x0, x1, x2, x3, x4, x5, x6, x7, x8, x9⟩ := rn_cells sx; have fx := sx.frozen; dsimp only [Rn.zero] at x0 x1 x2 x3 x4 x5 x6 x7 x8 x9))
        all_goals
          skip
          go_upto_region 20 with fail
          obtain ⟨W9, hW9⟩ : ∃ x, ((((((((((v5.setCell ⟨X, 0, none⟩ (.int .i64 q.mss)).setCell ⟨X, 1, none⟩ (.int .i64 q.cw)).setCell ⟨X, 2, none⟩ (.int .i64 q.th)).setCell ⟨X, 3, none⟩ (.int .i64 q.ac)).setCell ⟨X, 4, none⟩ (.int .i64 q.una)).setCell ⟨X, 5, none⟩ (.int .i64 q.nx)).setCell ⟨X, 6, none⟩ (.int .i64 q.du)).setCell ⟨X, 7, none⟩ (.int .i64 q.rc)).setCell ⟨X, 8, none⟩ (.bool q.inn)).setCell ⟨X, 9, none⟩ (.int .i64 q.cut)) = x := ⟨_, rfl⟩
          have HD9 : Hid (DR B V w.heap.size r a len cap w W9) := by rw [← hW9]; exact DR.setX HDv.out (by omega) (by omega) (by omega) (by omega)
          have SX9 : Hid (Sits W9 X (rnCells q) 24) := by rw [← hW9]; exact put_sits sx q
          rw [hW9]
          clear hW9
          cases ok
          case false =>
            go_wp2_with fail
            go_roundw
            case rel => exact ⟨k + 1, r, by omega, by go_num, HG.out, HD9.out⟩
            case measure => simp [intOf]; omega
          case true =>
            have hgq := HK.out rfl
            have HGQ : Hid (q.good = true) := hgq
            clear hgq
            obtain ⟨q0, q1, q2, q3, q4, q5, q6, q7, q8, q9⟩ := rn_cells SX9.out
            obtain ⟨p0, p1, p2, p3, p4, p5, p6, p7, p8, p9⟩ := rn_cells (DR.sv HD9.out)
            have fv := Sits.frozen (DR.sv HD9.out)
            go_wp2_with fail
            go_roundw
            case rel => exact ⟨k + 1, q, by omega, by go_num, HGQ.out, DR.setV HD9.out (by omega) (by omega) (by omega)⟩
            case measure => simp [intOf]; omega
      · obtain ⟨mv, hmv⟩ : ∃ v, mayF r 100000000 = v := ⟨_, rfl⟩
        have hmb := mayF_bd hgr 100000000
        rw [hmv] at hmb
        obtain ⟨m1, hm1⟩ : ∃ v, (if r.mss < mv then r.mss else mv) = v := ⟨_, rfl⟩
        have hm1b : 0 ≤ m1 ∧ m1 ≤ 10000 := by rw [← hm1]; split <;> omega
        obtain ⟨b, hb⟩ : ∃ v, (if m1 < 1 then 1 else m1) = v := ⟨_, rfl⟩
        have hbb : 1 ≤ b ∧ b ≤ 10000 := by rw [← hb]; split <;> omega
        have HK0 : r.sentB b = true → (r.sentF b).good = true := sent_good
        obtain ⟨q, hq⟩ : ∃ q, r.sentF b = q := ⟨_, rfl⟩
        obtain ⟨ok, hok⟩ : ∃ o, r.sentB b = o := ⟨_, rfl⟩
        rw [hq, hok] at HK0
        have HK : Hid (ok = true → q.good = true) := HK0
        clear HK0 hgr
        go_upto_region 13 with fail
        go_region_held3 (fun w' => SRn V r w') (first | (with_reducible exact rn_cells (put_other (DR.sv HDv.out) hVXn q)) | (with_reducible exact rn_cells (DR.sv HDv.out)) | exact hSB _ (by (repeat first | (with_reducible exact Below.refl _ _) | (with_reducible assumption) | (with_reducible apply Below.drew) | (with_reducible refine Below.setCell ?_ (by first | omega | (simp; done) | (simp; omega)) _) | (with_reducible refine Below.alloc ?_ (by first | omega | (simp; done) | (simp; omega)) _))) | fail)
          (first | (go_at_call 48; refine (smaySend_any r _ _).mono ?_; rintro e v2 ⟨rfl, b2⟩; rw [hmv]; have hb2 : Below w8.heap.size w8 v2 := Below.trans (by (repeat first | (with_reducible exact Below.refl _ _) | (with_reducible assumption) | (with_reducible apply Below.drew) | (with_reducible refine Below.setCell ?_ (by first | omega | (simp; done) | (simp; omega)) _) | (with_reducible refine Below.alloc ?_ (by first | omega | (simp; done) | (simp; omega)) _))) (b2.mono (by first | omega | (simp; done) | (simp; omega))); have hs2 := hb2.size) | (go_at_call 47; refine (less_any _ _ _).mono ?_; rintro e v3 ⟨rfl, hv3⟩; replace hv3 := hv3.symm; subst hv3; rw [hm1]) | (go_at_call 46; refine (more_any _ _ _).mono ?_; rintro e v3 ⟨rfl, hv3⟩; replace hv3 := hv3.symm; subst hv3; rw [hb]) | (go_at_call 45; refine (ssent_any r b (by omega) (by omega) _).mono ?_; rintro e v5 ⟨rfl, b5⟩; rw [hq, hok]; have hb5 : Below w8.heap.size w8 v5 := Below.trans (by (repeat first | (with_reducible exact Below.refl _ _) | (with_reducible assumption) | (with_reducible apply Below.drew) | (with_reducible refine Below.setCell ?_ (by first | omega | (simp; done) | (simp; omega)) _) | (with_reducible refine Below.alloc ?_ (by first | omega | (simp; done) | (simp; omega)) _))) (b5.mono (by first | omega | (simp; done) | (simp; omega))); have HDv : Hid (DR B V w.heap.size r a len cap w v5) := DR.bel HD8.out hb5; have sx := Sits.below SX8.out hb5 hltX; obtain ⟨x0, x1, x2, x3, x4, x5, x6, x7, x8, x9⟩ := rn_cells sx; have fx := sx.frozen; dsimp only [Rn.zero] at x0 x1 x2 x3 x4 x5 x6 x7 x8 x9))
        all_goals
          skip
          go_upto_region 20 with fail
          obtain ⟨W9, hW9⟩ : ∃ x, ((((((((((v5.setCell ⟨X, 0, none⟩ (.int .i64 q.mss)).setCell ⟨X, 1, none⟩ (.int .i64 q.cw)).setCell ⟨X, 2, none⟩ (.int .i64 q.th)).setCell ⟨X, 3, none⟩ (.int .i64 q.ac)).setCell ⟨X, 4, none⟩ (.int .i64 q.una)).setCell ⟨X, 5, none⟩ (.int .i64 q.nx)).setCell ⟨X, 6, none⟩ (.int .i64 q.du)).setCell ⟨X, 7, none⟩ (.int .i64 q.rc)).setCell ⟨X, 8, none⟩ (.bool q.inn)).setCell ⟨X, 9, none⟩ (.int .i64 q.cut)) = x := ⟨_, rfl⟩
          have HD9 : Hid (DR B V w.heap.size r a len cap w W9) := by rw [← hW9]; exact DR.setX HDv.out (by omega) (by omega) (by omega) (by omega)
          have SX9 : Hid (Sits W9 X (rnCells q) 24) := by rw [← hW9]; exact put_sits sx q
          rw [hW9]
          clear hW9
          cases ok
          case false =>
            go_wp2_with fail
            go_roundw
            case rel => exact ⟨k + 1, r, by omega, by go_num, HG.out, HD9.out⟩
            case measure => simp [intOf]; omega
          case true =>
            have hgq := HK.out rfl
            have HGQ : Hid (q.good = true) := hgq
            clear hgq
            obtain ⟨q0, q1, q2, q3, q4, q5, q6, q7, q8, q9⟩ := rn_cells SX9.out
            obtain ⟨p0, p1, p2, p3, p4, p5, p6, p7, p8, p9⟩ := rn_cells (DR.sv HD9.out)
            have fv := Sits.frozen (DR.sv HD9.out)
            go_wp2_with fail
            go_roundw
            case rel => exact ⟨k + 1, q, by omega, by go_num, HGQ.out, DR.setV HD9.out (by omega) (by omega) (by omega)⟩
            case measure => simp [intOf]; omega
      · obtain ⟨mv, hmv⟩ : ∃ v, mayF r 100000000 = v := ⟨_, rfl⟩
        have hmb := mayF_bd hgr 100000000
        rw [hmv] at hmb
        obtain ⟨m1, hm1⟩ : ∃ v, (if r.mss < mv then r.mss else mv) = v := ⟨_, rfl⟩
        have hm1b : 0 ≤ m1 ∧ m1 ≤ 10000 := by rw [← hm1]; split <;> omega
        obtain ⟨b, hb⟩ : ∃ v, (if m1 < 1 then 1 else m1) = v := ⟨_, rfl⟩
        have hbb : 1 ≤ b ∧ b ≤ 10000 := by rw [← hb]; split <;> omega
        have HK0 : r.sentB b = true → (r.sentF b).good = true := sent_good
        obtain ⟨q, hq⟩ : ∃ q, r.sentF b = q := ⟨_, rfl⟩
        obtain ⟨ok, hok⟩ : ∃ o, r.sentB b = o := ⟨_, rfl⟩
        rw [hq, hok] at HK0
        have HK : Hid (ok = true → q.good = true) := HK0
        clear HK0 hgr
        go_upto_region 13 with fail
        go_region_held3 (fun w' => SRn V r w') (first | (with_reducible exact rn_cells (put_other (DR.sv HDv.out) hVXn q)) | (with_reducible exact rn_cells (DR.sv HDv.out)) | exact hSB _ (by (repeat first | (with_reducible exact Below.refl _ _) | (with_reducible assumption) | (with_reducible apply Below.drew) | (with_reducible refine Below.setCell ?_ (by first | omega | (simp; done) | (simp; omega)) _) | (with_reducible refine Below.alloc ?_ (by first | omega | (simp; done) | (simp; omega)) _))) | fail)
          (first | (go_at_call 48; refine (smaySend_any r _ _).mono ?_; rintro e v2 ⟨rfl, b2⟩; rw [hmv]; have hb2 : Below w8.heap.size w8 v2 := Below.trans (by (repeat first | (with_reducible exact Below.refl _ _) | (with_reducible assumption) | (with_reducible apply Below.drew) | (with_reducible refine Below.setCell ?_ (by first | omega | (simp; done) | (simp; omega)) _) | (with_reducible refine Below.alloc ?_ (by first | omega | (simp; done) | (simp; omega)) _))) (b2.mono (by first | omega | (simp; done) | (simp; omega))); have hs2 := hb2.size) | (go_at_call 47; refine (less_any _ _ _).mono ?_; rintro e v3 ⟨rfl, hv3⟩; replace hv3 := hv3.symm; subst hv3; rw [hm1]) | (go_at_call 46; refine (more_any _ _ _).mono ?_; rintro e v3 ⟨rfl, hv3⟩; replace hv3 := hv3.symm; subst hv3; rw [hb]) | (go_at_call 45; refine (ssent_any r b (by omega) (by omega) _).mono ?_; rintro e v5 ⟨rfl, b5⟩; rw [hq, hok]; have hb5 : Below w8.heap.size w8 v5 := Below.trans (by (repeat first | (with_reducible exact Below.refl _ _) | (with_reducible assumption) | (with_reducible apply Below.drew) | (with_reducible refine Below.setCell ?_ (by first | omega | (simp; done) | (simp; omega)) _) | (with_reducible refine Below.alloc ?_ (by first | omega | (simp; done) | (simp; omega)) _))) (b5.mono (by first | omega | (simp; done) | (simp; omega))); have HDv : Hid (DR B V w.heap.size r a len cap w v5) := DR.bel HD8.out hb5; have sx := Sits.below SX8.out hb5 hltX; obtain ⟨x0, x1, x2, x3, x4, x5, x6, x7, x8, x9⟩ := rn_cells sx; have fx := sx.frozen; dsimp only [Rn.zero] at x0 x1 x2 x3 x4 x5 x6 x7 x8 x9))
        all_goals
          skip
          go_upto_region 20 with fail
          obtain ⟨W9, hW9⟩ : ∃ x, ((((((((((v5.setCell ⟨X, 0, none⟩ (.int .i64 q.mss)).setCell ⟨X, 1, none⟩ (.int .i64 q.cw)).setCell ⟨X, 2, none⟩ (.int .i64 q.th)).setCell ⟨X, 3, none⟩ (.int .i64 q.ac)).setCell ⟨X, 4, none⟩ (.int .i64 q.una)).setCell ⟨X, 5, none⟩ (.int .i64 q.nx)).setCell ⟨X, 6, none⟩ (.int .i64 q.du)).setCell ⟨X, 7, none⟩ (.int .i64 q.rc)).setCell ⟨X, 8, none⟩ (.bool q.inn)).setCell ⟨X, 9, none⟩ (.int .i64 q.cut)) = x := ⟨_, rfl⟩
          have HD9 : Hid (DR B V w.heap.size r a len cap w W9) := by rw [← hW9]; exact DR.setX HDv.out (by omega) (by omega) (by omega) (by omega)
          have SX9 : Hid (Sits W9 X (rnCells q) 24) := by rw [← hW9]; exact put_sits sx q
          rw [hW9]
          clear hW9
          cases ok
          case false =>
            go_wp2_with fail
            go_roundw
            case rel => exact ⟨k + 1, r, by omega, by go_num, HG.out, HD9.out⟩
            case measure => simp [intOf]; omega
          case true =>
            have hgq := HK.out rfl
            have HGQ : Hid (q.good = true) := hgq
            clear hgq
            obtain ⟨q0, q1, q2, q3, q4, q5, q6, q7, q8, q9⟩ := rn_cells SX9.out
            obtain ⟨p0, p1, p2, p3, p4, p5, p6, p7, p8, p9⟩ := rn_cells (DR.sv HD9.out)
            have fv := Sits.frozen (DR.sv HD9.out)
            go_wp2_with fail
            go_roundw
            case rel => exact ⟨k + 1, q, by omega, by go_num, HGQ.out, DR.setV HD9.out (by omega) (by omega) (by omega)⟩
            case measure => simp [intOf]; omega
      · have HK0 : r.outB = true → r.outF.good = true := out_good
        obtain ⟨q, hq⟩ : ∃ q, r.outF = q := ⟨_, rfl⟩
        obtain ⟨ok, hok⟩ : ∃ o, r.outB = o := ⟨_, rfl⟩
        rw [hq, hok] at HK0
        have HK1 : Hid (ok = true → q.good = true) := HK0
        clear HK0 hgr
        obtain ⟨q0, q1, q2, q3, q4, q5, q6, q7, q8, q9⟩ := rn_cells (DR.sv HD8.out)
        go_upto_region 16 with (go_at_call 49; refine (stimedOut_any r _).mono ?_; rintro e v5 ⟨rfl, hb5⟩; rw [hq, hok]; have sx := Sits.below SX8.out hb5 hltX; obtain ⟨x0, x1, x2, x3, x4, x5, x6, x7, x8, x9⟩ := rn_cells sx; have fx := sx.frozen; dsimp only [Rn.zero] at x0 x1 x2 x3 x4 x5 x6 x7 x8 x9)
        have HDv : Hid (DR B V w.heap.size r a len cap w v5) := DR.bel HD8.out hb5
        obtain ⟨W7, hW7⟩ : ∃ x, ((((((((((v5.setCell ⟨X, 0, none⟩ (.int .i64 q.mss)).setCell ⟨X, 1, none⟩ (.int .i64 q.cw)).setCell ⟨X, 2, none⟩ (.int .i64 q.th)).setCell ⟨X, 3, none⟩ (.int .i64 q.ac)).setCell ⟨X, 4, none⟩ (.int .i64 q.una)).setCell ⟨X, 5, none⟩ (.int .i64 q.nx)).setCell ⟨X, 6, none⟩ (.int .i64 q.du)).setCell ⟨X, 7, none⟩ (.int .i64 q.rc)).setCell ⟨X, 8, none⟩ (.bool q.inn)).setCell ⟨X, 9, none⟩ (.int .i64 q.cut)) = x := ⟨_, rfl⟩
        have HD7 : Hid (DR B V w.heap.size r a len cap w W7) := by rw [← hW7]; exact DR.setX HDv.out (by omega) (by omega) (by omega) (by omega)
        have SX7 : Hid (Sits W7 X (rnCells q) 24) := by rw [← hW7]; exact put_sits sx q
        rw [hW7]
        clear hW7
        cases ok
        case false =>
          go_wp2_with fail
          go_roundw
          case rel => exact ⟨k + 1, r, by omega, by go_num, HG.out, HD7.out⟩
          case measure => simp [intOf]; omega
        case true =>
          have hgq := HK1.out rfl
          go_wp2_with fail
          refine (once_any B a len cap _ (DR.cu HD7.out) 3 (by omega) (by omega)).mono ?_
          rintro e v7 ⟨zb, rfl, c7, o7⟩
          have HD9 : Hid (DR B V w.heap.size r a len cap w v7) := DR.drawn HD7.out (by omega) (by omega) o7 c7
          have SX9 : Hid (Sits v7 X (rnCells q) 24) := Sits.only SX7.out o7 (by omega)
          have HK : Hid (zb = true → q.good = true) := fun _ => hgq
          clear c7 o7 hgq
          cases zb
          case false =>
            go_wp2_with fail
            go_roundw
            case rel => exact ⟨k + 1, r, by omega, by go_num, HG.out, HD9.out⟩
            case measure => simp [intOf]; omega
          case true =>
            have hgq := HK.out rfl
            have HGQ : Hid (q.good = true) := hgq
            clear hgq
            obtain ⟨q0, q1, q2, q3, q4, q5, q6, q7, q8, q9⟩ := rn_cells SX9.out
            obtain ⟨p0, p1, p2, p3, p4, p5, p6, p7, p8, p9⟩ := rn_cells (DR.sv HD9.out)
            have fv := Sits.frozen (DR.sv HD9.out)
            go_wp2_with fail
            go_roundw
            case rel => exact ⟨k + 1, q, by omega, by go_num, HGQ.out, DR.setV HD9.out (by omega) (by omega) (by omega)⟩
            case measure => simp [intOf]; omega
      · clear hgr
        go_upto_region 19 with fail
        go_region_held3 (fun w' => SRn V r w') (first | (with_reducible exact rn_cells (put_other (DR.sv HDv.out) hVXn q)) | (with_reducible exact rn_cells (DR.sv HDv.out)) | (with_reducible exact rn_cells (DR.sv HD3.out)) | (with_reducible exact rn_cells (DR.sv HD8.out)) | (with_reducible exact rn_cells (DR.sv (DR.drew HD8.out))) | fail)
          (first | (go_at_call 27; refine (once_any B a len cap _ (DR.cu (DR.drew HD8.out)) 6 (by omega) (by omega)).mono ?_; rintro e v3 ⟨zb, rfl, c3, o3⟩; have HD3 : Hid (DR B V w.heap.size r a len cap w v3) := DR.drawn (DR.drew HD8.out) (by omega) (by omega) o3 c3; have SX3 : Hid (Sits v3 X (rnCells Rn.zero) 24) := Sits.only (Sits.drew SX8.out) o3 (by omega); have hlt3 : V < v3.heap.size := Sits.lt (DR.sv HD3.out); have hltX3 : X < v3.heap.size := Sits.lt SX3.out; clear c3 o3; have HK0 : r.ackSB r.una = true → (r.ackS r.una zb).good = true := ackS_good; obtain ⟨q, hq⟩ : ∃ q, r.ackS r.una zb = q := ⟨_, rfl⟩; obtain ⟨ok, hok⟩ : ∃ o, r.ackSB r.una = o := ⟨_, rfl⟩; rw [hq, hok] at HK0; have HK : Hid (ok = true → q.good = true) := HK0; clear HK0) | (go_at_call 50; refine (sacked_any r r.una zb _).mono ?_; rintro e v5 ⟨rfl, hb5⟩; rw [hq, hok]; have HDv : Hid (DR B V w.heap.size r a len cap w v5) := DR.bel HD3.out hb5; have sx := Sits.below SX3.out hb5 hltX3; obtain ⟨x0, x1, x2, x3, x4, x5, x6, x7, x8, x9⟩ := rn_cells sx; have fx := sx.frozen; dsimp only [Rn.zero] at x0 x1 x2 x3 x4 x5 x6 x7 x8 x9))
        all_goals
          go_upto_region 20 with fail
          obtain ⟨W9, hW9⟩ : ∃ x, ((((((((((v5.setCell ⟨X, 0, none⟩ (.int .i64 q.mss)).setCell ⟨X, 1, none⟩ (.int .i64 q.cw)).setCell ⟨X, 2, none⟩ (.int .i64 q.th)).setCell ⟨X, 3, none⟩ (.int .i64 q.ac)).setCell ⟨X, 4, none⟩ (.int .i64 q.una)).setCell ⟨X, 5, none⟩ (.int .i64 q.nx)).setCell ⟨X, 6, none⟩ (.int .i64 q.du)).setCell ⟨X, 7, none⟩ (.int .i64 q.rc)).setCell ⟨X, 8, none⟩ (.bool q.inn)).setCell ⟨X, 9, none⟩ (.int .i64 q.cut)) = x := ⟨_, rfl⟩
          have HD9 : Hid (DR B V w.heap.size r a len cap w W9) := by rw [← hW9]; exact DR.setX HDv.out (by omega) (by omega) (by omega) (by omega)
          have SX9 : Hid (Sits W9 X (rnCells q) 24) := by rw [← hW9]; exact put_sits sx q
          rw [hW9]
          clear hW9
          cases ok
          case false =>
            go_wp2_with fail
            go_roundw
            case rel => exact ⟨k + 1, r, by omega, by go_num, HG.out, HD9.out⟩
            case measure => simp [intOf]; omega
          case true =>
            have hgq := HK.out rfl
            have HGQ : Hid (q.good = true) := hgq
            clear hgq
            obtain ⟨q0, q1, q2, q3, q4, q5, q6, q7, q8, q9⟩ := rn_cells SX9.out
            obtain ⟨p0, p1, p2, p3, p4, p5, p6, p7, p8, p9⟩ := rn_cells (DR.sv HD9.out)
            have fv := Sits.frozen (DR.sv HD9.out)
            go_wp2_with fail
            go_roundw
            case rel => exact ⟨k + 1, q, by omega, by go_num, HGQ.out, DR.setV HD9.out (by omega) (by omega) (by omega)⟩
            case measure => simp [intOf]; omega
      · clear hgr
        go_upto_region 19 with fail
        go_region_held3 (fun w' => SRn V r w') (first | (with_reducible exact rn_cells (put_other (DR.sv HDv.out) hVXn q)) | (with_reducible exact rn_cells (DR.sv HDv.out)) | (with_reducible exact rn_cells (DR.sv HD3.out)) | (with_reducible exact rn_cells (DR.sv HD8.out)) | (with_reducible exact rn_cells (DR.sv (DR.drew HD8.out))) | fail)
          (first | (go_at_call 27; refine (once_any B a len cap _ (DR.cu (DR.drew HD8.out)) 6 (by omega) (by omega)).mono ?_; rintro e v3 ⟨zb, rfl, c3, o3⟩; have HD3 : Hid (DR B V w.heap.size r a len cap w v3) := DR.drawn (DR.drew HD8.out) (by omega) (by omega) o3 c3; have SX3 : Hid (Sits v3 X (rnCells Rn.zero) 24) := Sits.only (Sits.drew SX8.out) o3 (by omega); have hlt3 : V < v3.heap.size := Sits.lt (DR.sv HD3.out); have hltX3 : X < v3.heap.size := Sits.lt SX3.out; clear c3 o3; have HK0 : r.ackSB r.una = true → (r.ackS r.una zb).good = true := ackS_good; obtain ⟨q, hq⟩ : ∃ q, r.ackS r.una zb = q := ⟨_, rfl⟩; obtain ⟨ok, hok⟩ : ∃ o, r.ackSB r.una = o := ⟨_, rfl⟩; rw [hq, hok] at HK0; have HK : Hid (ok = true → q.good = true) := HK0; clear HK0) | (go_at_call 50; refine (sacked_any r r.una zb _).mono ?_; rintro e v5 ⟨rfl, hb5⟩; rw [hq, hok]; have HDv : Hid (DR B V w.heap.size r a len cap w v5) := DR.bel HD3.out hb5; have sx := Sits.below SX3.out hb5 hltX3; obtain ⟨x0, x1, x2, x3, x4, x5, x6, x7, x8, x9⟩ := rn_cells sx; have fx := sx.frozen; dsimp only [Rn.zero] at x0 x1 x2 x3 x4 x5 x6 x7 x8 x9))
        all_goals
          go_upto_region 20 with fail
          obtain ⟨W9, hW9⟩ : ∃ x, ((((((((((v5.setCell ⟨X, 0, none⟩ (.int .i64 q.mss)).setCell ⟨X, 1, none⟩ (.int .i64 q.cw)).setCell ⟨X, 2, none⟩ (.int .i64 q.th)).setCell ⟨X, 3, none⟩ (.int .i64 q.ac)).setCell ⟨X, 4, none⟩ (.int .i64 q.una)).setCell ⟨X, 5, none⟩ (.int .i64 q.nx)).setCell ⟨X, 6, none⟩ (.int .i64 q.du)).setCell ⟨X, 7, none⟩ (.int .i64 q.rc)).setCell ⟨X, 8, none⟩ (.bool q.inn)).setCell ⟨X, 9, none⟩ (.int .i64 q.cut)) = x := ⟨_, rfl⟩
          have HD9 : Hid (DR B V w.heap.size r a len cap w W9) := by rw [← hW9]; exact DR.setX HDv.out (by omega) (by omega) (by omega) (by omega)
          have SX9 : Hid (Sits W9 X (rnCells q) 24) := by rw [← hW9]; exact put_sits sx q
          rw [hW9]
          clear hW9
          cases ok
          case false =>
            go_wp2_with fail
            go_roundw
            case rel => exact ⟨k + 1, r, by omega, by go_num, HG.out, HD9.out⟩
            case measure => simp [intOf]; omega
          case true =>
            have hgq := HK.out rfl
            have HGQ : Hid (q.good = true) := hgq
            clear hgq
            obtain ⟨q0, q1, q2, q3, q4, q5, q6, q7, q8, q9⟩ := rn_cells SX9.out
            obtain ⟨p0, p1, p2, p3, p4, p5, p6, p7, p8, p9⟩ := rn_cells (DR.sv HD9.out)
            have fv := Sits.frozen (DR.sv HD9.out)
            go_wp2_with fail
            go_roundw
            case rel => exact ⟨k + 1, q, by omega, by go_num, HGQ.out, DR.setV HD9.out (by omega) (by omega) (by omega)⟩
            case measure => simp [intOf]; omega
      · clear hgr
        go_upto_region 9 with fail
        go_region_held3 (fun w' => SRn V r w') (first | (with_reducible exact rn_cells (put_other (DR.sv HDv.out) hVXn q)) | (with_reducible exact rn_cells (DR.sv HDv.out)) | (with_reducible exact rn_cells (DR.sv HD3.out)) | (with_reducible exact rn_cells (DR.sv HD2.out)) | (with_reducible exact rn_cells (DR.sv HD8.out)) | (with_reducible exact rn_cells (DR.sv (DR.drew HD8.out))) | fail)
          (first | (go_at_call 34; refine (below_any B a len cap _ (DR.cu (DR.drew HD8.out)) 3 (by omega) (by omega)).mono ?_; rintro e v2 ⟨d, rfl, d0, d1, c2, o2⟩; have HD2 : Hid (DR B V w.heap.size r a len cap w v2) := DR.drawn (DR.drew HD8.out) (by omega) (by omega) o2 c2; have SX2 : Hid (Sits v2 X (rnCells Rn.zero) 24) := Sits.only (Sits.drew SX8.out) o2 (by omega); have dm := Int.mul_nonneg d0 (show (0 : Int) ≤ r.mss by omega); have dm2 : d * r.mss ≤ 2 * r.mss := Int.mul_le_mul_of_nonneg_right (by omega) (by omega); have e1 : IntKind.i64.wrap (d * r.mss) = d * r.mss := wrap_id (by omega) (by omega); have e2 : IntKind.i64.wrap (r.una + d * r.mss) = r.una + d * r.mss := wrap_id (by omega) (by omega); clear c2 o2) | (go_at_call 27; refine (once_any B a len cap _ (DR.cu HD2.out) 6 (by omega) (by omega)).mono ?_; rintro e v3 ⟨zb, rfl, c3, o3⟩; have HD3 : Hid (DR B V w.heap.size r a len cap w v3) := DR.drawn HD2.out (by omega) (by omega) o3 c3; have SX3 : Hid (Sits v3 X (rnCells Rn.zero) 24) := Sits.only SX2.out o3 (by omega); have hlt3 : V < v3.heap.size := Sits.lt (DR.sv HD3.out); have hltX3 : X < v3.heap.size := Sits.lt SX3.out; clear c3 o3; have HK0 : r.ackSB (r.una + d * r.mss) = true → (r.ackS (r.una + d * r.mss) zb).good = true := ackS_good; obtain ⟨q, hq⟩ : ∃ q, r.ackS (r.una + d * r.mss) zb = q := ⟨_, rfl⟩; obtain ⟨ok, hok⟩ : ∃ o, r.ackSB (r.una + d * r.mss) = o := ⟨_, rfl⟩; rw [hq, hok] at HK0; have HK : Hid (ok = true → q.good = true) := HK0; clear HK0) | (go_at_call 50; refine (sacked_any r (r.una + d * r.mss) zb _).mono ?_; rintro e v5 ⟨rfl, hb5⟩; rw [hq, hok]; have HDv : Hid (DR B V w.heap.size r a len cap w v5) := DR.bel HD3.out hb5; have sx := Sits.below SX3.out hb5 hltX3; obtain ⟨x0, x1, x2, x3, x4, x5, x6, x7, x8, x9⟩ := rn_cells sx; have fx := sx.frozen; dsimp only [Rn.zero] at x0 x1 x2 x3 x4 x5 x6 x7 x8 x9))
        all_goals
          go_upto_region 20 with fail
          obtain ⟨W9, hW9⟩ : ∃ x, ((((((((((v5.setCell ⟨X, 0, none⟩ (.int .i64 q.mss)).setCell ⟨X, 1, none⟩ (.int .i64 q.cw)).setCell ⟨X, 2, none⟩ (.int .i64 q.th)).setCell ⟨X, 3, none⟩ (.int .i64 q.ac)).setCell ⟨X, 4, none⟩ (.int .i64 q.una)).setCell ⟨X, 5, none⟩ (.int .i64 q.nx)).setCell ⟨X, 6, none⟩ (.int .i64 q.du)).setCell ⟨X, 7, none⟩ (.int .i64 q.rc)).setCell ⟨X, 8, none⟩ (.bool q.inn)).setCell ⟨X, 9, none⟩ (.int .i64 q.cut)) = x := ⟨_, rfl⟩
          have HD9 : Hid (DR B V w.heap.size r a len cap w W9) := by rw [← hW9]; exact DR.setX HDv.out (by omega) (by omega) (by omega) (by omega)
          have SX9 : Hid (Sits W9 X (rnCells q) 24) := by rw [← hW9]; exact put_sits sx q
          rw [hW9]
          clear hW9
          cases ok
          case false =>
            go_wp2_with fail
            go_roundw
            case rel => exact ⟨k + 1, r, by omega, by go_num, HG.out, HD9.out⟩
            case measure => simp [intOf]; omega
          case true =>
            have hgq := HK.out rfl
            have HGQ : Hid (q.good = true) := hgq
            clear hgq
            obtain ⟨q0, q1, q2, q3, q4, q5, q6, q7, q8, q9⟩ := rn_cells SX9.out
            obtain ⟨p0, p1, p2, p3, p4, p5, p6, p7, p8, p9⟩ := rn_cells (DR.sv HD9.out)
            have fv := Sits.frozen (DR.sv HD9.out)
            go_wp2_with fail
            go_roundw
            case rel => exact ⟨k + 1, q, by omega, by go_num, HGQ.out, DR.setV HD9.out (by omega) (by omega) (by omega)⟩
            case measure => simp [intOf]; omega
      · clear hgr
        go_upto_region 9 with fail
        go_region_held3 (fun w' => SRn V r w') (first | (with_reducible exact rn_cells (put_other (DR.sv HDv.out) hVXn q)) | (with_reducible exact rn_cells (DR.sv HDv.out)) | (with_reducible exact rn_cells (DR.sv HD3.out)) | (with_reducible exact rn_cells (DR.sv HD2.out)) | (with_reducible exact rn_cells (DR.sv HD8.out)) | (with_reducible exact rn_cells (DR.sv (DR.drew HD8.out))) | fail)
          (first | (go_at_call 34; refine (below_any B a len cap _ (DR.cu (DR.drew HD8.out)) 3 (by omega) (by omega)).mono ?_; rintro e v2 ⟨d, rfl, d0, d1, c2, o2⟩; have HD2 : Hid (DR B V w.heap.size r a len cap w v2) := DR.drawn (DR.drew HD8.out) (by omega) (by omega) o2 c2; have SX2 : Hid (Sits v2 X (rnCells Rn.zero) 24) := Sits.only (Sits.drew SX8.out) o2 (by omega); have dm := Int.mul_nonneg d0 (show (0 : Int) ≤ r.mss by omega); have dm2 : d * r.mss ≤ 2 * r.mss := Int.mul_le_mul_of_nonneg_right (by omega) (by omega); have e1 : IntKind.i64.wrap (d * r.mss) = d * r.mss := wrap_id (by omega) (by omega); have e2 : IntKind.i64.wrap (r.una + d * r.mss) = r.una + d * r.mss := wrap_id (by omega) (by omega); clear c2 o2) | (go_at_call 27; refine (once_any B a len cap _ (DR.cu HD2.out) 6 (by omega) (by omega)).mono ?_; rintro e v3 ⟨zb, rfl, c3, o3⟩; have HD3 : Hid (DR B V w.heap.size r a len cap w v3) := DR.drawn HD2.out (by omega) (by omega) o3 c3; have SX3 : Hid (Sits v3 X (rnCells Rn.zero) 24) := Sits.only SX2.out o3 (by omega); have hlt3 : V < v3.heap.size := Sits.lt (DR.sv HD3.out); have hltX3 : X < v3.heap.size := Sits.lt SX3.out; clear c3 o3; have HK0 : r.ackSB (r.una + d * r.mss) = true → (r.ackS (r.una + d * r.mss) zb).good = true := ackS_good; obtain ⟨q, hq⟩ : ∃ q, r.ackS (r.una + d * r.mss) zb = q := ⟨_, rfl⟩; obtain ⟨ok, hok⟩ : ∃ o, r.ackSB (r.una + d * r.mss) = o := ⟨_, rfl⟩; rw [hq, hok] at HK0; have HK : Hid (ok = true → q.good = true) := HK0; clear HK0) | (go_at_call 50; refine (sacked_any r (r.una + d * r.mss) zb _).mono ?_; rintro e v5 ⟨rfl, hb5⟩; rw [hq, hok]; have HDv : Hid (DR B V w.heap.size r a len cap w v5) := DR.bel HD3.out hb5; have sx := Sits.below SX3.out hb5 hltX3; obtain ⟨x0, x1, x2, x3, x4, x5, x6, x7, x8, x9⟩ := rn_cells sx; have fx := sx.frozen; dsimp only [Rn.zero] at x0 x1 x2 x3 x4 x5 x6 x7 x8 x9))
        all_goals
          go_upto_region 20 with fail
          obtain ⟨W9, hW9⟩ : ∃ x, ((((((((((v5.setCell ⟨X, 0, none⟩ (.int .i64 q.mss)).setCell ⟨X, 1, none⟩ (.int .i64 q.cw)).setCell ⟨X, 2, none⟩ (.int .i64 q.th)).setCell ⟨X, 3, none⟩ (.int .i64 q.ac)).setCell ⟨X, 4, none⟩ (.int .i64 q.una)).setCell ⟨X, 5, none⟩ (.int .i64 q.nx)).setCell ⟨X, 6, none⟩ (.int .i64 q.du)).setCell ⟨X, 7, none⟩ (.int .i64 q.rc)).setCell ⟨X, 8, none⟩ (.bool q.inn)).setCell ⟨X, 9, none⟩ (.int .i64 q.cut)) = x := ⟨_, rfl⟩
          have HD9 : Hid (DR B V w.heap.size r a len cap w W9) := by rw [← hW9]; exact DR.setX HDv.out (by omega) (by omega) (by omega) (by omega)
          have SX9 : Hid (Sits W9 X (rnCells q) 24) := by rw [← hW9]; exact put_sits sx q
          rw [hW9]
          clear hW9
          cases ok
          case false =>
            go_wp2_with fail
            go_roundw
            case rel => exact ⟨k + 1, r, by omega, by go_num, HG.out, HD9.out⟩
            case measure => simp [intOf]; omega
          case true =>
            have hgq := HK.out rfl
            have HGQ : Hid (q.good = true) := hgq
            clear hgq
            obtain ⟨q0, q1, q2, q3, q4, q5, q6, q7, q8, q9⟩ := rn_cells SX9.out
            obtain ⟨p0, p1, p2, p3, p4, p5, p6, p7, p8, p9⟩ := rn_cells (DR.sv HD9.out)
            have fv := Sits.frozen (DR.sv HD9.out)
            go_wp2_with fail
            go_roundw
            case rel => exact ⟨k + 1, q, by omega, by go_num, HGQ.out, DR.setV HD9.out (by omega) (by omega) (by omega)⟩
            case measure => simp [intOf]; omega
    · obtain ⟨q0, q1, q2, q3, q4, q5, q6, q7, q8, q9⟩ := rn_cells dr.sv
      obtain ⟨p0, p1, p2, p3, p4, p5, p6, p7, p8, p9⟩ := rn_cells dr.sz
      have fz := dr.sz.frozen
      dsimp only [Rn.zero] at p0 p1 p2 p3 p4 p5 p6 p7 p8 p9
      clear dr hgr
      go_wp2_with fail
      refine bodyPost_ret (ret_rn (q := r) (t := 24) (B := w.heap.size) Try.results36 rfl ?_) rfl ⟨r, rfl, HG.out, ?_, ?_⟩
      · exact put_sits HD.out.sz r
      · exact (Cur.setNew (Cur.setNew (Cur.setNew (Cur.setNew (Cur.setNew (Cur.setNew (Cur.setNew (Cur.setNew (Cur.setNew (Cur.setNew HD.out.cu hB _) hB _) hB _) hB _) hB _) hB _) hB _) hB _) hB _) hB _)
      · exact (Only.setNew (Only.setNew (Only.setNew (Only.setNew (Only.setNew (Only.setNew (Only.setNew (Only.setNew (Only.setNew (Only.setNew HD.out.on (Nat.le_refl _) _) (Nat.le_refl _) _) (Nat.le_refl _) _) (Nat.le_refl _) _) (Nat.le_refl _) _) (Nat.le_refl _) _) (Nat.le_refl _) _) (Nat.le_refl _) _) (Nat.le_refl _) _) (Nat.le_refl _) _)

end Go.Proofs.Ytfflheebjbdnoae
