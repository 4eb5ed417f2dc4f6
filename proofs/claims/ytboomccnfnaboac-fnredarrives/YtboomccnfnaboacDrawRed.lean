/-
  WHAT THE DRAWS OF CHAPTER 4 ANSWER: whatever the bytes are, a Red of ints; l4draw's is one that is well.
-/
import Derived.Test.YtboomccnfnaboacDrawR0
import Derived.Test.YtboomccnfnaboacArriveS
import Derived.Deep.RegionWith
import Derived.Deep.Cut
namespace Go.Proofs.Ytboomccnfnaboac
open Go.RowKit
set_option linter.unusedVariables false

def inI (l h x : Int) : Prop := l ≤ x ∧ x ≤ h

theorem pick_most (B : Nat) (a : Option Addr) (len cap : Nat) (w : World) (hc : Cur w B a len cap) (L : Nat) (t : TypeId) (hs : Sits w L #[.int .i64 1, .int .i64 3000, .int .i64 9000] t) (hne : L ≠ B) :
    Calls Try.prog 13 #[.pointer (some ⟨B, 0, none⟩), .slice (some ⟨L, 0, none⟩) 3 3] w fun e w' => ∃ x : Int, e = .returned (.int .i64 x) ∧ inI 1 9000 x ∧ Cur w' B a len cap ∧ Only B w w' := by
  refine pick_sits (inI 1 9000) B a len cap w hc L 3 _ t hs hne rfl (by omega) (by omega) ?_
  intro v hv
  simp only [List.mem_cons, List.not_mem_nil, or_false] at hv
  rcases hv with rfl | rfl | rfl
  all_goals exact ⟨_, rfl, by unfold inI; omega⟩

/-- A Red, handed back. -/
theorem ret_r {fn : Func} {tmps : Array Value} {W : World} {i B : Nat} {q : Rd} {t : TypeId} (hr : fn.results = #[.cell i 24]) (hi : tmps[i]?.getD undef = .pointer (some ⟨B, 0, none⟩)) (hs : Sits W B (rdCells q) t) : (results fn tmps).run Try.prog W = .ok q.val W := by
  obtain ⟨c0, c1, c2, c3, c4⟩ := rd_cells hs
  simp [results, hr, hi, go_sem, c0, c1, c2, c3, c4]

theorem arrived_good {r : Rd} {b d : Int} (hm : r.may b d = true) : (r.arrived b d).good = true := by
  obtain ⟨⟨hg, hb⟩, hd⟩ : (r.good = true ∧ inR b 0 1048576 = true) ∧ inR d 0 65535 = true := by simpa [Rd.may] using hm
  obtain ⟨g1, g2, g3, g4, g5, g6, g7, g8, g9⟩ := r.good_iff.1 hg
  have hb' : 0 ≤ b ∧ b ≤ 1048576 := by simpa [inR] using hb
  have := avgF_bd g6 g7 hb'.1 hb'.2
  have hc : 0 ≤ cntF r b d ∧ cntF r b d ≤ 1000000 := by
    unfold cntF
    split
    · omega
    · split <;> omega
  unfold Rd.arrived
  rw [if_pos hm]
  exact (Rd.good_iff _).2 ⟨g1, g2, g3, g4, g5, this.1, this.2, hc.1, hc.2⟩
theorem Only.just {B V : Nat} {a w w' : World} (h : Only B a w) (hj : Just V w w') (hV : a.heap.size ≤ V) : Only B a w' :=
  ⟨hj.os.trans h.os, hj.tape.trans h.tape, hj.output.trans h.output, Nat.le_trans h.size hj.size, fun k hk hn => (hj.block k (Nat.lt_of_lt_of_le hk h.size) (by omega)).trans (h.block k hk hn)⟩
theorem Cur.just {B V : Nat} {w w' : World} {a : Option Addr} {len cap : Nat} (h : Cur w B a len cap) (hj : Just V w w') (hV : B < V) : Cur w' B a len cap := by
  obtain ⟨hB, hl, ⟨i, k, i0, i1, c0, c1, c2⟩, f1, f2, hcode⟩ := h
  have e : ∀ b x, b < V → b < w.heap.size → w'.cell? ⟨b, x, none⟩ = w.cell? ⟨b, x, none⟩ := fun b x hb hs => World.cell?_of_block (w := w) (hj.block b hs (by omega))
  have f : ∀ b x, b < V → b < w.heap.size → w'.frozen? ⟨b, x, none⟩ = w.frozen? ⟨b, x, none⟩ := fun b x hb hs => World.frozen?_of_block (w := w) (hj.block b hs (by omega))
  exact ⟨Nat.lt_of_lt_of_le hB hj.size, hl, ⟨i, k, i0, i1, (e _ _ hV hB).trans c0, (e _ _ hV hB).trans c1, (e _ _ hV hB).trans c2⟩, (f _ _ hV hB).trans f1, (f _ _ hV hB).trans f2, hcode.move fun b x hb => e b x (by omega) (by omega)⟩

set_option maxRecDepth 20000 in
set_option maxHeartbeats 4000000 in
theorem l4draw_any (B : Nat) (a : Option Addr) (len cap : Nat) (w : World) (hc : Cur w B a len cap) :
    Calls Try.prog 18 #[.pointer (some ⟨B, 0, none⟩)] w fun e w' => ∃ r : Rd, e = .returned r.val ∧ r.good = true ∧ Cur w' B a len cap ∧ Only B w w' := by
  have hB := hc.1
  have HC : Hid (Cur w B a len cap) := hc
  clear hc
  go_enter Try.func18, Try.ntmps18
  go_wp2_with fail
  refine Calls.mono (pick_sits (inI 1 3000) B a len cap _ ((Cur.alloc HC.out _ _).alloc _ _) _ 3 _ _ (Sits.new' (by simp)) ?ne ?n1 ?n2 ?n3 ?q) ?_
  case ne => simp; omega
  case n1 => rfl
  case n2 => omega
  case n3 => omega
  case q =>
    intro v hv
    simp only [List.mem_cons, List.not_mem_nil, or_false] at hv
    rcases hv with rfl | rfl | rfl
    all_goals exact ⟨_, rfl, by unfold inI; omega⟩
  rintro e w1 ⟨mn, rfl, hmn, c1, o1⟩
  have z1 : Sits w1 w.heap.size (rdCells Rd.zero) 24 := ((Sits.new w (rdCells Rd.zero) 24).alloc _).only o1 (by omega)
  replace o1 : Only B w w1 := (((Only.refl B w).alloc _).alloc _).trans o1
  have b1 := c1.1
  have C1 : Hid (Cur w1 B a len cap) := c1
  clear c1 HC
  go_wp2_with fail
  refine Calls.mono (pick_sits (inI 1 65536) B a len cap _ (Cur.alloc C1.out _ _) _ 4 _ _ (Sits.new' (by simp)) ?ne ?n1 ?n2 ?n3 ?q) ?_
  case ne => simp; omega
  case n1 => rfl
  case n2 => omega
  case n3 => omega
  case q =>
    intro v hv
    simp only [List.mem_cons, List.not_mem_nil, or_false] at hv
    rcases hv with rfl | rfl | rfl | rfl
    all_goals exact ⟨_, rfl, by unfold inI; omega⟩
  rintro e w2 ⟨mp, rfl, hmp, c2, o2⟩
  have z2 : Sits w2 w.heap.size (rdCells Rd.zero) 24 := (z1.alloc _).only o2 (by omega)
  replace o2 : Only B w w2 := (o1.alloc _).trans o2
  have b2 := c2.1
  have C2 : Hid (Cur w2 B a len cap) := c2
  clear c2 C1 o1 z1
  go_wp2_with fail
  obtain ⟨V, hV⟩ : ∃ V, w2.heap.size = V := ⟨_, rfl⟩
  obtain ⟨wv, hwv⟩ : ∃ x, w2.alloc (.cells (rdCells ⟨mn, 0, mp, 0, 0⟩) 24) = x := ⟨_, rfl⟩
  have s3 : Sits wv V (rdCells ⟨mn, 0, mp, 0, 0⟩) 24 := by rw [← hwv]; exact Sits.new' hV
  have z3 : Sits wv w.heap.size (rdCells Rd.zero) 24 := by rw [← hwv]; exact z2.alloc _
  have o3 : Only B w wv := by rw [← hwv]; exact o2.alloc _
  have C3 : Hid (Cur wv B a len cap) := by show Cur wv B a len cap; rw [← hwv]; exact Cur.alloc C2.out _ _
  have lV : w.heap.size < V := by rw [← hV]; exact z2.lt
  rw [hwv, hV]
  clear hwv hV C2 o2 z2
  have b3 := s3.lt
  obtain ⟨d0, d1, d2, d3, d4⟩ := rd_cells s3
  have fz := s3.frozen
  dsimp only at d0 d1 d2 d3 d4
  have S3 : Hid (Sits wv V (rdCells ⟨mn, 0, mp, 0, 0⟩) 24) := s3
  have Z3 : Hid (Sits wv w.heap.size (rdCells Rd.zero) 24) := z3
  have O3 : Hid (Only B w wv) := o3
  clear s3 z3 o3
  unfold inI at hmn hmp
  go_cut [] from 13 (fun wx => ∃ mx : Int, mn < mx ∧ mx ≤ 12000 ∧ Sits wx V (rdCells ⟨mn, mx, mp, 0, 0⟩) 24 ∧ Sits wx w.heap.size (rdCells Rd.zero) 24 ∧ Only B w wx ∧ Cur wx B a len cap)
  case first =>
    go_region_with (go_at_call 13; refine (pick_most B a len cap _ (Cur.drew (Cur.alloc C3.out _ _)) _ _ (Sits.drew (Sits.new' rfl)) (by omega)).mono ?_; rintro e w4 ⟨md, rfl, hmd, c4, o4⟩; unfold inI at hmd; have s4 : Sits w4 V (rdCells ⟨mn, 0, mp, 0, 0⟩) 24 := Sits.only (Sits.drew (Sits.alloc S3.out _)) o4 (by omega); obtain ⟨e0, e1, e2, e3, e4⟩ := rd_cells s4; have ez := s4.frozen; dsimp only at e0 e1 e2 e3 e4; have S4 : Hid (Sits w4 V (rdCells ⟨mn, 0, mp, 0, 0⟩) 24) := s4; have Z4 : Hid (Sits w4 w.heap.size (rdCells Rd.zero) 24) := Sits.only (Sits.drew (Sits.alloc Z3.out _)) o4 (by omega); have O4 : Hid (Only B w w4) := Only.trans (Only.drew (Only.alloc O3.out _)) o4; have C4 : Hid (Cur w4 B a len cap) := c4; clear s4 o4 c4)
    all_goals
      (go_wp2_with fail)
      go_meet
      case rel => exact ⟨mn + md, by omega, by omega, by rw [wrap_in (by omega) (by omega)]; exact Sits.set S4.out 1 _, Sits.other Z4.out (by omega) _, Only.setNew O4.out (by omega) _, Cur.setNew C4.out (by omega) _⟩
  clear d0 d1 d2 d3 d4 fz S3 Z3 O3 C3 b3
  obtain ⟨mx, x0, x1, s5, z5, o5, c5⟩ := hcut
  have hg5 : (Rd.mk mn mx mp 0 0).good = true := (Rd.good_iff _).2 ⟨hmn.1, x0, by show mx ≤ _; omega, hmp.1, hmp.2, by show (0 : Int) ≤ 0; omega, by show (0 : Int) ≤ _; omega, by show (0 : Int) ≤ 0; omega, by show (0 : Int) ≤ _; omega⟩
  have S5 : Hid (Sits wc V (rdCells ⟨mn, mx, mp, 0, 0⟩) 24 ∧ Sits wc w.heap.size (rdCells Rd.zero) 24 ∧ Only B w wc) := ⟨s5, z5, o5⟩
  clear s5 z5 o5
  go_wp2_with (go_at_call 14; refine (below_any B a len cap _ c5 30 (by omega) (by omega)).mono ?_; rintro e w6 ⟨n, rfl, n0, n1, c6, o6⟩; obtain ⟨n, rfl⟩ := Int.eq_ofNat_of_zero_le n0)
  go_loopw [5] (fun i wr => ∃ (k : Nat) (r : Rd), (k : Int) ≤ (n : Int) ∧ i = .int .i64 k ∧ r.good = true ∧ Sits wr V (rdCells r) 24 ∧ Sits wr w.heap.size (rdCells Rd.zero) 24 ∧ Only B w wr ∧ Cur wr B a len cap) (fun i _ => n - (intOf i).toNat)
  case atStart => exact ⟨0, _, by omega, rfl, hg5, Sits.only S5.out.1 o6 (by omega), Sits.only S5.out.2.1 o6 (by omega), Only.trans S5.out.2.2 o6, c6⟩
  case round =>
    obtain ⟨k, r, hk, rfl, hgr, s7, z7, o7, c7⟩ := hrel
    clear c5 c6 o6 S5 hg5
    have S7 : Hid (Sits wr V (rdCells r) 24 ∧ Sits wr w.heap.size (rdCells Rd.zero) 24 ∧ Only B w wr) := ⟨s7, z7, o7⟩
    have HG : Hid (r.good = true) := hgr
    by_cases hlt : (k : Int) < (n : Int)
    · clear s7 z7 o7 hgr
      have tok : True := trivial
      go_wp2_with (first | (go_at_call 14; have _t := tok; refine (below_any B a len cap _ c7 _ (by omega) (by omega)).mono ?_; clear tok c7; rintro e w8 ⟨x, rfl, y0, y1, c8, o8⟩) | (go_at_call 14; refine (below_any B a len cap _ c8 _ (by omega) (by omega)).mono ?_; clear c8; rintro e w9 ⟨y, rfl, t0, t1, c9, o9⟩; replace o8 := o8.trans o9; clear o9; have hm : r.may (x * 2000) y = true := by (unfold Rd.may; rw [HG.out]; simp [inR]; omega)) | (go_at_call 23; refine (l4arrive_any r (x * 2000) y V 24 _ hm (Sits.only S7.out.1 o8 (by omega))).mono ?_; rintro e w10 ⟨rfl, s10, j10⟩))
      go_roundw
      case rel => exact ⟨k + 1, _, by omega, by go_num, arrived_good hm, s10, (j10.block w.heap.size (Sits.lt (Sits.only S7.out.2.1 o8 (by omega))) (by omega)).trans (Sits.only S7.out.2.1 o8 (by omega)), (Only.trans S7.out.2.2 o8).just j10 (by omega), c9.just j10 (by omega)⟩
      case measure => simp [intOf]; omega
    · clear s7 z7 o7 hgr
      obtain ⟨g1, g2, g3, g4, g5, g6, g7, g8, g9⟩ := r.good_iff.1 HG.out
      go_wp2_with (first | (go_at_call 19; refine (once_any B a len cap _ c7 3 (by omega) (by omega)).mono ?_; rintro e w8 ⟨yes, rfl, c8, o8⟩; have s8 := Sits.only S7.out.1 o8 (by omega); have z8 := Sits.only S7.out.2.1 o8 (by omega); have O8 : Hid (Only B w w8) := Only.trans S7.out.2.2 o8; obtain ⟨d0, d1, d2, d3, d4⟩ := rd_cells s8; have fz := s8.frozen; obtain ⟨e0, e1, e2, e3, e4⟩ := rd_cells z8; have ez := z8.frozen; have l8 := s8.lt; have S8 : Hid (Sits w8 V (rdCells r) 24 ∧ Sits w8 w.heap.size (rdCells Rd.zero) 24) := ⟨s8, z8⟩; have C8 : Hid (Cur w8 B a len cap) := c8; clear s8 z8 c8 o8 S7 c7; dsimp only [Rd.zero] at e0 e1 e2 e3 e4))
      · have hw1 : IntKind.i64.wrap (r.mx - r.mn) = r.mx - r.mn := wrap_in (by omega) (by omega)
        have hw2 : IntKind.i64.wrap (r.mn * 65536) = r.mn * 65536 := wrap_in (by omega) (by omega)
        go_region_with (go_at_call 14; refine (below_any B a len cap _ (Cur.drew C8.out) _ (by omega) (by omega)).mono ?_; rintro e w9 ⟨y, rfl, y0, y1, c9, o9⟩; have hw3 : IntKind.i64.wrap (y * 65536) = y * 65536 := wrap_in (by omega) (by omega); have hw4 : IntKind.i64.wrap (r.mn * 65536 + y * 65536) = r.mn * 65536 + y * 65536 := wrap_in (by omega) (by omega); have s9 := Sits.only (Sits.drew S8.out.1) o9 (by omega); have z9 := Sits.only (Sits.drew S8.out.2) o9 (by omega); have O9 : Hid (Only B w w9) := Only.trans (Only.drew O8.out) o9; clear d0 d1 d2 d3 d4 fz e0 e1 e2 e3 e4 ez; obtain ⟨d0, d1, d2, d3, d4⟩ := rd_cells s9; have fz := s9.frozen; obtain ⟨e0, e1, e2, e3, e4⟩ := rd_cells z9; have ez := z9.frozen; have l9 := s9.lt; have S9 : Hid (Sits w9 V (rdCells r) 24 ∧ Sits w9 w.heap.size (rdCells Rd.zero) 24) := ⟨s9, z9⟩; have C9 : Hid (Cur w9 B a len cap) := c9; clear s9 z9 c9 o9; dsimp only [Rd.zero] at e0 e1 e2 e3 e4)
        all_goals
          go_wp2
          refine bodyPost_ret (ret_r (q := ⟨r.mn, r.mx, r.mp, r.mn * 65536 + y * 65536, r.cnt⟩) (t := 24) (B := w.heap.size) Try.results18 rfl ?_) rfl ⟨_, rfl, (Rd.good_iff _).2 ⟨g1, g2, g3, g4, g5, ?_, ?_, g8, g9⟩, ?_, ?_⟩
          · exact (((((Sits.set (Sits.other S9.out.2 (by omega) _) 0 _).set 1 _).set 2 _).set 3 _).set 4 _)
          · show 0 ≤ r.mn * 65536 + y * 65536; omega
          · show r.mn * 65536 + y * 65536 ≤ 68719476736; omega
          · exact ((((((Cur.setNew C9.out (by omega) _).setNew (by omega) _).setNew (by omega) _).setNew (by omega) _).setNew (by omega) _).setNew (by omega) _)
          · exact ((((((Only.setNew O9.out (by omega) _).setNew (Nat.le_refl _) _).setNew (Nat.le_refl _) _).setNew (Nat.le_refl _) _).setNew (Nat.le_refl _) _).setNew (Nat.le_refl _) _)
      · refine bodyPost_ret (ret_r (q := r) (t := 24) (B := w.heap.size) Try.results18 rfl ?_) rfl ⟨r, rfl, HG.out, ?_, ?_⟩
        · exact (((((Sits.set S8.out.2 0 _).set 1 _).set 2 _).set 3 _).set 4 _)
        · exact (((((Cur.setNew C8.out (by omega) _).setNew (by omega) _).setNew (by omega) _).setNew (by omega) _).setNew (by omega) _)
        · exact (((((Only.setNew O8.out (Nat.le_refl _) _).setNew (Nat.le_refl _) _).setNew (Nat.le_refl _) _).setNew (Nat.le_refl _) _).setNew (Nat.le_refl _) _)

end Go.Proofs.Ytboomccnfnaboac
