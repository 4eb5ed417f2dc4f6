/-
  WHAT THE DRAWS OF CHAPTER 6 ANSWER: whatever the bytes are, a Pie of ints; l6draw's is one that is well.
-/
import Derived.Test.YtkeccjomnmpcoacDoorDrawR1
import Derived.Test.YtkeccjomnmpcoacDoorPieUpS
import Derived.Deep.RegionWith
import Derived.Deep.Cut
namespace Go.Proofs.YtkeccjomnmpcoacDoor
open Go.RowKit
set_option linter.unusedVariables false

def inP (l h x : Int) : Prop := l ≤ x ∧ x ≤ h
def inP64 (x : Int) : Prop := -9223372036854775808 ≤ x ∧ x ≤ 9223372036854775807

theorem pick6q (Q : Int → Prop) (B : Nat) (a : Option Addr) (len cap : Nat) (w : World) (hc : Cur w B a len cap) (L : Nat) (t : TypeId) (x y z u v r : Int) (hs : Sits w L #[.int .i64 x, .int .i64 y, .int .i64 z, .int .i64 u, .int .i64 v, .int .i64 r] t) (hne : L ≠ B) (hx : Q x) (hy : Q y) (hz : Q z) (hu : Q u) (hv : Q v) (hr : Q r) :
    Calls Tryd.prog 13 #[.pointer (some ⟨B, 0, none⟩), .slice (some ⟨L, 0, none⟩) 6 6] w fun e w' => ∃ x : Int, e = .returned (.int .i64 x) ∧ Q x ∧ Cur w' B a len cap ∧ Only B w w' := by
  refine pick_sits Q B a len cap w hc L 6 _ t hs hne rfl (by omega) (by omega) ?_
  intro k hk
  simp only [List.mem_cons, List.not_mem_nil, or_false] at hk
  rcases hk with rfl | rfl | rfl | rfl | rfl | rfl
  · exact ⟨_, rfl, hx⟩
  · exact ⟨_, rfl, hy⟩
  · exact ⟨_, rfl, hz⟩
  · exact ⟨_, rfl, hu⟩
  · exact ⟨_, rfl, hv⟩
  · exact ⟨_, rfl, hr⟩

/-- A Pie, handed back. -/
theorem ret_p6 {fn : Func} {tmps : Array Value} {W : World} {i B : Nat} {q : Pe} {t : TypeId} (hr : fn.results = #[.cell i 24]) (hi : tmps[i]?.getD undef = .pointer (some ⟨B, 0, none⟩)) (hs : Sits W B (peCells q) t) : (results fn tmps).run Tryd.prog W = .ok q.val W := by
  obtain ⟨c0, c1, c2, c3⟩ := pe_cells hs
  simp [results, hr, hi, go_sem, c0, c1, c2, c3]

theorem Only.both {B V : Nat} {a w w' : World} (h : Only B a w) (hj : Only V w w') (hV : a.heap.size ≤ V) : Only B a w' :=
  ⟨hj.os.trans h.os, hj.tape.trans h.tape, hj.output.trans h.output, Nat.le_trans h.size hj.size, fun k hk hn => (hj.block k (Nat.lt_of_lt_of_le hk h.size) (by omega)).trans (h.block k hk hn)⟩
theorem Cur.both {B V : Nat} {w w' : World} {a : Option Addr} {len cap : Nat} (h : Cur w B a len cap) (hj : Only V w w') (hV : B < V) : Cur w' B a len cap := by
  obtain ⟨hB, hl, ⟨i, k, i0, i1, c0, c1, c2⟩, f1, f2, hcode⟩ := h
  have e : ∀ b x, b < V → b < w.heap.size → w'.cell? ⟨b, x, none⟩ = w.cell? ⟨b, x, none⟩ := fun b x hb hs => World.cell?_of_block (w := w) (hj.block b hs (by omega))
  have f : ∀ b x, b < V → b < w.heap.size → w'.frozen? ⟨b, x, none⟩ = w.frozen? ⟨b, x, none⟩ := fun b x hb hs => World.frozen?_of_block (w := w) (hj.block b hs (by omega))
  exact ⟨Nat.lt_of_lt_of_le hB hj.size, hl, ⟨i, k, i0, i1, (e _ _ hV hB).trans c0, (e _ _ hV hB).trans c1, (e _ _ hV hB).trans c2⟩, (f _ _ hV hB).trans f1, (f _ _ hV hB).trans f2, hcode.move fun b x hb => e b x (by omega) (by omega)⟩

set_option maxRecDepth 20000 in
set_option maxHeartbeats 4000000 in
theorem l6draw_any (B : Nat) (a : Option Addr) (len cap : Nat) (w : World) (hc : Cur w B a len cap) :
    Calls Tryd.prog 17 #[.pointer (some ⟨B, 0, none⟩)] w fun e w' => ∃ r : Pe, e = .returned r.val ∧ r.good = true ∧ Cur w' B a len cap ∧ Only B w w' := by
  have hB := hc.1
  have HC : Hid (Cur w B a len cap) := hc
  clear hc
  go_enter Tryd.func17, Tryd.ntmps17
  go_wp2_with fail
  refine Calls.mono (pick3q (inP 1 1000000000) B a len cap _ ((Cur.alloc HC.out _ _).alloc _ _) _ _ 15000000 1000000 20000000 (Sits.new' (by simp)) ?ne ?q1 ?q2 ?q3) ?_
  case ne => simp; omega
  case q1 => unfold inP; omega
  case q2 => unfold inP; omega
  case q3 => unfold inP; omega
  rintro e w1 ⟨tg, rfl, htg, c1, o1⟩
  have z1 : Sits w1 w.heap.size (peCells Pe.zero) 24 := ((Sits.new w (peCells Pe.zero) 24).alloc _).only o1 (by omega)
  replace o1 : Only B w w1 := (((Only.refl B w).alloc _).alloc _).trans o1
  have b1 := c1.1
  have C1 : Hid (Cur w1 B a len cap) := c1
  clear c1 HC
  go_wp2_with fail
  refine Calls.mono (pick4q (inP 0 150000000) B a len cap _ (Cur.alloc C1.out _ _) _ _ 0 150000000 15000000 3 (Sits.new' (by simp)) ?ne ?q1 ?q2 ?q3 ?q4) ?_
  case ne => simp; omega
  case q1 => unfold inP; omega
  case q2 => unfold inP; omega
  case q3 => unfold inP; omega
  case q4 => unfold inP; omega
  rintro e w2 ⟨bu, rfl, hbu, c2, o2⟩
  have z2 : Sits w2 w.heap.size (peCells Pe.zero) 24 := (z1.alloc _).only o2 (by omega)
  replace o2 : Only B w w2 := (o1.alloc _).trans o2
  have b2 := c2.1
  have C2 : Hid (Cur w2 B a len cap) := c2
  clear c2 C1 o1 z1
  unfold inP at htg hbu
  go_wp2_with fail
  obtain ⟨V, hV⟩ : ∃ V, w2.heap.size = V := ⟨_, rfl⟩
  obtain ⟨wv, hwv⟩ : ∃ x, w2.alloc (.cells (peCells ⟨tg, 0, 0, bu⟩) 24) = x := ⟨_, rfl⟩
  have s3 : Sits wv V (peCells ⟨tg, 0, 0, bu⟩) 24 := by rw [← hwv]; exact Sits.new' hV
  have z3 : Sits wv w.heap.size (peCells Pe.zero) 24 := by rw [← hwv]; exact z2.alloc _
  have o3 : Only B w wv := by rw [← hwv]; exact o2.alloc _
  have c3 : Cur wv B a len cap := by rw [← hwv]; exact Cur.alloc C2.out _ _
  have lV : w.heap.size < V := by rw [← hV]; exact z2.lt
  rw [hwv, hV]
  clear hwv hV C2 o2 z2
  have hg3 : (Pe.mk tg 0 0 bu).good = true := (Pe.good_iff _).2 ⟨htg.1, htg.2, by show (0 : Int) ≤ 0; omega, by show (0 : Int) ≤ _; omega, by show (0 : Int) ≤ 0; omega, by show (0 : Int) ≤ _; omega, hbu.1, hbu.2⟩
  have S3 : Hid (Sits wv V (peCells ⟨tg, 0, 0, bu⟩) 24 ∧ Sits wv w.heap.size (peCells Pe.zero) 24 ∧ Only B w wv) := ⟨s3, z3, o3⟩
  clear s3 z3 o3
  refine (below_any B a len cap _ c3 20 (by omega) (by omega)).mono ?_
  rintro e w4 ⟨n, rfl, n0, n1, c4, o4⟩
  obtain ⟨n, rfl⟩ := Int.eq_ofNat_of_zero_le n0
  go_wp2_with fail
  go_loopw [5] (fun i wr => ∃ (k : Nat) (r : Pe), (k : Int) ≤ (n : Int) ∧ i = .int .i64 k ∧ r.good = true ∧ Sits wr V (peCells r) 24 ∧ Sits wr w.heap.size (peCells Pe.zero) 24 ∧ Only B w wr ∧ Cur wr B a len cap) (fun i _ => n - (intOf i).toNat)
  case atStart => exact ⟨0, _, by omega, rfl, hg3, Sits.only S3.out.1 o4 (by omega), Sits.only S3.out.2.1 o4 (by omega), Only.trans S3.out.2.2 o4, c4⟩
  case round =>
    obtain ⟨k, r, hk, rfl, hgr, s7, z7, o7, c7⟩ := hrel
    clear c3 c4 o4 S3 hg3
    have S7 : Hid (Sits wr V (peCells r) 24 ∧ Sits wr w.heap.size (peCells Pe.zero) 24 ∧ Only B w wr) := ⟨s7, z7, o7⟩
    have HG : Hid (r.good = true) := hgr
    have l7 := s7.lt
    by_cases hlt : (k : Int) < (n : Int)
    · clear s7 z7 o7 hgr
      go_wp2_with (first | (go_at_call 19; refine (below_any B a len cap _ c7 60000000 (by omega) (by omega)).mono ?_; clear c7; rintro e w8 ⟨x, rfl, y0, y1, c8, o8⟩; have l8 := o8.size; have S8 : Hid (Sits w8 V (peCells r) 24 ∧ Sits w8 w.heap.size (peCells Pe.zero) 24 ∧ Only B w w8) := ⟨Sits.only S7.out.1 o8 (by omega), Sits.only S7.out.2.1 o8 (by omega), Only.trans S7.out.2.2 o8⟩; clear S7 o8))
      refine Calls.mono (pick6q (inP 0 10000000000) B a len cap _ (Cur.alloc c8 _ _) _ _ 0 1000000 20000000 40000000 300000000 x (Sits.new' rfl) ?ne ?q1 ?q2 ?q3 ?q4 ?q5 ?q6) ?_
      case ne => omega
      case q1 => unfold inP; omega
      case q2 => unfold inP; omega
      case q3 => unfold inP; omega
      case q4 => unfold inP; omega
      case q5 => unfold inP; omega
      case q6 => unfold inP; omega
      rintro e w9 ⟨d, rfl, hd, c9, o9⟩
      unfold inP at hd
      have S9 : Hid (Sits w9 V (peCells r) 24 ∧ Sits w9 w.heap.size (peCells Pe.zero) 24 ∧ Only B w w9) := ⟨Sits.only (Sits.alloc S8.out.1 _) o9 (by omega), Sits.only (Sits.alloc S8.out.2.1 _) o9 (by omega), Only.trans (Only.alloc S8.out.2.2 _) o9⟩
      clear S8 o9 c8
      go_wp2_with (go_at_call 21; refine (l6update_any V r d 24 _ S9.out.1 HG.out hd.1 hd.2).mono ?_; rintro e w10 ⟨rfl, s10, o10⟩)
      go_roundw
      case rel => exact ⟨k + 1, _, by omega, by go_num, next_good HG.out hd.1 hd.2, s10, Sits.only S9.out.2.1 o10 (by omega), Only.both S9.out.2.2 o10 (by omega), c9.both o10 (by omega)⟩
      case measure => simp [intOf]; omega
    · obtain ⟨d0, d1, d2, d3⟩ := pe_cells s7
      obtain ⟨e0, e1, e2, e3⟩ := pe_cells z7
      have ez := z7.frozen
      dsimp only [Pe.zero] at e0 e1 e2 e3
      clear s7 z7 o7 hgr
      go_wp2_with fail
      refine bodyPost_ret (ret_p6 (q := r) (t := 24) (B := w.heap.size) Tryd.results17 rfl ?_) rfl ⟨r, rfl, HG.out, ?_, ?_⟩
      · exact ((((Sits.set S7.out.2.1 0 _).set 1 _).set 2 _).set 3 _)
      · exact ((((Cur.setNew c7 (by omega) _).setNew (by omega) _).setNew (by omega) _).setNew (by omega) _)
      · exact ((((Only.setNew S7.out.2.2 (Nat.le_refl _) _).setNew (Nat.le_refl _) _).setNew (Nat.le_refl _) _).setNew (Nat.le_refl _) _)

theorem pe_good_in {r : Pe} (h : r.good = true) : r.In := by
  obtain ⟨g1, g2, g3, g4, g5, g6, g7, g8⟩ := r.good_iff.1 h
  unfold Pe.In; omega

set_option maxRecDepth 20000 in
set_option maxHeartbeats 4000000 in
theorem l6bent_any (B : Nat) (a : Option Addr) (len cap : Nat) (w : World) (hc : Cur w B a len cap) :
    Calls Tryd.prog 12 #[.pointer (some ⟨B, 0, none⟩)] w fun e w' => ∃ r : Pe, e = .returned r.val ∧ r.In ∧ Cur w' B a len cap ∧ Only B w w' := by
  have hB := hc.1
  have HC : Hid (Cur (w.alloc (.cells (peCells Pe.zero) 24)) B a len cap) := Cur.alloc hc _ _
  have HO : Hid (Only B w (w.alloc (.cells (peCells Pe.zero) 24))) := (Only.refl B w).alloc _
  have HZ : Hid (Sits (w.alloc (.cells (peCells Pe.zero) 24)) w.heap.size (peCells Pe.zero) 24) := Sits.new _ _ _
  clear hc
  go_enter Tryd.func12, Tryd.ntmps12
  go_wp2_with (go_at_call 17; refine (l6draw_any B a len cap _ HC.out).mono ?_; rintro e w1 ⟨r, rfl, hg, c1, o1⟩)
  obtain ⟨V, hV⟩ : ∃ V, w1.heap.size = V := ⟨_, rfl⟩
  obtain ⟨wv, hwv⟩ : ∃ x, w1.alloc (.cells (peCells r) 24) = x := ⟨_, rfl⟩
  have z1 := Sits.only HZ.out o1 (by omega)
  have lV : w.heap.size < V := by rw [← hV]; exact z1.lt
  have S2 : Hid (Sits wv V (peCells r) 24 ∧ Sits wv w.heap.size (peCells Pe.zero) 24 ∧ Only B w wv) := by
    rw [← hwv]
    exact ⟨Sits.new' hV, z1.alloc _, (HO.out.trans o1).alloc _⟩
  have c2 : Cur wv B a len cap := by rw [← hwv]; exact c1.alloc _ _
  rw [hwv, hV]
  have HI : Hid r.In := pe_good_in hg
  clear hwv hV HC HO HZ z1 c1 o1 hg
  refine (once_any B a len cap _ c2 8 (by omega) (by omega)).mono ?_
  rintro e w3 ⟨yes, rfl, c3, o3⟩
  have S3 : Hid (Sits w3 V (peCells r) 24 ∧ Sits w3 w.heap.size (peCells Pe.zero) 24 ∧ Only B w w3) := ⟨Sits.only S2.out.1 o3 (by omega), Sits.only S2.out.2.1 o3 (by omega), Only.trans S2.out.2.2 o3⟩
  clear S2 c2 o3
  cases yes
  case false =>
    obtain ⟨d0, d1, d2, d3⟩ := pe_cells S3.out.1
    have fz := Sits.frozen S3.out.1
    obtain ⟨e0, e1, e2, e3⟩ := pe_cells S3.out.2.1
    have ez := Sits.frozen S3.out.2.1
    dsimp only [Pe.zero] at e0 e1 e2 e3
    go_wp2_with fail
    refine bodyPost_ret (ret_p6 (q := r) (t := 24) (B := w.heap.size) Tryd.results12 rfl ?_) rfl ⟨r, rfl, HI.out, ?_, ?_⟩
    · exact ((((Sits.set S3.out.2.1 0 _).set 1 _).set 2 _).set 3 _)
    · exact ((((Cur.setNew c3 (by omega) _).setNew (by omega) _).setNew (by omega) _).setNew (by omega) _)
    · exact ((((Only.setNew S3.out.2.2 (Nat.le_refl _) _).setNew (Nat.le_refl _) _).setNew (Nat.le_refl _) _).setNew (Nat.le_refl _) _)
  case true =>
    go_wp2_with fail
    refine (below_any B a len cap _ c3 4 (by omega) (by omega)).mono ?_
    rintro e w4 ⟨x, rfl, x0, x1, c4, o4⟩
    have S4 : Hid (Sits w4 V (peCells r) 24 ∧ Sits w4 w.heap.size (peCells Pe.zero) 24 ∧ Only B w w4) := ⟨Sits.only S3.out.1 o4 (by omega), Sits.only S3.out.2.1 o4 (by omega), Only.trans S3.out.2.2 o4⟩
    clear S3 c3 o4
    have hx : x = 0 ∨ x = 1 ∨ x = 2 ∨ x = 3 := by omega
    have l4 := Sits.lt S4.out.1
    rcases hx with rfl | rfl | rfl | rfl
    · go_wp2_with fail
      refine Calls.mono (pick3q inP64 B a len cap _ (Cur.alloc c4 _ _) _ _ (0) (1000000000) (1000000001) (Sits.new' rfl) ?ne ?q0 ?q1 ?q2) ?_
      case ne => omega
      case q0 => unfold inP64; omega
      case q1 => unfold inP64; omega
      case q2 => unfold inP64; omega
      rintro e w5 ⟨y, rfl, hy, c5, o5⟩
      have s5 := Sits.only (Sits.alloc S4.out.1 _) o5 (by omega)
      have z5 := Sits.only (Sits.alloc S4.out.2.1 _) o5 (by omega)
      have O5 : Hid (Only B w w5) := Only.trans (Only.alloc S4.out.2.2 _) o5
      have l5 := s5.lt
      obtain ⟨d0, d1, d2, d3⟩ := pe_cells s5
      have fz := s5.frozen
      obtain ⟨e0, e1, e2, e3⟩ := pe_cells z5
      have ez := z5.frozen
      dsimp only [Pe.zero] at e0 e1 e2 e3
      have S5 : Hid (Sits w5 V (peCells r) 24 ∧ Sits w5 w.heap.size (peCells Pe.zero) 24) := ⟨s5, z5⟩
      have C5 : Hid (Cur w5 B a len cap) := c5
      clear s5 z5 c5 o5 S4 c4
      go_wp2_with fail
      refine bodyPost_ret (ret_p6 (q := ⟨y, r.pr, r.od, r.bu⟩) (t := 24) (B := w.heap.size) Tryd.results12 rfl ?_) rfl ⟨_, rfl, ⟨hy, HI.out.2.1, HI.out.2.2.1, HI.out.2.2.2⟩, ?_, ?_⟩
      · exact ((((Sits.set (Sits.other S5.out.2 (by omega) _) 0 _).set 1 _).set 2 _).set 3 _)
      · exact (((((Cur.setNew C5.out (by omega) _).setNew (by omega) _).setNew (by omega) _).setNew (by omega) _).setNew (by omega) _)
      · exact (((((Only.setNew O5.out (by omega) _).setNew (Nat.le_refl _) _).setNew (Nat.le_refl _) _).setNew (Nat.le_refl _) _).setNew (Nat.le_refl _) _)
    · go_wp2_with fail
      refine Calls.mono (pick3q inP64 B a len cap _ (Cur.alloc c4 _ _) _ _ (-1) (2147483648) (2147483649) (Sits.new' rfl) ?ne ?q0 ?q1 ?q2) ?_
      case ne => omega
      case q0 => unfold inP64; omega
      case q1 => unfold inP64; omega
      case q2 => unfold inP64; omega
      rintro e w5 ⟨y, rfl, hy, c5, o5⟩
      have s5 := Sits.only (Sits.alloc S4.out.1 _) o5 (by omega)
      have z5 := Sits.only (Sits.alloc S4.out.2.1 _) o5 (by omega)
      have O5 : Hid (Only B w w5) := Only.trans (Only.alloc S4.out.2.2 _) o5
      have l5 := s5.lt
      obtain ⟨d0, d1, d2, d3⟩ := pe_cells s5
      have fz := s5.frozen
      obtain ⟨e0, e1, e2, e3⟩ := pe_cells z5
      have ez := z5.frozen
      dsimp only [Pe.zero] at e0 e1 e2 e3
      have S5 : Hid (Sits w5 V (peCells r) 24 ∧ Sits w5 w.heap.size (peCells Pe.zero) 24) := ⟨s5, z5⟩
      have C5 : Hid (Cur w5 B a len cap) := c5
      clear s5 z5 c5 o5 S4 c4
      go_wp2_with fail
      refine bodyPost_ret (ret_p6 (q := ⟨r.tg, y, r.od, r.bu⟩) (t := 24) (B := w.heap.size) Tryd.results12 rfl ?_) rfl ⟨_, rfl, ⟨HI.out.1, hy, HI.out.2.2.1, HI.out.2.2.2⟩, ?_, ?_⟩
      · exact ((((Sits.set (Sits.other S5.out.2 (by omega) _) 0 _).set 1 _).set 2 _).set 3 _)
      · exact (((((Cur.setNew C5.out (by omega) _).setNew (by omega) _).setNew (by omega) _).setNew (by omega) _).setNew (by omega) _)
      · exact (((((Only.setNew O5.out (by omega) _).setNew (Nat.le_refl _) _).setNew (Nat.le_refl _) _).setNew (Nat.le_refl _) _).setNew (Nat.le_refl _) _)
    · go_wp2_with fail
      refine Calls.mono (pick3q inP64 B a len cap _ (Cur.alloc c4 _ _) _ _ (-1) (10000000000) (10000000001) (Sits.new' rfl) ?ne ?q0 ?q1 ?q2) ?_
      case ne => omega
      case q0 => unfold inP64; omega
      case q1 => unfold inP64; omega
      case q2 => unfold inP64; omega
      rintro e w5 ⟨y, rfl, hy, c5, o5⟩
      have s5 := Sits.only (Sits.alloc S4.out.1 _) o5 (by omega)
      have z5 := Sits.only (Sits.alloc S4.out.2.1 _) o5 (by omega)
      have O5 : Hid (Only B w w5) := Only.trans (Only.alloc S4.out.2.2 _) o5
      have l5 := s5.lt
      obtain ⟨d0, d1, d2, d3⟩ := pe_cells s5
      have fz := s5.frozen
      obtain ⟨e0, e1, e2, e3⟩ := pe_cells z5
      have ez := z5.frozen
      dsimp only [Pe.zero] at e0 e1 e2 e3
      have S5 : Hid (Sits w5 V (peCells r) 24 ∧ Sits w5 w.heap.size (peCells Pe.zero) 24) := ⟨s5, z5⟩
      have C5 : Hid (Cur w5 B a len cap) := c5
      clear s5 z5 c5 o5 S4 c4
      go_wp2_with fail
      refine bodyPost_ret (ret_p6 (q := ⟨r.tg, r.pr, y, r.bu⟩) (t := 24) (B := w.heap.size) Tryd.results12 rfl ?_) rfl ⟨_, rfl, ⟨HI.out.1, HI.out.2.1, hy, HI.out.2.2.2⟩, ?_, ?_⟩
      · exact ((((Sits.set (Sits.other S5.out.2 (by omega) _) 0 _).set 1 _).set 2 _).set 3 _)
      · exact (((((Cur.setNew C5.out (by omega) _).setNew (by omega) _).setNew (by omega) _).setNew (by omega) _).setNew (by omega) _)
      · exact (((((Only.setNew O5.out (by omega) _).setNew (Nat.le_refl _) _).setNew (Nat.le_refl _) _).setNew (Nat.le_refl _) _).setNew (Nat.le_refl _) _)
    · go_wp2_with fail
      refine Calls.mono (pick2q inP64 B a len cap _ (Cur.alloc c4 _ _) _ _ (-1) (150000001) (Sits.new' rfl) ?ne ?q0 ?q1) ?_
      case ne => omega
      case q0 => unfold inP64; omega
      case q1 => unfold inP64; omega
      rintro e w5 ⟨y, rfl, hy, c5, o5⟩
      have s5 := Sits.only (Sits.alloc S4.out.1 _) o5 (by omega)
      have z5 := Sits.only (Sits.alloc S4.out.2.1 _) o5 (by omega)
      have O5 : Hid (Only B w w5) := Only.trans (Only.alloc S4.out.2.2 _) o5
      have l5 := s5.lt
      obtain ⟨d0, d1, d2, d3⟩ := pe_cells s5
      have fz := s5.frozen
      obtain ⟨e0, e1, e2, e3⟩ := pe_cells z5
      have ez := z5.frozen
      dsimp only [Pe.zero] at e0 e1 e2 e3
      have S5 : Hid (Sits w5 V (peCells r) 24 ∧ Sits w5 w.heap.size (peCells Pe.zero) 24) := ⟨s5, z5⟩
      have C5 : Hid (Cur w5 B a len cap) := c5
      clear s5 z5 c5 o5 S4 c4
      go_wp2_with fail
      refine bodyPost_ret (ret_p6 (q := ⟨r.tg, r.pr, r.od, y⟩) (t := 24) (B := w.heap.size) Tryd.results12 rfl ?_) rfl ⟨_, rfl, ⟨HI.out.1, HI.out.2.1, HI.out.2.2.1, hy⟩, ?_, ?_⟩
      · exact ((((Sits.set (Sits.other S5.out.2 (by omega) _) 0 _).set 1 _).set 2 _).set 3 _)
      · exact (((((Cur.setNew C5.out (by omega) _).setNew (by omega) _).setNew (by omega) _).setNew (by omega) _).setNew (by omega) _)
      · exact (((((Only.setNew O5.out (by omega) _).setNew (Nat.le_refl _) _).setNew (Nat.le_refl _) _).setNew (Nat.le_refl _) _).setNew (Nat.le_refl _) _)

end Go.Proofs.YtkeccjomnmpcoacDoor
