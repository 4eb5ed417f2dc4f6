/-
  WHAT THE DRAWS OF CHAPTER 11 ANSWER: whatever the bytes are, l11rtt's Rtt is one that is well.
-/
import Derived.Test.YthdlpgehojdhkafRttS
import Derived.Test.YthdlpgehojdhkafDrawR1
import Derived.Deep.RegionHeld3
import Derived.Deep.Cut
namespace Go.Proofs.Ythdlpgehojdhkaf
open Go.RowKit
set_option linter.unusedVariables false

/-- The draw's variables: the answer's box, the Rtt's, the cursor. -/
structure DT (B V Z : Nat) (r : Rt) (a : Option Addr) (len cap : Nat) (w W : World) : Prop where
  sv : Sits W V (rtCells r) 24
  sz : Sits W Z (rtCells Rt.zero) 24
  on : Only B w W
  cu : Cur W B a len cap

theorem DT.bel {B V Z : Nat} {r : Rt} {a : Option Addr} {len cap : Nat} {w W W' : World} (h : DT B V Z r a len cap w W) (hb : Below W.heap.size W W') : DT B V Z r a len cap w W' :=
  ⟨h.sv.below hb h.sv.lt, h.sz.below hb h.sz.lt, h.on.trans (onlyR hb), by
    obtain ⟨hB, hl, ⟨i, k, i0, i1, c0, c1, c2⟩, f1, f2, hcode⟩ := h.cu
    have e : ∀ b x, b < W.heap.size → W'.cell? ⟨b, x, none⟩ = W.cell? ⟨b, x, none⟩ := fun b x hs => World.cell?_of_block (w := W) (hb.block b hs)
    have f : ∀ b x, b < W.heap.size → W'.frozen? ⟨b, x, none⟩ = W.frozen? ⟨b, x, none⟩ := fun b x hs => World.frozen?_of_block (w := W) (hb.block b hs)
    exact ⟨Nat.lt_of_lt_of_le hB hb.size, hl, ⟨i, k, i0, i1, (e _ _ hB).trans c0, (e _ _ hB).trans c1, (e _ _ hB).trans c2⟩, (f _ _ hB).trans f1, (f _ _ hB).trans f2, hcode.move fun b x hb' => e b x (by omega)⟩⟩

theorem DT.drawn {B V Z : Nat} {r : Rt} {a : Option Addr} {len cap : Nat} {w W W' : World} (h : DT B V Z r a len cap w W) (hV : V ≠ B) (hZ : Z ≠ B) (ho : Only B W W') (hc : Cur W' B a len cap) : DT B V Z r a len cap w W' :=
  ⟨h.sv.only ho hV, h.sz.only ho hZ, h.on.trans ho, hc⟩

theorem DT.alloc {B V Z : Nat} {r : Rt} {a : Option Addr} {len cap : Nat} {w W : World} (h : DT B V Z r a len cap w W) (c : Array Value) (t : TypeId) : DT B V Z r a len cap w (W.alloc (.cells c t)) :=
  ⟨h.sv.alloc _, h.sz.alloc _, h.on.alloc _, h.cu.alloc _ _⟩

/-- The Rtt's box was turned, nothing else. -/
theorem DT.turn {B V Z : Nat} {r q : Rt} {a : Option Addr} {len cap : Nat} {w W W' : World} (h : DT B V Z r a len cap w W) (hZ : Z ≠ V) (hw : w.heap.size ≤ V) (hB : B < V) (hs : Sits W' V (rtCells q) 24) (ho : Only V W W') : DT B V Z q a len cap w W' :=
  ⟨hs, h.sz.only ho hZ, ⟨ho.os.trans h.on.os, ho.tape.trans h.on.tape, ho.output.trans h.on.output, Nat.le_trans h.on.size ho.size, fun k hk hn => (ho.block k (Nat.lt_of_lt_of_le hk h.on.size) (by omega)).trans (h.on.block k hk hn)⟩, by
    obtain ⟨hB', hl, ⟨i, k, i0, i1, c0, c1, c2⟩, f1, f2, hcode⟩ := h.cu
    have hne : ∀ b, b ≤ B → b ≠ V := fun b hb => by omega
    have e : ∀ b x, b ≤ B → W'.cell? ⟨b, x, none⟩ = W.cell? ⟨b, x, none⟩ := fun b x hs => World.cell?_of_block (w := W) (ho.block b (by omega) (hne b hs))
    have f : ∀ b x, b ≤ B → W'.frozen? ⟨b, x, none⟩ = W.frozen? ⟨b, x, none⟩ := fun b x hs => World.frozen?_of_block (w := W) (ho.block b (by omega) (hne b hs))
    exact ⟨Nat.lt_of_lt_of_le hB' ho.size, hl, ⟨i, k, i0, i1, (e _ _ (Nat.le_refl _)).trans c0, (e _ _ (Nat.le_refl _)).trans c1, (e _ _ (Nat.le_refl _)).trans c2⟩, (f _ _ (Nat.le_refl _)).trans f1, (f _ _ (Nat.le_refl _)).trans f2, hcode.move fun b x hb' => e b x (by omega)⟩⟩


def inU (x : Int) : Prop := 0 ≤ x ∧ x ≤ 60000000
def inZr (x : Int) : Prop := -9223372036854775808 ≤ x ∧ x ≤ 9223372036854775807
def inS (x : Int) : Prop := -1 ≤ x ∧ x ≤ 60000001

set_option maxRecDepth 100000 in
set_option maxHeartbeats 8000000 in
theorem l11rtt_any (B : Nat) (a : Option Addr) (len cap : Nat) (w : World) (hc : Cur w B a len cap) :
    Calls Try.prog 15 #[.pointer (some ⟨B, 0, none⟩)] w fun e w' => ∃ r : Rt, e = .returned r.val ∧ r.good = true ∧ Cur w' B a len cap ∧ Only B w w' := by
  have hB := hc.1
  have HC : Hid (Cur w B a len cap) := hc
  clear hc
  go_enter Try.func15, Try.ntmps15
  go_wp2_with fail
  refine (srttNew_any _).mono ?_
  rintro e w2 ⟨rfl, b2⟩
  have hg0 : (Rt.mk false 0 0 1000000).good = true := by decide
  obtain ⟨r0, hr0⟩ : ∃ r, Rt.mk false 0 0 1000000 = r := ⟨_, rfl⟩
  rw [hr0] at hg0 ⊢
  clear hr0
  go_wp2_with fail
  obtain ⟨V, hV⟩ : ∃ V, w2.heap.size = V := ⟨_, rfl⟩
  obtain ⟨wv, hwv⟩ : ∃ x, w2.alloc (.cells (rtCells r0) 24) = x := ⟨_, rfl⟩
  have z1 : Sits (w.alloc (.cells #[.bool false, .int .i64 0, .int .i64 0, .int .i64 0] 24)) w.heap.size (rtCells Rt.zero) 24 := Sits.new _ _ _
  have z2 := z1.below b2 z1.lt
  have lV : w.heap.size < V := by rw [← hV]; exact z2.lt
  have D0 : DT B V w.heap.size r0 a len cap w wv := by
    have h1 : DT B w.heap.size w.heap.size Rt.zero a len cap w (w.alloc (.cells #[.bool false, .int .i64 0, .int .i64 0, .int .i64 0] 24)) := ⟨z1, z1, (Only.refl B w).alloc _, Cur.alloc HC.out _ _⟩
    have h2 := (h1.bel b2).alloc (rtCells r0) 24
    rw [hwv] at h2
    exact ⟨by rw [← hwv]; exact Sits.new' hV, h2.sz, h2.on, h2.cu⟩
  rw [hwv, hV]
  clear hwv hV z1 z2 b2 HC
  have HG0 : Hid (r0.good = true) := hg0
  have HD0 : Hid (DT B V w.heap.size r0 a len cap w wv) := D0
  clear hg0 D0
  refine (below_any B a len cap _ HD0.out.cu 9 (by omega) (by omega)).mono ?_
  rintro e w4 ⟨n, rfl, n0, n1, c4, o4⟩
  obtain ⟨n, rfl⟩ := Int.eq_ofNat_of_zero_le n0
  have HD4 : Hid (DT B V w.heap.size r0 a len cap w w4) := HD0.out.drawn (by omega) (by omega) o4 c4
  clear c4 o4 HD0
  go_wp2_with fail
  go_loopw [5] (fun i wr => ∃ (k : Nat) (r : Rt), (k : Int) ≤ (n : Int) ∧ i = .int .i64 k ∧ r.good = true ∧ DT B V w.heap.size r a len cap w wr) (fun i _ => n - (intOf i).toNat)
  case atStart => exact ⟨0, r0, by omega, rfl, HG0.out, HD4.out⟩
  case round =>
    obtain ⟨k, r, hk, rfl, hgr, dr⟩ := hrel
    clear HG0 HD4
    have HG : Hid (r.good = true) := hgr
    have HD : Hid (DT B V w.heap.size r a len cap w wr) := dr
    have ls := dr.sv.lt
    by_cases hlt : (k : Int) < (n : Int)
    · clear hgr dr
      go_wp2_with fail
      refine (below_any B a len cap _ HD.out.cu 1048576 (by omega) (by omega)).mono ?_
      rintro e w8 ⟨y, rfl, y0, y1, c8, o8⟩
      have HD8 : Hid (DT B V w.heap.size r a len cap w w8) := DT.drawn HD.out (by omega) (by omega) o8 c8
      clear c8 o8 HD ls
      have l8 := Sits.lt (DT.sv HD8.out)
      go_wp2_with fail
      refine Calls.mono (pick_sits inU B a len cap _ (Cur.alloc (DT.cu HD8.out) _ _) _ 6 _ _ (Sits.new' rfl) ?ne rfl (by omega) (by omega) ?hq) ?_
      case ne => omega
      case hq =>
        intro v hv
        simp only [List.mem_cons, List.not_mem_nil, or_false] at hv
        rcases hv with rfl | rfl | rfl | rfl | rfl | rfl
        all_goals exact ⟨_, rfl, by unfold inU; omega⟩
      rintro e w9 ⟨us, rfl, hu, c9, o9⟩
      have HD9 : Hid (DT B V w.heap.size r a len cap w w9) := DT.drawn (DT.alloc HD8.out _ _) (by omega) (by omega) o9 c9
      unfold inU at hu
      obtain ⟨u0, u1⟩ := hu
      clear c9 o9 HD8
      go_wp2_with (go_at_call 20; refine (l11sample_any V r us HG.out u0 u1 _ (DT.sv HD9.out)).mono ?_; rintro e w10 ⟨rfl, s10, o10⟩; have HD10 : Hid (DT B V w.heap.size (r.nxt us) a len cap w w10) := DT.turn HD9.out (by omega) (by omega) (by omega) s10 o10; clear s10 o10)
      go_roundw
      case rel => exact ⟨k + 1, r.nxt us, by omega, by go_num, Rt.nxt_good HG.out u0 u1, HD10.out⟩
      case measure => simp [intOf]; omega
    · clear hgr dr
      go_wp2_with fail
      refine (once_any B a len cap _ (DT.cu HD.out) 4 (by omega) (by omega)).mono ?_
      rintro e w8 ⟨yes, rfl, c8, o8⟩
      have HD8 : Hid (DT B V w.heap.size r a len cap w w8) := DT.drawn HD.out (by omega) (by omega) o8 c8
      clear c8 o8 HD ls
      have l8 := Sits.lt (DT.sv HD8.out)
      obtain ⟨q0, q1, q2, q3⟩ := rt_cells (DT.sv HD8.out)
      have fv := Sits.frozen (DT.sv HD8.out)
      obtain ⟨p0, p1, p2, p3⟩ := rt_cells (DT.sz HD8.out)
      have fz := Sits.frozen (DT.sz HD8.out)
      dsimp only [Rt.zero] at p0 p1 p2 p3
      cases yes
      case false =>
        go_wp2_with fail
        refine bodyPost_ret (ret_rtv (q := r) (t := 24) (B := w.heap.size) Try.results15 rfl ?_) rfl ⟨r, rfl, HG.out, ?_, ?_⟩
        · exact putRt_sits (DT.sz HD8.out) r
        · exact (Cur.setNew (Cur.setNew (Cur.setNew (Cur.setNew (DT.cu HD8.out) hB _) hB _) hB _) hB _)
        · exact (Only.setNew (Only.setNew (Only.setNew (Only.setNew (DT.on HD8.out) (Nat.le_refl _) _) (Nat.le_refl _) _) (Nat.le_refl _) _) (Nat.le_refl _) _)
      case true =>
        obtain ⟨g1, g2, g3, g4, g5, g6, g7⟩ := r.good_iff.1 HG.out
        clear g7
        obtain ⟨X, hX⟩ : ∃ X, mnF (2 * r.ro) 60000000 = X := ⟨_, rfl⟩
        have hbk : r.bak = Rt.mk r.hs r.mn r.vr X := by unfold Rt.bak; rw [hX]
        have HGB : Hid ((Rt.mk r.hs r.mn r.vr X).good = true) := by show _ = true; rw [← hbk]; exact Rt.bak_good HG.out
        clear hbk
        go_wp2_with (go_at_call 21; refine (rless_any _ _ _).mono ?_; rintro e w9 ⟨rfl, hw9⟩; replace hw9 := hw9.symm; subst hw9)
        refine bodyPost_ret (ret_rtv (q := Rt.mk r.hs r.mn r.vr X) (t := 24) (B := w.heap.size) Try.results15 rfl ?_) rfl ⟨Rt.mk r.hs r.mn r.vr X, rfl, HGB.out, ?_, ?_⟩
        · exact putRt_sits (Sits.other (DT.sz HD8.out) (by omega) _) (Rt.mk r.hs r.mn r.vr X)
        · exact (Cur.setNew (Cur.setNew (Cur.setNew (Cur.setNew (Cur.setNew (DT.cu HD8.out) (by omega) _) hB _) hB _) hB _) hB _)
        · exact (Only.setNew (Only.setNew (Only.setNew (Only.setNew (Only.setNew (DT.on HD8.out) (by omega) _) (Nat.le_refl _) _) (Nat.le_refl _) _) (Nat.le_refl _) _) (Nat.le_refl _) _)

set_option maxRecDepth 100000 in
set_option maxHeartbeats 8000000 in
theorem l11bentRtt_any (B : Nat) (a : Option Addr) (len cap : Nat) (w : World) (hc : Cur w B a len cap) :
    Calls Try.prog 10 #[.pointer (some ⟨B, 0, none⟩)] w fun e w' => ∃ r : Rt, e = .returned r.val ∧ r.In ∧ Cur w' B a len cap ∧ Only B w w' := by
  have hB := hc.1
  have HC : Hid (Cur (w.alloc (.cells (rtCells Rt.zero) 24)) B a len cap) := Cur.alloc hc _ _
  have HO : Hid (Only B w (w.alloc (.cells (rtCells Rt.zero) 24))) := (Only.refl B w).alloc _
  have HZ : Hid (Sits (w.alloc (.cells (rtCells Rt.zero) 24)) w.heap.size (rtCells Rt.zero) 24) := Sits.new _ _ _
  clear hc
  go_enter Try.func10, Try.ntmps10
  go_wp2_with (go_at_call 15; refine (l11rtt_any B a len cap _ HC.out).mono ?_; rintro e w1 ⟨r, rfl, hg, c1, o1⟩)
  obtain ⟨V, hV⟩ : ∃ V, w1.heap.size = V := ⟨_, rfl⟩
  obtain ⟨wv, hwv⟩ : ∃ x, w1.alloc (.cells (rtCells r) 24) = x := ⟨_, rfl⟩
  have z1 := Sits.only HZ.out o1 (by omega)
  have lV : w.heap.size < V := by rw [← hV]; exact z1.lt
  have D2 : Hid (DT B V w.heap.size r a len cap w wv) := by
    rw [← hwv]
    exact ⟨Sits.new' hV, z1.alloc _, (HO.out.trans o1).alloc _, c1.alloc _ _⟩
  rw [hwv, hV]
  have HI : Hid r.In := rt_good_in hg
  clear hwv hV HC HO HZ z1 c1 o1 hg
  refine (once_any B a len cap _ (DT.cu D2.out) 8 (by omega) (by omega)).mono ?_
  rintro e w3 ⟨yes, rfl, c3, o3⟩
  have D3 : Hid (DT B V w.heap.size r a len cap w w3) := DT.drawn D2.out (by omega) (by omega) o3 c3
  clear D2 c3 o3
  cases yes
  case false =>
    obtain ⟨q0, q1, q2, q3⟩ := rt_cells (DT.sv D3.out)
    have fv := Sits.frozen (DT.sv D3.out)
    obtain ⟨p0, p1, p2, p3⟩ := rt_cells (DT.sz D3.out)
    have fz := Sits.frozen (DT.sz D3.out)
    dsimp only [Rt.zero] at p0 p1 p2 p3
    go_wp2_with fail
    refine bodyPost_ret (ret_rtv (q := r) (t := 24) (B := w.heap.size) Try.results10 rfl ?_) rfl ⟨r, rfl, HI.out, ?_, ?_⟩
    · exact putRt_sits (DT.sz D3.out) r
    · exact (Cur.setNew (Cur.setNew (Cur.setNew (Cur.setNew (DT.cu D3.out) hB _) hB _) hB _) hB _)
    · exact (Only.setNew (Only.setNew (Only.setNew (Only.setNew (DT.on D3.out) (Nat.le_refl _) _) (Nat.le_refl _) _) (Nat.le_refl _) _) (Nat.le_refl _) _)
  case true =>
    go_wp2_with fail
    refine (below_any B a len cap _ (DT.cu D3.out) 4 (by omega) (by omega)).mono ?_
    rintro e w4 ⟨y, rfl, y0, y1, c4, o4⟩
    have D4 : Hid (DT B V w.heap.size r a len cap w w4) := DT.drawn D3.out (by omega) (by omega) o4 c4
    clear D3 c4 o4
    have hy : y = 0 ∨ y = 1 ∨ y = 2 ∨ y = 3 := by omega
    have l4 := Sits.lt (DT.sv D4.out)
    rcases hy with rfl | rfl | rfl | rfl
    · go_wp2_with fail
      refine Calls.mono (pick2q inZr B a len cap _ (Cur.alloc (DT.cu D4.out) _ _) _ _ (-1) (60000001) (Sits.new' rfl) ?ne ?q0 ?q1) ?_
      case ne => omega
      case q0 => unfold inZr; omega
      case q1 => unfold inZr; omega
      rintro e w5 ⟨z, rfl, hz, c5, o5⟩
      have D5 : Hid (DT B V w.heap.size r a len cap w w5) := DT.drawn (DT.alloc D4.out _ _) (by omega) (by omega) o5 c5
      clear D4 c5 o5
      obtain ⟨q0, q1, q2, q3⟩ := rt_cells (DT.sv D5.out)
      have fv := Sits.frozen (DT.sv D5.out)
      obtain ⟨p0, p1, p2, p3⟩ := rt_cells (DT.sz D5.out)
      have fz := Sits.frozen (DT.sz D5.out)
      dsimp only [Rt.zero] at p0 p1 p2 p3
      go_wp2_with fail
      refine bodyPost_ret (ret_rtv (q := (Rt.mk r.hs z r.vr r.ro)) (t := 24) (B := w.heap.size) Try.results10 rfl ?_) rfl ⟨(Rt.mk r.hs z r.vr r.ro), rfl, ⟨hz, HI.out.2.1, HI.out.2.2⟩, ?_, ?_⟩
      · exact putRt_sits (Sits.other (DT.sz D5.out) (by omega) _) (Rt.mk r.hs z r.vr r.ro)
      · exact (Cur.setNew (Cur.setNew (Cur.setNew (Cur.setNew (Cur.setNew (DT.cu D5.out) (by omega) _) hB _) hB _) hB _) hB _)
      · exact (Only.setNew (Only.setNew (Only.setNew (Only.setNew (Only.setNew (DT.on D5.out) (by omega) _) (Nat.le_refl _) _) (Nat.le_refl _) _) (Nat.le_refl _) _) (Nat.le_refl _) _)
    · go_wp2_with fail
      refine Calls.mono (pick2q inZr B a len cap _ (Cur.alloc (DT.cu D4.out) _ _) _ _ (-1) (60000001) (Sits.new' rfl) ?ne ?q0 ?q1) ?_
      case ne => omega
      case q0 => unfold inZr; omega
      case q1 => unfold inZr; omega
      rintro e w5 ⟨z, rfl, hz, c5, o5⟩
      have D5 : Hid (DT B V w.heap.size r a len cap w w5) := DT.drawn (DT.alloc D4.out _ _) (by omega) (by omega) o5 c5
      clear D4 c5 o5
      obtain ⟨q0, q1, q2, q3⟩ := rt_cells (DT.sv D5.out)
      have fv := Sits.frozen (DT.sv D5.out)
      obtain ⟨p0, p1, p2, p3⟩ := rt_cells (DT.sz D5.out)
      have fz := Sits.frozen (DT.sz D5.out)
      dsimp only [Rt.zero] at p0 p1 p2 p3
      go_wp2_with fail
      refine bodyPost_ret (ret_rtv (q := (Rt.mk r.hs r.mn z r.ro)) (t := 24) (B := w.heap.size) Try.results10 rfl ?_) rfl ⟨(Rt.mk r.hs r.mn z r.ro), rfl, ⟨HI.out.1, hz, HI.out.2.2⟩, ?_, ?_⟩
      · exact putRt_sits (Sits.other (DT.sz D5.out) (by omega) _) (Rt.mk r.hs r.mn z r.ro)
      · exact (Cur.setNew (Cur.setNew (Cur.setNew (Cur.setNew (Cur.setNew (DT.cu D5.out) (by omega) _) hB _) hB _) hB _) hB _)
      · exact (Only.setNew (Only.setNew (Only.setNew (Only.setNew (Only.setNew (DT.on D5.out) (by omega) _) (Nat.le_refl _) _) (Nat.le_refl _) _) (Nat.le_refl _) _) (Nat.le_refl _) _)
    · go_wp2_with fail
      refine Calls.mono (pick3q inZr B a len cap _ (Cur.alloc (DT.cu D4.out) _ _) _ _ (0) (999999) (60000001) (Sits.new' rfl) ?ne ?q0 ?q1 ?q2) ?_
      case ne => omega
      case q0 => unfold inZr; omega
      case q1 => unfold inZr; omega
      case q2 => unfold inZr; omega
      rintro e w5 ⟨z, rfl, hz, c5, o5⟩
      have D5 : Hid (DT B V w.heap.size r a len cap w w5) := DT.drawn (DT.alloc D4.out _ _) (by omega) (by omega) o5 c5
      clear D4 c5 o5
      obtain ⟨q0, q1, q2, q3⟩ := rt_cells (DT.sv D5.out)
      have fv := Sits.frozen (DT.sv D5.out)
      obtain ⟨p0, p1, p2, p3⟩ := rt_cells (DT.sz D5.out)
      have fz := Sits.frozen (DT.sz D5.out)
      dsimp only [Rt.zero] at p0 p1 p2 p3
      go_wp2_with fail
      refine bodyPost_ret (ret_rtv (q := (Rt.mk r.hs r.mn r.vr z)) (t := 24) (B := w.heap.size) Try.results10 rfl ?_) rfl ⟨(Rt.mk r.hs r.mn r.vr z), rfl, ⟨HI.out.1, HI.out.2.1, hz⟩, ?_, ?_⟩
      · exact putRt_sits (Sits.other (DT.sz D5.out) (by omega) _) (Rt.mk r.hs r.mn r.vr z)
      · exact (Cur.setNew (Cur.setNew (Cur.setNew (Cur.setNew (Cur.setNew (DT.cu D5.out) (by omega) _) hB _) hB _) hB _) hB _)
      · exact (Only.setNew (Only.setNew (Only.setNew (Only.setNew (Only.setNew (DT.on D5.out) (by omega) _) (Nat.le_refl _) _) (Nat.le_refl _) _) (Nat.le_refl _) _) (Nat.le_refl _) _)
    · skip
      obtain ⟨q0, q1, q2, q3⟩ := rt_cells (DT.sv D4.out)
      have fv := Sits.frozen (DT.sv D4.out)
      obtain ⟨p0, p1, p2, p3⟩ := rt_cells (DT.sz D4.out)
      have fz := Sits.frozen (DT.sz D4.out)
      dsimp only [Rt.zero] at p0 p1 p2 p3
      go_wp2_with fail
      refine bodyPost_ret (ret_rtv (q := (Rt.mk (!r.hs) r.mn r.vr r.ro)) (t := 24) (B := w.heap.size) Try.results10 rfl ?_) rfl ⟨(Rt.mk (!r.hs) r.mn r.vr r.ro), rfl, HI.out, ?_, ?_⟩
      · exact putRt_sits (Sits.other (DT.sz D4.out) (by omega) _) (Rt.mk (!r.hs) r.mn r.vr r.ro)
      · exact (Cur.setNew (Cur.setNew (Cur.setNew (Cur.setNew (Cur.setNew (DT.cu D4.out) (by omega) _) hB _) hB _) hB _) hB _)
      · exact (Only.setNew (Only.setNew (Only.setNew (Only.setNew (Only.setNew (DT.on D4.out) (by omega) _) (Nat.le_refl _) _) (Nat.le_refl _) _) (Nat.le_refl _) _) (Nat.le_refl _) _)

set_option maxRecDepth 100000 in
set_option maxHeartbeats 4000000 in
theorem drawRttSample_any (a : Option Addr) (len cap : Nat) (w : World) (hl : len ≤ 9223372036854775807) (hcode : Code w w.heap.size a len) :
    Calls Try.prog 4 #[.slice a len cap] w fun e w' => ∃ (r : Rt) (n : Int), e = .returned (.tuple #[r.val, .int .i64 n]) ∧ r.In ∧ (-1 ≤ n ∧ n ≤ 60000001) ∧ Below w.heap.size w w' := by
  obtain ⟨W, hW⟩ : ∃ x, w.alloc (.cells (rtCells Rt.zero) 24) = x := ⟨_, rfl⟩
  have hsz : W.heap.size = w.heap.size + 1 := by rw [← hW]; simp
  have z0 : Sits W w.heap.size (rtCells Rt.zero) 24 := by rw [← hW]; exact Sits.new _ _ _
  have b0 : Below w.heap.size w W := by rw [← hW]; exact (Below.refl _ _).alloc (Nat.le_refl _) _
  have hcd : Code W W.heap.size a len := by
    rw [hsz, ← hW]
    rcases hcode with h | ⟨b, off, ha, hb, hk⟩
    · exact .inl h
    · refine .inr ⟨b, off, ha, by omega, fun k hk' => ?_⟩
      obtain ⟨v, v0, v1, hv⟩ := hk k hk'
      exact ⟨v, v0, v1, (World.cell?_alloc_old w _ ⟨b, off + k, none⟩ (by show b ≠ _; omega)).trans hv⟩
  clear hcode
  go_enter Try.func4, Try.ntmps4
  go_wp2_with fail
  rw [show w.alloc (.cells #[.bool false, .int .i64 0, .int .i64 0, .int .i64 0] 24) = W from hW]
  refine (new_any a len cap W hl hcd).mono ?_
  rintro e w1 ⟨rfl, c1, b1⟩
  obtain ⟨B, hB⟩ : ∃ B, W.heap.size = B := ⟨_, rfl⟩
  rw [hB] at c1 ⊢
  have z1 := z0.below b1 z0.lt
  replace b1 := b0.trans (b1.mono b0.size)
  have lB : w.heap.size < B := by omega
  clear hcd hW z0 b0 hB
  go_wp2_with fail
  refine (l11bentRtt_any B a len cap _ c1).mono ?_
  rintro e w2 ⟨r, rfl, hr, c2, o2⟩
  have z2 := z1.only o2 (by omega)
  replace b1 := b1.trans (o2.below (by omega) b1.size)
  clear z1 c1 o2
  go_wp2_with fail
  refine (below_any B a len cap _ c2 4194304 (by omega) (by omega)).mono ?_
  rintro e w3 ⟨y, rfl, y0, y1, c3, o3⟩
  have z3 := z2.only o3 (by omega)
  replace b1 := b1.trans (o3.below (by omega) b1.size)
  clear z2 c2 o3
  have hl3 := c3.1
  go_wp2_with fail
  refine Calls.mono (pick_sits inS B a len cap _ (Cur.alloc c3 _ _) _ 7 _ _ (Sits.new' rfl) ?ne rfl (by omega) (by omega) ?hq) ?_
  case ne => omega
  case hq =>
    intro v hv
    simp only [List.mem_cons, List.not_mem_nil, or_false] at hv
    rcases hv with rfl | rfl | rfl | rfl | rfl | rfl | rfl
    all_goals exact ⟨_, rfl, by unfold inS; omega⟩
  rintro e w4 ⟨n, rfl, hn, c4, o4⟩
  unfold inS at hn
  have z4 := (z3.alloc _).only o4 (by omega)
  have b4 := (b1.alloc b1.size _).trans (o4.below (by omega) (by have := b1.size; simp; omega))
  obtain ⟨p0, p1, p2, p3⟩ := rt_cells z4
  have fz := z4.frozen
  dsimp only [Rt.zero] at p0 p1 p2 p3
  clear b1 z3 c3 c4 o4
  go_wp2_with fail
  refine bodyPost_ret (ret_rti (q := r) (b := n) (t := 24) (B := w.heap.size) Try.results4 rfl rfl ?_) rfl ⟨r, n, rfl, hr, hn, ?_⟩
  · exact putRt_sits z4 r
  · exact putRt_below b4 (Nat.le_refl _) r

end Go.Proofs.Ythdlpgehojdhkaf
