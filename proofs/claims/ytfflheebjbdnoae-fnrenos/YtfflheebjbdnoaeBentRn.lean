/-
  l9bent, DrawTimedOut OF THE SPECIFICATION: whatever the bytes are, a Reno of ints.
-/
import Derived.Test.YtfflheebjbdnoaeDrawRn2
namespace Go.Proofs.Ytfflheebjbdnoae
open Go.RowKit
set_option linter.unusedVariables false

def in64 (x : Int) : Prop := -9223372036854775808 ≤ x ∧ x ≤ 9223372036854775807

set_option maxRecDepth 100000 in
set_option maxHeartbeats 8000000 in
theorem l9bent_any (B : Nat) (a : Option Addr) (len cap : Nat) (w : World) (hc : Cur w B a len cap) :
    Calls Try.prog 25 #[.pointer (some ⟨B, 0, none⟩)] w fun e w' => ∃ r : Rn, e = .returned r.val ∧ r.In ∧ Cur w' B a len cap ∧ Only B w w' := by
  have hB := hc.1
  have HC : Hid (Cur (w.alloc (.cells (rnCells Rn.zero) 24)) B a len cap) := Cur.alloc hc _ _
  have HO : Hid (Only B w (w.alloc (.cells (rnCells Rn.zero) 24))) := (Only.refl B w).alloc _
  have HZ : Hid (Sits (w.alloc (.cells (rnCells Rn.zero) 24)) w.heap.size (rnCells Rn.zero) 24) := Sits.new _ _ _
  clear hc
  go_enter Try.func25, Try.ntmps25
  go_wp2_with (go_at_call 36; refine (l9draw_any B a len cap _ HC.out).mono ?_; rintro e w1 ⟨r, rfl, hg, c1, o1⟩)
  obtain ⟨V, hV⟩ : ∃ V, w1.heap.size = V := ⟨_, rfl⟩
  obtain ⟨wv, hwv⟩ : ∃ x, w1.alloc (.cells (rnCells r) 24) = x := ⟨_, rfl⟩
  have z1 := Sits.only HZ.out o1 (by omega)
  have lV : w.heap.size < V := by rw [← hV]; exact z1.lt
  have D2 : Hid (DR B V w.heap.size r a len cap w wv) := by
    rw [← hwv]
    exact ⟨Sits.new' hV, z1.alloc _, (HO.out.trans o1).alloc _, c1.alloc _ _⟩
  rw [hwv, hV]
  have HI : Hid r.In := rn_good_in hg
  have hf := good_fit hg
  unfold Rn.fit at hf
  clear hwv hV HC HO HZ z1 c1 o1 hg
  refine (once_any B a len cap _ (DR.cu D2.out) 8 (by omega) (by omega)).mono ?_
  rintro e w3 ⟨yes, rfl, c3, o3⟩
  have D3 : Hid (DR B V w.heap.size r a len cap w w3) := DR.drawn D2.out (by omega) (by omega) o3 c3
  clear D2 c3 o3
  cases yes
  case false =>
    obtain ⟨q0, q1, q2, q3, q4, q5, q6, q7, q8, q9⟩ := rn_cells (DR.sv D3.out)
    have fv := Sits.frozen (DR.sv D3.out)
    obtain ⟨p0, p1, p2, p3, p4, p5, p6, p7, p8, p9⟩ := rn_cells (DR.sz D3.out)
    have fz := Sits.frozen (DR.sz D3.out)
    dsimp only [Rn.zero] at p0 p1 p2 p3 p4 p5 p6 p7 p8 p9
    go_wp2_with fail
    refine bodyPost_ret (ret_rn (q := r) (t := 24) (B := w.heap.size) Try.results25 rfl ?_) rfl ⟨r, rfl, HI.out, ?_, ?_⟩
    · exact put_sits (DR.sz D3.out) r
    · exact (Cur.setNew (Cur.setNew (Cur.setNew (Cur.setNew (Cur.setNew (Cur.setNew (Cur.setNew (Cur.setNew (Cur.setNew (Cur.setNew (DR.cu D3.out) hB _) hB _) hB _) hB _) hB _) hB _) hB _) hB _) hB _) hB _)
    · exact (Only.setNew (Only.setNew (Only.setNew (Only.setNew (Only.setNew (Only.setNew (Only.setNew (Only.setNew (Only.setNew (Only.setNew (DR.on D3.out) (Nat.le_refl _) _) (Nat.le_refl _) _) (Nat.le_refl _) _) (Nat.le_refl _) _) (Nat.le_refl _) _) (Nat.le_refl _) _) (Nat.le_refl _) _) (Nat.le_refl _) _) (Nat.le_refl _) _) (Nat.le_refl _) _)
  case true =>
    go_wp2_with fail
    refine (below_any B a len cap _ (DR.cu D3.out) 6 (by omega) (by omega)).mono ?_
    rintro e w4 ⟨y, rfl, y0, y1, c4, o4⟩
    have D4 : Hid (DR B V w.heap.size r a len cap w w4) := DR.drawn D3.out (by omega) (by omega) o4 c4
    clear D3 c4 o4
    have hy : y = 0 ∨ y = 1 ∨ y = 2 ∨ y = 3 ∨ y = 4 ∨ y = 5 := by omega
    have l4 := Sits.lt (DR.sv D4.out)
    obtain ⟨q0, q1, q2, q3, q4, q5, q6, q7, q8, q9⟩ := rn_cells (DR.sv D4.out)
    rcases hy with rfl | rfl | rfl | rfl | rfl | rfl
    · go_wp2_with fail
      refine Calls.mono (pick2q in64 B a len cap _ (Cur.alloc (DR.cu D4.out) _ _) _ _ (0) (10001) (Sits.new' rfl) ?ne ?q0 ?q1) ?_
      case ne => omega
      case q0 => unfold in64; omega
      case q1 => unfold in64; omega
      rintro e w5 ⟨z, rfl, hz, c5, o5⟩
      have D5 : Hid (DR B V w.heap.size r a len cap w w5) := DR.drawn (DR.alloc D4.out _ _) (by omega) (by omega) o5 c5
      clear D4 c5 o5 q0 q1 q2 q3 q4 q5 q6 q7 q8 q9
      obtain ⟨q0, q1, q2, q3, q4, q5, q6, q7, q8, q9⟩ := rn_cells (DR.sv D5.out)
      have fv := Sits.frozen (DR.sv D5.out)
      obtain ⟨p0, p1, p2, p3, p4, p5, p6, p7, p8, p9⟩ := rn_cells (DR.sz D5.out)
      have fz := Sits.frozen (DR.sz D5.out)
      dsimp only [Rn.zero] at p0 p1 p2 p3 p4 p5 p6 p7 p8 p9
      go_wp2_with fail
      refine bodyPost_ret (ret_rn (q := (Rn.mk z r.cw r.th r.ac r.una r.nx r.du r.rc r.inn r.cut)) (t := 24) (B := w.heap.size) Try.results25 rfl ?_) rfl ⟨(Rn.mk z r.cw r.th r.ac r.una r.nx r.du r.rc r.inn r.cut), rfl, ⟨hz, HI.out.2.1, HI.out.2.2.1, HI.out.2.2.2.1, HI.out.2.2.2.2.1, HI.out.2.2.2.2.2.1, HI.out.2.2.2.2.2.2.1, HI.out.2.2.2.2.2.2.2.1, HI.out.2.2.2.2.2.2.2.2⟩, ?_, ?_⟩
      · exact put_sits (Sits.other (DR.sz D5.out) (by omega) _) (Rn.mk z r.cw r.th r.ac r.una r.nx r.du r.rc r.inn r.cut)
      · exact (Cur.setNew (Cur.setNew (Cur.setNew (Cur.setNew (Cur.setNew (Cur.setNew (Cur.setNew (Cur.setNew (Cur.setNew (Cur.setNew (Cur.setNew (DR.cu D5.out) (by omega) _) hB _) hB _) hB _) hB _) hB _) hB _) hB _) hB _) hB _) hB _)
      · exact (Only.setNew (Only.setNew (Only.setNew (Only.setNew (Only.setNew (Only.setNew (Only.setNew (Only.setNew (Only.setNew (Only.setNew (Only.setNew (DR.on D5.out) (by omega) _) (Nat.le_refl _) _) (Nat.le_refl _) _) (Nat.le_refl _) _) (Nat.le_refl _) _) (Nat.le_refl _) _) (Nat.le_refl _) _) (Nat.le_refl _) _) (Nat.le_refl _) _) (Nat.le_refl _) _) (Nat.le_refl _) _)
    · go_wp2_with fail
      refine Calls.mono (pick4q in64 B a len cap _ (Cur.alloc (DR.cu D4.out) _ _) _ _ (r.mss - 1) (r.mss) (100000000) (100000001) (Sits.new' rfl) ?ne ?q0 ?q1 ?q2 ?q3) ?_
      case ne => omega
      case q0 => unfold in64; omega
      case q1 => unfold in64; omega
      case q2 => unfold in64; omega
      case q3 => unfold in64; omega
      rintro e w5 ⟨z, rfl, hz, c5, o5⟩
      have D5 : Hid (DR B V w.heap.size r a len cap w w5) := DR.drawn (DR.alloc D4.out _ _) (by omega) (by omega) o5 c5
      clear D4 c5 o5 q0 q1 q2 q3 q4 q5 q6 q7 q8 q9
      obtain ⟨q0, q1, q2, q3, q4, q5, q6, q7, q8, q9⟩ := rn_cells (DR.sv D5.out)
      have fv := Sits.frozen (DR.sv D5.out)
      obtain ⟨p0, p1, p2, p3, p4, p5, p6, p7, p8, p9⟩ := rn_cells (DR.sz D5.out)
      have fz := Sits.frozen (DR.sz D5.out)
      dsimp only [Rn.zero] at p0 p1 p2 p3 p4 p5 p6 p7 p8 p9
      go_wp2_with fail
      refine bodyPost_ret (ret_rn (q := (Rn.mk r.mss z r.th r.ac r.una r.nx r.du r.rc r.inn r.cut)) (t := 24) (B := w.heap.size) Try.results25 rfl ?_) rfl ⟨(Rn.mk r.mss z r.th r.ac r.una r.nx r.du r.rc r.inn r.cut), rfl, ⟨HI.out.1, hz, HI.out.2.2.1, HI.out.2.2.2.1, HI.out.2.2.2.2.1, HI.out.2.2.2.2.2.1, HI.out.2.2.2.2.2.2.1, HI.out.2.2.2.2.2.2.2.1, HI.out.2.2.2.2.2.2.2.2⟩, ?_, ?_⟩
      · exact put_sits (Sits.other (DR.sz D5.out) (by omega) _) (Rn.mk r.mss z r.th r.ac r.una r.nx r.du r.rc r.inn r.cut)
      · exact (Cur.setNew (Cur.setNew (Cur.setNew (Cur.setNew (Cur.setNew (Cur.setNew (Cur.setNew (Cur.setNew (Cur.setNew (Cur.setNew (Cur.setNew (DR.cu D5.out) (by omega) _) hB _) hB _) hB _) hB _) hB _) hB _) hB _) hB _) hB _) hB _)
      · exact (Only.setNew (Only.setNew (Only.setNew (Only.setNew (Only.setNew (Only.setNew (Only.setNew (Only.setNew (Only.setNew (Only.setNew (Only.setNew (DR.on D5.out) (by omega) _) (Nat.le_refl _) _) (Nat.le_refl _) _) (Nat.le_refl _) _) (Nat.le_refl _) _) (Nat.le_refl _) _) (Nat.le_refl _) _) (Nat.le_refl _) _) (Nat.le_refl _) _) (Nat.le_refl _) _) (Nat.le_refl _) _)
    · go_wp2_with fail
      refine Calls.mono (pick3q in64 B a len cap _ (Cur.alloc (DR.cu D4.out) _ _) _ _ (2 * r.mss - 1) (2 * r.mss) (100000001) (Sits.new' rfl) ?ne ?q0 ?q1 ?q2) ?_
      case ne => omega
      case q0 => unfold in64; omega
      case q1 => unfold in64; omega
      case q2 => unfold in64; omega
      rintro e w5 ⟨z, rfl, hz, c5, o5⟩
      have D5 : Hid (DR B V w.heap.size r a len cap w w5) := DR.drawn (DR.alloc D4.out _ _) (by omega) (by omega) o5 c5
      clear D4 c5 o5 q0 q1 q2 q3 q4 q5 q6 q7 q8 q9
      obtain ⟨q0, q1, q2, q3, q4, q5, q6, q7, q8, q9⟩ := rn_cells (DR.sv D5.out)
      have fv := Sits.frozen (DR.sv D5.out)
      obtain ⟨p0, p1, p2, p3, p4, p5, p6, p7, p8, p9⟩ := rn_cells (DR.sz D5.out)
      have fz := Sits.frozen (DR.sz D5.out)
      dsimp only [Rn.zero] at p0 p1 p2 p3 p4 p5 p6 p7 p8 p9
      go_wp2_with fail
      refine bodyPost_ret (ret_rn (q := (Rn.mk r.mss r.cw z r.ac r.una r.nx r.du r.rc r.inn r.cut)) (t := 24) (B := w.heap.size) Try.results25 rfl ?_) rfl ⟨(Rn.mk r.mss r.cw z r.ac r.una r.nx r.du r.rc r.inn r.cut), rfl, ⟨HI.out.1, HI.out.2.1, hz, HI.out.2.2.2.1, HI.out.2.2.2.2.1, HI.out.2.2.2.2.2.1, HI.out.2.2.2.2.2.2.1, HI.out.2.2.2.2.2.2.2.1, HI.out.2.2.2.2.2.2.2.2⟩, ?_, ?_⟩
      · exact put_sits (Sits.other (DR.sz D5.out) (by omega) _) (Rn.mk r.mss r.cw z r.ac r.una r.nx r.du r.rc r.inn r.cut)
      · exact (Cur.setNew (Cur.setNew (Cur.setNew (Cur.setNew (Cur.setNew (Cur.setNew (Cur.setNew (Cur.setNew (Cur.setNew (Cur.setNew (Cur.setNew (DR.cu D5.out) (by omega) _) hB _) hB _) hB _) hB _) hB _) hB _) hB _) hB _) hB _) hB _)
      · exact (Only.setNew (Only.setNew (Only.setNew (Only.setNew (Only.setNew (Only.setNew (Only.setNew (Only.setNew (Only.setNew (Only.setNew (Only.setNew (DR.on D5.out) (by omega) _) (Nat.le_refl _) _) (Nat.le_refl _) _) (Nat.le_refl _) _) (Nat.le_refl _) _) (Nat.le_refl _) _) (Nat.le_refl _) _) (Nat.le_refl _) _) (Nat.le_refl _) _) (Nat.le_refl _) _) (Nat.le_refl _) _)
    · go_wp2_with fail
      refine Calls.mono (pick3q in64 B a len cap _ (Cur.alloc (DR.cu D4.out) _ _) _ _ (-1) (r.nx + 1) (r.nx) (Sits.new' rfl) ?ne ?q0 ?q1 ?q2) ?_
      case ne => omega
      case q0 => unfold in64; omega
      case q1 => unfold in64; omega
      case q2 => unfold in64; omega
      rintro e w5 ⟨z, rfl, hz, c5, o5⟩
      have D5 : Hid (DR B V w.heap.size r a len cap w w5) := DR.drawn (DR.alloc D4.out _ _) (by omega) (by omega) o5 c5
      clear D4 c5 o5 q0 q1 q2 q3 q4 q5 q6 q7 q8 q9
      obtain ⟨q0, q1, q2, q3, q4, q5, q6, q7, q8, q9⟩ := rn_cells (DR.sv D5.out)
      have fv := Sits.frozen (DR.sv D5.out)
      obtain ⟨p0, p1, p2, p3, p4, p5, p6, p7, p8, p9⟩ := rn_cells (DR.sz D5.out)
      have fz := Sits.frozen (DR.sz D5.out)
      dsimp only [Rn.zero] at p0 p1 p2 p3 p4 p5 p6 p7 p8 p9
      go_wp2_with fail
      refine bodyPost_ret (ret_rn (q := (Rn.mk r.mss r.cw r.th r.ac z r.nx r.du r.rc r.inn r.cut)) (t := 24) (B := w.heap.size) Try.results25 rfl ?_) rfl ⟨(Rn.mk r.mss r.cw r.th r.ac z r.nx r.du r.rc r.inn r.cut), rfl, ⟨HI.out.1, HI.out.2.1, HI.out.2.2.1, HI.out.2.2.2.1, hz, HI.out.2.2.2.2.2.1, HI.out.2.2.2.2.2.2.1, HI.out.2.2.2.2.2.2.2.1, HI.out.2.2.2.2.2.2.2.2⟩, ?_, ?_⟩
      · exact put_sits (Sits.other (DR.sz D5.out) (by omega) _) (Rn.mk r.mss r.cw r.th r.ac z r.nx r.du r.rc r.inn r.cut)
      · exact (Cur.setNew (Cur.setNew (Cur.setNew (Cur.setNew (Cur.setNew (Cur.setNew (Cur.setNew (Cur.setNew (Cur.setNew (Cur.setNew (Cur.setNew (DR.cu D5.out) (by omega) _) hB _) hB _) hB _) hB _) hB _) hB _) hB _) hB _) hB _) hB _)
      · exact (Only.setNew (Only.setNew (Only.setNew (Only.setNew (Only.setNew (Only.setNew (Only.setNew (Only.setNew (Only.setNew (Only.setNew (Only.setNew (DR.on D5.out) (by omega) _) (Nat.le_refl _) _) (Nat.le_refl _) _) (Nat.le_refl _) _) (Nat.le_refl _) _) (Nat.le_refl _) _) (Nat.le_refl _) _) (Nat.le_refl _) _) (Nat.le_refl _) _) (Nat.le_refl _) _) (Nat.le_refl _) _)
    · clear q0 q1 q2 q3 q4 q5 q6 q7 q8 q9
      obtain ⟨q0, q1, q2, q3, q4, q5, q6, q7, q8, q9⟩ := rn_cells (DR.sv D4.out)
      have fv := Sits.frozen (DR.sv D4.out)
      obtain ⟨p0, p1, p2, p3, p4, p5, p6, p7, p8, p9⟩ := rn_cells (DR.sz D4.out)
      have fz := Sits.frozen (DR.sz D4.out)
      dsimp only [Rn.zero] at p0 p1 p2 p3 p4 p5 p6 p7 p8 p9
      go_wp2_with fail
      refine bodyPost_ret (ret_rn (q := (Rn.mk r.mss r.cw r.th r.ac r.una r.nx r.du r.rc (!r.inn) r.cut)) (t := 24) (B := w.heap.size) Try.results25 rfl ?_) rfl ⟨(Rn.mk r.mss r.cw r.th r.ac r.una r.nx r.du r.rc (!r.inn) r.cut), rfl, HI.out, ?_, ?_⟩
      · exact put_sits (Sits.other (DR.sz D4.out) (by omega) _) (Rn.mk r.mss r.cw r.th r.ac r.una r.nx r.du r.rc (!r.inn) r.cut)
      · exact (Cur.setNew (Cur.setNew (Cur.setNew (Cur.setNew (Cur.setNew (Cur.setNew (Cur.setNew (Cur.setNew (Cur.setNew (Cur.setNew (Cur.setNew (DR.cu D4.out) (by omega) _) hB _) hB _) hB _) hB _) hB _) hB _) hB _) hB _) hB _) hB _)
      · exact (Only.setNew (Only.setNew (Only.setNew (Only.setNew (Only.setNew (Only.setNew (Only.setNew (Only.setNew (Only.setNew (Only.setNew (Only.setNew (DR.on D4.out) (by omega) _) (Nat.le_refl _) _) (Nat.le_refl _) _) (Nat.le_refl _) _) (Nat.le_refl _) _) (Nat.le_refl _) _) (Nat.le_refl _) _) (Nat.le_refl _) _) (Nat.le_refl _) _) (Nat.le_refl _) _) (Nat.le_refl _) _)
    · go_wp2_with fail
      refine Calls.mono (pick3q in64 B a len cap _ (Cur.alloc (DR.cu D4.out) _ _) _ _ (-1) (r.nx) (r.nx + 1) (Sits.new' rfl) ?ne ?q0 ?q1 ?q2) ?_
      case ne => omega
      case q0 => unfold in64; omega
      case q1 => unfold in64; omega
      case q2 => unfold in64; omega
      rintro e w5 ⟨z, rfl, hz, c5, o5⟩
      have D5 : Hid (DR B V w.heap.size r a len cap w w5) := DR.drawn (DR.alloc D4.out _ _) (by omega) (by omega) o5 c5
      clear D4 c5 o5 q0 q1 q2 q3 q4 q5 q6 q7 q8 q9
      obtain ⟨q0, q1, q2, q3, q4, q5, q6, q7, q8, q9⟩ := rn_cells (DR.sv D5.out)
      have fv := Sits.frozen (DR.sv D5.out)
      obtain ⟨p0, p1, p2, p3, p4, p5, p6, p7, p8, p9⟩ := rn_cells (DR.sz D5.out)
      have fz := Sits.frozen (DR.sz D5.out)
      dsimp only [Rn.zero] at p0 p1 p2 p3 p4 p5 p6 p7 p8 p9
      go_wp2_with fail
      refine bodyPost_ret (ret_rn (q := (Rn.mk r.mss r.cw r.th r.ac r.una r.nx r.du z r.inn r.cut)) (t := 24) (B := w.heap.size) Try.results25 rfl ?_) rfl ⟨(Rn.mk r.mss r.cw r.th r.ac r.una r.nx r.du z r.inn r.cut), rfl, ⟨HI.out.1, HI.out.2.1, HI.out.2.2.1, HI.out.2.2.2.1, HI.out.2.2.2.2.1, HI.out.2.2.2.2.2.1, HI.out.2.2.2.2.2.2.1, hz, HI.out.2.2.2.2.2.2.2.2⟩, ?_, ?_⟩
      · exact put_sits (Sits.other (DR.sz D5.out) (by omega) _) (Rn.mk r.mss r.cw r.th r.ac r.una r.nx r.du z r.inn r.cut)
      · exact (Cur.setNew (Cur.setNew (Cur.setNew (Cur.setNew (Cur.setNew (Cur.setNew (Cur.setNew (Cur.setNew (Cur.setNew (Cur.setNew (Cur.setNew (DR.cu D5.out) (by omega) _) hB _) hB _) hB _) hB _) hB _) hB _) hB _) hB _) hB _) hB _)
      · exact (Only.setNew (Only.setNew (Only.setNew (Only.setNew (Only.setNew (Only.setNew (Only.setNew (Only.setNew (Only.setNew (Only.setNew (Only.setNew (DR.on D5.out) (by omega) _) (Nat.le_refl _) _) (Nat.le_refl _) _) (Nat.le_refl _) _) (Nat.le_refl _) _) (Nat.le_refl _) _) (Nat.le_refl _) _) (Nat.le_refl _) _) (Nat.le_refl _) _) (Nat.le_refl _) _) (Nat.le_refl _) _)

set_option maxRecDepth 100000 in
set_option maxHeartbeats 2000000 in
theorem drawTimedOut_any (a : Option Addr) (len cap : Nat) (w : World) (hl : len ≤ 9223372036854775807) (hcode : Code w w.heap.size a len) :
    Calls Try.prog 18 #[.slice a len cap] w fun e w' => ∃ r : Rn, e = .returned r.val ∧ r.In ∧ Below w.heap.size w w' := by
  obtain ⟨W, hW⟩ : ∃ x, w.alloc (.cells (rnCells Rn.zero) 24) = x := ⟨_, rfl⟩
  have hsz : W.heap.size = w.heap.size + 1 := by rw [← hW]; simp
  have z0 : Sits W w.heap.size (rnCells Rn.zero) 24 := by rw [← hW]; exact Sits.new _ _ _
  have b0 : Below w.heap.size w W := by rw [← hW]; exact (Below.refl _ _).alloc (Nat.le_refl _) _
  have hcd : Code W W.heap.size a len := by
    rw [hsz, ← hW]
    rcases hcode with h | ⟨b, off, ha, hb, hk⟩
    · exact .inl h
    · refine .inr ⟨b, off, ha, by omega, fun k hk' => ?_⟩
      obtain ⟨v, v0, v1, hv⟩ := hk k hk'
      exact ⟨v, v0, v1, (World.cell?_alloc_old w _ ⟨b, off + k, none⟩ (by show b ≠ _; omega)).trans hv⟩
  clear hcode
  go_enter Try.func18, Try.ntmps18
  go_wp2_with fail
  rw [show w.alloc (.cells #[.int .i64 0, .int .i64 0, .int .i64 0, .int .i64 0, .int .i64 0, .int .i64 0, .int .i64 0, .int .i64 0, .bool false, .int .i64 0] 24) = W from hW]
  refine (new_any a len cap W hl hcd).mono ?_
  rintro e w1 ⟨rfl, c1, b1⟩
  obtain ⟨B, hB⟩ : ∃ B, W.heap.size = B := ⟨_, rfl⟩
  rw [hB] at c1 ⊢
  have z1 := z0.below b1 z0.lt
  replace b1 := b0.trans (b1.mono b0.size)
  have lB : w.heap.size < B := by omega
  clear hcd hW z0 b0 hB
  go_wp2_with fail
  refine (l9bent_any B a len cap _ c1).mono ?_
  rintro e w2 ⟨r, rfl, hr, c2, o2⟩
  have z2 := z1.only o2 (by omega)
  replace b1 := b1.trans (o2.below (by omega) b1.size)
  clear z1 c1 o2 c2
  obtain ⟨p0, p1, p2, p3, p4, p5, p6, p7, p8, p9⟩ := rn_cells z2
  have fz := z2.frozen
  dsimp only [Rn.zero] at p0 p1 p2 p3 p4 p5 p6 p7 p8 p9
  have ZZ : Hid (Sits w2 w.heap.size (rnCells Rn.zero) 24) := z2
  clear z2
  go_wp2_with fail
  refine bodyPost_ret (ret_rn (q := r) (t := 24) (B := w.heap.size) Try.results18 rfl ?_) rfl ⟨r, rfl, hr, ?_⟩
  · exact put_sits ZZ.out r
  · exact put_below b1 (Nat.le_refl _) r

end Go.Proofs.Ytfflheebjbdnoae
