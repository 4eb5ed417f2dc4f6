/-
  ackHeard OF THE PROGRAM, and what is done then.
-/
import Derived.Test.YtfflheebjbdnoaeRenoK
import Derived.Test.YtfflheebjbdnoaeRenoG
import Derived.Test.YtfflheebjbdnoaeQTail
import Derived.Deep.RegionHeld3
import Derived.Deep.Cut
namespace Go.Proofs.Ytfflheebjbdnoae
open Go.RowKit
set_option linter.unusedVariables false

set_option maxRecDepth 20000 in
set_option maxHeartbeats 2000000 in
theorem ackHeard_new (r : Rn) (ack : Int) (hf : r.fit) (h : r.una < ack) (h1 : ack ≤ r.nx) (w : World) :
    Calls Try.prog 30 #[r.val, .int .i64 ack] w fun e w' => e = .returned (.iface 65 (.agg #[.int .i64 (ack - r.una)])) ∧ Below w.heap.size w w' := by
  unfold Rn.fit at hf
  go_enter Try.func30, Try.ntmps30
  go_wp2
  go_ret
  exact ⟨rfl, by go_grown⟩

set_option maxRecDepth 20000 in
set_option maxHeartbeats 2000000 in
theorem ackHeard_same (r : Rn) (ack : Int) (hf : r.fit) (h : ¬ r.una < ack) (w : World) :
    Calls Try.prog 30 #[r.val, .int .i64 ack] w fun e w' => e = .returned (.iface 67 (.agg #[.int .i64 r.half])) ∧ Below w.heap.size w w' := by
  have HF : Hid r.fit := hf
  unfold Rn.fit at hf
  obtain ⟨H, hH⟩ : ∃ H, r.half = H := ⟨_, rfl⟩
  rw [hH]
  go_enter Try.func30, Try.ntmps30
  go_wp2_with (go_at_call 31; refine (halfOf_any r HF.out _).mono ?_; rintro e w1 ⟨rfl, b1⟩; rw [hH])
  go_ret
  exact ⟨rfl, Below.trans (show Below w.heap.size w _ by go_grown) (b1.mono (by simp))⟩

/-- What Acked answers. -/
def Rn.ackF (r : Rn) (ack : Int) (echo : Bool) : Rn := if r.good then (if inB ack r.una r.nx then (if echo then (r.ack1 ack).ack2 r.half else r.ack1 ack) else r) else Rn.zero
def Rn.ackB (r : Rn) (ack : Int) : Bool := r.good && inB ack r.una r.nx

/-- What is heard first. -/
theorem heard1 (r : Rn) (ack : Int) (hg : r.good = true) (h0 : r.una ≤ ack) (h1 : ack ≤ r.nx) : ∃ v : Value, (∀ W, Calls Try.prog 30 #[r.val, .int .i64 ack] W fun e w' => e = .returned v ∧ Below W.heap.size W w') ∧ (∀ W, Calls Try.prog 29 #[r.val, v] W fun e w' => e = .returned (r.ack1 ack).val ∧ Below W.heap.size W w') := by
  have hf := good_fit hg
  obtain ⟨k1, k2⟩ := Rn.half_in hg
  obtain ⟨g1, g2, g3, g4, g5, g6, g7, g8, g9, g10, g11, g12, g13, g14, g15, g16, g17, g18⟩ := r.good_iff.1 hg
  by_cases h : r.una < ack
  · refine ⟨_, ackHeard_new r ack hf h h1, fun W => ?_⟩
    have e : r.ack1 ack = r.prog (ack - r.una) := by unfold Rn.ack1; rw [if_pos h]
    rw [e]
    exact heard_new r _ hf (by omega) (by omega) W
  · refine ⟨_, ackHeard_same r ack hf h, fun W => ?_⟩
    by_cases hc : 0 < r.fl
    · have e : r.ack1 ack = r.rep r.half := by unfold Rn.ack1; rw [if_neg h, if_pos hc]
      rw [e]
      exact heard_same r _ hf (by omega) k2 hc W
    · have e : r.ack1 ack = r := by unfold Rn.ack1; rw [if_neg h, if_neg hc]
      rw [e]
      exact heard_same_no r _ hf hc W
theorem heard2 (q : Rn) (h : Int) (hf : q.fit) (W : World) : Calls Try.prog 29 #[q.val, .iface 57 (.agg #[.int .i64 h])] W fun e w' => e = .returned (q.ack2 h).val ∧ Below W.heap.size W w' := by
  by_cases hc : q.inn = false ∧ q.cut ≤ q.una
  · have e : q.ack2 h = q.slow h := by unfold Rn.ack2; rw [if_pos hc]
    rw [e]
    exact heard_echo q h hf hc W
  · have e : q.ack2 h = q := by unfold Rn.ack2; rw [if_neg hc]
    rw [e]
    refine heard_echo_no q h hf ?_ W
    cases hi : q.inn
    · exact .inr (by have : ¬ q.cut ≤ q.una := fun k => hc ⟨hi, k⟩; omega)
    · exact .inl rfl

@[reducible] def SRn (s : Nat) (r : Rn) (w' : World) : Prop := w'.cell? ⟨s, 0, none⟩ = some (.int .i64 r.mss) ∧ w'.cell? ⟨s, 1, none⟩ = some (.int .i64 r.cw) ∧ w'.cell? ⟨s, 2, none⟩ = some (.int .i64 r.th) ∧ w'.cell? ⟨s, 3, none⟩ = some (.int .i64 r.ac) ∧ w'.cell? ⟨s, 4, none⟩ = some (.int .i64 r.una) ∧ w'.cell? ⟨s, 5, none⟩ = some (.int .i64 r.nx) ∧ w'.cell? ⟨s, 6, none⟩ = some (.int .i64 r.du) ∧ w'.cell? ⟨s, 7, none⟩ = some (.int .i64 r.rc) ∧ w'.cell? ⟨s, 8, none⟩ = some (.bool r.inn) ∧ w'.cell? ⟨s, 9, none⟩ = some (.int .i64 r.cut)
theorem box_at {W0 W W' : World} {V : Nat} {vs : Array Value} {t : TypeId} (h : Sits W0 V vs t) (hb : Below W.heap.size W W') (e : W.heap = W0.heap) : Sits W' V vs t ∧ V < W.heap.size := by
  have h' : Sits W V vs t := by
    show W.heap[V]? = _
    rw [e]
    exact h
  exact ⟨h'.below hb h'.lt, h'.lt⟩
theorem box_new {W : World} {q : Rn} {t : TypeId} {n : Nat} (h : W.heap.size = n) : Sits (W.alloc (.cells (rnCells q) t)) n (rnCells q) t := h ▸ Sits.new W _ t

end Go.Proofs.Ytfflheebjbdnoae
