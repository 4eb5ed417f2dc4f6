/-
  WHICH RECEIVERS ARE WELL, by numbers; RecvOk of the specification.
-/
import Derived.Test.YtfghnfanimpjjaaDoorSpan
namespace Go.Proofs.YtfghnfanimpjjaaDoor
open Go.RowKit
set_option linter.unusedVariables false

/-- Where what lies ahead of span k ends. -/
def endF (nx : Int) (f : Nat → Sp) (k : Nat) : Int := if k = 0 then nx else (f (k - 1)).to
/-- The first n are spans behind what is ahead of them. -/
def okS (nx : Int) (f : Nat → Sp) (n : Nat) : Prop := ∀ i, i < n → endF nx f i < (f i).fr ∧ (f i).fr < (f i).to ∧ (f i).to ≤ 1000000000000
instance (nx : Int) (f : Nat → Sp) (n : Nat) : Decidable (okS nx f n) := by unfold okS; infer_instance
def recvP (nx : Int) (f : Nat → Sp) (n : Nat) : Prop := 0 ≤ nx ∧ nx ≤ 1000000000000 ∧ n ≤ 8 ∧ okS nx f n
instance (nx : Int) (f : Nat → Sp) (n : Nat) : Decidable (recvP nx f n) := by unfold recvP; infer_instance
def recvB (nx : Int) (f : Nat → Sp) (n : Nat) : Bool := decide (recvP nx f n)
theorem okS_0 (nx : Int) (f : Nat → Sp) : okS nx f 0 := fun i hi => by omega
theorem okS_succ {nx : Int} {f : Nat → Sp} {k : Nat} (h : okS nx f k) (h1 : endF nx f k < (f k).fr) (h2 : (f k).fr < (f k).to) (h3 : (f k).to ≤ 1000000000000) : okS nx f (k + 1) := fun i hi => by
  by_cases e : i = k
  · subst e; exact ⟨h1, h2, h3⟩
  · exact h i (by omega)
theorem endF_succ (nx : Int) (f : Nat → Sp) (k : Nat) : endF nx f (k + 1) = (f k).to := by
  unfold endF
  rw [if_neg (by omega), Nat.add_sub_cancel]

set_option maxRecDepth 100000 in
set_option maxHeartbeats 4000000 in
theorem srecvOk_any (nx : Int) (a : Option Addr) (n c : Nat) (f : Nat → Sp) (w : World) (hP : SR w.heap.size w a n f) (hn : n ≤ 1048576) :
    Calls Tryd.prog 6 #[rcVal nx a n c] w fun e w' => e = .returned (.bool (recvB nx f n)) ∧ Below w.heap.size w w' := by
  have HP : Hid (SR w.heap.size w a n f) := hP
  have b0 : Below w.heap.size w (w.alloc (.cells (rcCells nx a n c) 25)) := (Below.refl _ w).alloc (Nat.le_refl _) _
  clear hP
  by_cases k0 : nx < 0
  · rw [show recvB nx f n = false from decide_eq_false fun h => by have := h.1; omega]
    go_enter Tryd.func6, Tryd.ntmps6
    go_wp2
    go_ret
    exact ⟨rfl, b0⟩
  by_cases k1 : 1000000000000 < nx
  · rw [show recvB nx f n = false from decide_eq_false fun h => by have := h.2.1; omega]
    have d0 : decide (nx < 0) = false := by simp; omega
    go_enter Tryd.func6, Tryd.ntmps6
    go_wp2
    go_ret
    exact ⟨rfl, b0⟩
  by_cases k2 : (8 : Int) < (n : Int)
  · rw [show recvB nx f n = false from decide_eq_false fun h => by have := h.2.2.1; omega]
    have d0 : decide (nx < 0) = false := by simp; omega
    have d1 : decide (1000000000000 < nx) = false := by simp; omega
    go_enter Tryd.func6, Tryd.ntmps6
    go_wp2
    go_ret
    exact ⟨rfl, b0⟩
  have d0 : decide (nx < 0) = false := by simp; omega
  have d1 : decide (1000000000000 < nx) = false := by simp; omega
  have d2 : decide ((8 : Int) < (n : Int)) = false := by simp; omega
  have hv : recvB nx f n = decide (okS nx f n) := decide_eq_decide.2 ⟨fun h => h.2.2.2, fun h => ⟨by omega, by omega, by omega, h⟩⟩
  rw [hv]
  clear hv
  have HS0 : Hid (Sits (w.alloc (.cells (rcCells nx a n c) 25)) w.heap.size (rcCells nx a n c) 25) := Sits.new _ _ _
  go_enter Tryd.func6, Tryd.ntmps6
  go_wp2
  go_loopw [3, 4] (fun e i wr => ∃ k : Nat, (k : Int) ≤ (n : Int) ∧ e = .int .i64 (endF nx f k) ∧ i = .int .i64 k ∧ okS nx f k ∧ Below (w.heap.size + 1) (w.alloc (.cells (rcCells nx a n c) 25)) wr) (fun _ i _ => n - (intOf i).toNat)
  case atStart => exact ⟨0, by omega, rfl, rfl, okS_0 _ _, Below.refl _ _⟩
  case round =>
    obtain ⟨k, hk, rfl, rfl, hok, hbr⟩ := hrel
    have HOK : Hid (okS nx f k) := hok
    obtain ⟨E, hE⟩ : ∃ E, endF nx f k = E := ⟨_, rfl⟩
    rw [hE]
    have HE : Hid (endF nx f k = E) := hE
    clear hok hE
    have s1 := Sits.below HS0.out hbr (by omega)
    obtain ⟨q0, q1⟩ := rc_cells s1
    have l1 := s1.lt
    clear s1
    by_cases hlt : k < n
    · obtain ⟨b, off, rfl, hbl, hc⟩ := SR.at HP.out hlt
      obtain ⟨c0, c1⟩ := ((hc k hlt).below b0 hbl).below hbr (by omega)
      clear hc
      have hlt' : (k : Int) < (n : Int) := by omega
      have BAD : Hid ((f k).fr ≤ E ∨ (f k).to ≤ (f k).fr ∨ 1000000000000 < (f k).to → decide (okS nx f n) = false) := fun h => decide_eq_false fun ho => by
        have := ho k hlt
        rw [HE.out] at this
        omega
      have hB1 : Below w.heap.size w wr := b0.trans (hbr.mono (by omega))
      have hs1 := hB1.size
      by_cases t0 : (f k).fr ≤ E
      · go_wp2
        go_ret
        exact ⟨ret_bool ((BAD.out (.inl t0)).symm), hB1.alloc hs1 _⟩
      have e0 : decide ((f k).fr ≤ E) = false := by simp; omega
      by_cases t1 : (f k).to ≤ (f k).fr
      · go_wp2
        go_ret
        exact ⟨ret_bool ((BAD.out (.inr (.inl t1))).symm), hB1.alloc hs1 _⟩
      have e1 : decide ((f k).to ≤ (f k).fr) = false := by simp; omega
      by_cases t2 : 1000000000000 < (f k).to
      · go_wp2
        go_ret
        exact ⟨ret_bool ((BAD.out (.inr (.inr t2))).symm), hB1.alloc hs1 _⟩
      have e2 : decide (1000000000000 < (f k).to) = false := by simp; omega
      go_wp2
      go_roundw
      case rel => exact ⟨k + 1, by omega, by rw [endF_succ], by go_num, okS_succ HOK.out (by rw [HE.out]; omega) (by omega) (by omega), hbr.alloc (by omega) _⟩
      case measure => simp [intOf]; omega
    · have hkn : k = n := by omega
      have hlt' : ¬ (k : Int) < (n : Int) := by omega
      have GOOD : Hid (decide (okS nx f n) = true) := by
        show _ = true
        rw [← hkn]
        exact decide_eq_true HOK.out
      clear hkn
      go_wp2
      go_ret
      exact ⟨ret_bool (GOOD.out).symm, b0.trans (hbr.mono (by omega))⟩

end Go.Proofs.YtfghnfanimpjjaaDoor
