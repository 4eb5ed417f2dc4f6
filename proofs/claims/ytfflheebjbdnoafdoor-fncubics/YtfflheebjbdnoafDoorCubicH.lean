/-
  THE TWO ERRORS THAT LIE IN THEIR VARIABLES; the program's hindrance.
-/
import Derived.Test.YtfflheebjbdnoafDoorCubicT
namespace Go.Proofs.YtfflheebjbdnoafDoor
open Go.RowKit
set_option linter.unusedVariables false

/-- The variables hold two errors of errors.New's make, one beside the other. -/
def ErrAt (a b : Addr) (w : World) : Prop := w.cell? ⟨0, 0, none⟩ = some (.iface 74 (.pointer (some a))) ∧ w.cell? ⟨1, 0, none⟩ = some (.iface 74 (.pointer (some b))) ∧ a ≠ b ∧ (∃ c t, w.heap[a.block]? = some (.cells c t (0, 0))) ∧ (∃ c t, w.heap[b.block]? = some (.cells c t (0, 0)))

def Errs (w : World) : Prop := ∃ a b, ErrAt a b w

theorem ErrAt.lts {a b : Addr} {w : World} (h : ErrAt a b w) : 0 < w.heap.size ∧ 1 < w.heap.size ∧ a.block < w.heap.size ∧ b.block < w.heap.size := by
  obtain ⟨h0, h1, -, ⟨c, t, h2⟩, ⟨c', t', h3⟩⟩ := h
  exact ⟨World.block_lt_of_cell? w _ h0, World.block_lt_of_cell? w _ h1, (Array.getElem?_eq_some_iff.1 h2).1, (Array.getElem?_eq_some_iff.1 h3).1⟩

theorem ErrAt.below {a b : Addr} {n : Nat} {w w' : World} (h : ErrAt a b w) (hb : Below n w w') (hn : w.heap.size ≤ n) : ErrAt a b w' := by
  obtain ⟨l0, l1, l2, l3⟩ := h.lts
  obtain ⟨h0, h1, hne, ⟨c, t, h2⟩, ⟨c', t', h3⟩⟩ := h
  exact ⟨(hb.cell (p := ⟨0, 0, none⟩) (by show 0 < _; omega)).trans h0, (hb.cell (p := ⟨1, 0, none⟩) (by show 1 < _; omega)).trans h1, hne, ⟨c, t, (hb.block _ (by omega)).trans h2⟩, ⟨c', t', (hb.block _ (by omega)).trans h3⟩⟩

theorem Errs.below {n : Nat} {w w' : World} (h : Errs w) (hb : Below n w w') (hn : w.heap.size ≤ n) : Errs w' := by
  obtain ⟨a, b, h⟩ := h
  exact ⟨a, b, h.below hb hn⟩

theorem Errs.le {w : World} (_ : Errs w) : w.heap.size ≤ w.heap.size := Nat.le_refl _

set_option maxRecDepth 20000 in
set_option maxHeartbeats 2000000 in
theorem hindrance_bad (a b : Addr) (r : Cb) (now : Int) (hb : r.loB now = false) (w : World) (hE : ErrAt a b w) :
    Calls Tryd.prog 13 #[r.val, .int .i64 now] w fun e w' => e = .returned (.iface 74 (.pointer (some b))) ∧ Below w.heap.size w w' := by
  have s0 : Sits (w.alloc (.cells (cbCells r) 24)) w.heap.size (cbCells r) 24 := Sits.new _ _ _
  have c0 : Below w.heap.size w (w.alloc (.cells (cbCells r) 24)) := (Below.refl _ _).alloc (Nat.le_refl _) _
  obtain ⟨W, hW⟩ : ∃ W, w.alloc (.cells (cbCells r) 24) = W := ⟨_, rfl⟩
  rw [hW] at s0 c0
  have S0 : Hid (Sits W w.heap.size (cbCells r) 24) := s0
  have HE : Hid (ErrAt a b w) := hE
  clear s0 hE
  have hcs : r.good = false ∨ (r.good = true ∧ r.timeB now = false) := by
    unfold Cb.loB at hb
    cases h : r.good
    · exact .inl rfl
    · rw [h] at hb; exact .inr ⟨rfl, by simpa using hb⟩
  clear hb
  rcases hcs with hg | ⟨hg, ht⟩
  · have HG : Hid (r.good = false) := hg
    clear hg
    go_enter Tryd.func13, Tryd.ntmps13
    go_upto_region 1 with fail
    try rw [hW]
    clear hW
    obtain ⟨q0, q1, q2, q3, q4, q5⟩ := cb_cells S0.out
    go_wp2_with (first | (go_at_call 8; refine (icubicOk_any r _).mono ?_; rintro e w1 ⟨rfl, b1⟩; rw [HG.out]; have s1 := Sits.below S0.out b1 (Sits.lt S0.out); clear q0 q1 q2 q3 q4 q5; obtain ⟨q0, q1, q2, q3, q4, q5⟩ := cb_cells s1; have S1 : Hid (Sits w1 w.heap.size (cbCells r) 24) := s1; have c1 := Below.trans c0 (b1.mono (Below.size c0)); obtain ⟨e0, e1, -, -, -⟩ := ErrAt.below HE.out c1 (Nat.le_refl _); clear s1 b1))
    go_ret
    exact ⟨rfl, c1⟩
  · have HG : Hid (r.good = true) := hg
    have HT : Hid (r.timeB now = false) := ht
    clear hg ht
    go_enter Tryd.func13, Tryd.ntmps13
    go_upto_region 1 with fail
    try rw [hW]
    clear hW
    obtain ⟨q0, q1, q2, q3, q4, q5⟩ := cb_cells S0.out
    go_wp2_with (first | (go_at_call 8; refine (icubicOk_any r _).mono ?_; rintro e w1 ⟨rfl, b1⟩; rw [HG.out]; have s1 := Sits.below S0.out b1 (Sits.lt S0.out); clear q0 q1 q2 q3 q4 q5; obtain ⟨q0, q1, q2, q3, q4, q5⟩ := cb_cells s1; have S1 : Hid (Sits w1 w.heap.size (cbCells r) 24) := s1; have c1 := Below.trans c0 (b1.mono (Below.size c0)); obtain ⟨e0, e1, -, -, -⟩ := ErrAt.below HE.out c1 (Nat.le_refl _); clear s1 b1) | (go_at_call 23; refine (cubicTimeOk_any r now HG.out _).mono ?_; rintro e w2 ⟨rfl, b2⟩; rw [HT.out]; have s2 := Sits.below S1.out b2 (Sits.lt S1.out); clear q0 q1 q2 q3 q4 q5 e0 e1; obtain ⟨q0, q1, q2, q3, q4, q5⟩ := cb_cells s2; have c2 := Below.trans c1 (b2.mono (Below.size c1)); obtain ⟨e0, e1, -, -, -⟩ := ErrAt.below HE.out c2 (Nat.le_refl _); clear s2 b2))
    go_ret
    exact ⟨rfl, c2⟩

set_option maxRecDepth 20000 in
set_option maxHeartbeats 2000000 in
theorem hindrance_full (a b : Addr) (r : Cb) (now : Int) (hb : r.loB now = true) (hf : r.wn = 1048576) (w : World) (hE : ErrAt a b w) :
    Calls Tryd.prog 13 #[r.val, .int .i64 now] w fun e w' => e = .returned (.iface 74 (.pointer (some a))) ∧ Below w.heap.size w w' := by
  have s0 : Sits (w.alloc (.cells (cbCells r) 24)) w.heap.size (cbCells r) 24 := Sits.new _ _ _
  have c0 : Below w.heap.size w (w.alloc (.cells (cbCells r) 24)) := (Below.refl _ _).alloc (Nat.le_refl _) _
  obtain ⟨W, hW⟩ : ∃ W, w.alloc (.cells (cbCells r) 24) = W := ⟨_, rfl⟩
  rw [hW] at s0 c0
  have S0 : Hid (Sits W w.heap.size (cbCells r) 24) := s0
  have HE : Hid (ErrAt a b w) := hE
  clear s0 hE
  have hb2 : r.good = true ∧ r.timeB now = true := by unfold Cb.loB at hb; simpa using hb
  have HG : Hid (r.good = true) := hb2.1
  have HT : Hid (r.timeB now = true) := hb2.2
  clear hb hb2
  have hq : (r.wn == 1048576) = true := by simp; omega
  clear hf
  go_enter Tryd.func13, Tryd.ntmps13
  go_upto_region 1 with fail
  try rw [hW]
  clear hW
  obtain ⟨q0, q1, q2, q3, q4, q5⟩ := cb_cells S0.out
  go_wp2_with (first | (go_at_call 8; refine (icubicOk_any r _).mono ?_; rintro e w1 ⟨rfl, b1⟩; rw [HG.out]; have s1 := Sits.below S0.out b1 (Sits.lt S0.out); clear q0 q1 q2 q3 q4 q5; obtain ⟨q0, q1, q2, q3, q4, q5⟩ := cb_cells s1; have S1 : Hid (Sits w1 w.heap.size (cbCells r) 24) := s1; have c1 := Below.trans c0 (b1.mono (Below.size c0)); obtain ⟨e0, e1, -, -, -⟩ := ErrAt.below HE.out c1 (Nat.le_refl _); clear s1 b1) | (go_at_call 23; refine (cubicTimeOk_any r now HG.out _).mono ?_; rintro e w2 ⟨rfl, b2⟩; rw [HT.out]; have s2 := Sits.below S1.out b2 (Sits.lt S1.out); clear q0 q1 q2 q3 q4 q5 e0 e1; obtain ⟨q0, q1, q2, q3, q4, q5⟩ := cb_cells s2; have c2 := Below.trans c1 (b2.mono (Below.size c1)); obtain ⟨e0, e1, -, -, -⟩ := ErrAt.below HE.out c2 (Nat.le_refl _); clear s2 b2))
  go_ret
  exact ⟨rfl, c2⟩

set_option maxRecDepth 20000 in
set_option maxHeartbeats 2000000 in
theorem hindrance_nil (a b : Addr) (r : Cb) (now : Int) (hb : r.loB now = true) (hf : r.wn < 1048576) (w : World) (hE : ErrAt a b w) :
    Calls Tryd.prog 13 #[r.val, .int .i64 now] w fun e w' => e = .returned (.nilIface) ∧ Below w.heap.size w w' := by
  have s0 : Sits (w.alloc (.cells (cbCells r) 24)) w.heap.size (cbCells r) 24 := Sits.new _ _ _
  have c0 : Below w.heap.size w (w.alloc (.cells (cbCells r) 24)) := (Below.refl _ _).alloc (Nat.le_refl _) _
  obtain ⟨W, hW⟩ : ∃ W, w.alloc (.cells (cbCells r) 24) = W := ⟨_, rfl⟩
  rw [hW] at s0 c0
  have S0 : Hid (Sits W w.heap.size (cbCells r) 24) := s0
  have HE : Hid (ErrAt a b w) := hE
  clear s0 hE
  have hb2 : r.good = true ∧ r.timeB now = true := by unfold Cb.loB at hb; simpa using hb
  have HG : Hid (r.good = true) := hb2.1
  have HT : Hid (r.timeB now = true) := hb2.2
  clear hb hb2
  have hq : (r.wn == 1048576) = false := by simp; omega
  clear hf
  go_enter Tryd.func13, Tryd.ntmps13
  go_upto_region 1 with fail
  try rw [hW]
  clear hW
  obtain ⟨q0, q1, q2, q3, q4, q5⟩ := cb_cells S0.out
  go_wp2_with (first | (go_at_call 8; refine (icubicOk_any r _).mono ?_; rintro e w1 ⟨rfl, b1⟩; rw [HG.out]; have s1 := Sits.below S0.out b1 (Sits.lt S0.out); clear q0 q1 q2 q3 q4 q5; obtain ⟨q0, q1, q2, q3, q4, q5⟩ := cb_cells s1; have S1 : Hid (Sits w1 w.heap.size (cbCells r) 24) := s1; have c1 := Below.trans c0 (b1.mono (Below.size c0)); obtain ⟨e0, e1, -, -, -⟩ := ErrAt.below HE.out c1 (Nat.le_refl _); clear s1 b1) | (go_at_call 23; refine (cubicTimeOk_any r now HG.out _).mono ?_; rintro e w2 ⟨rfl, b2⟩; rw [HT.out]; have s2 := Sits.below S1.out b2 (Sits.lt S1.out); clear q0 q1 q2 q3 q4 q5 e0 e1; obtain ⟨q0, q1, q2, q3, q4, q5⟩ := cb_cells s2; have c2 := Below.trans c1 (b2.mono (Below.size c1)); obtain ⟨e0, e1, -, -, -⟩ := ErrAt.below HE.out c2 (Nat.le_refl _); clear s2 b2))
  go_ret
  exact ⟨rfl, c2⟩

end Go.Proofs.YtfflheebjbdnoafDoor
