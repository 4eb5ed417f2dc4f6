/-
  WHAT A RECEIVER IS BEHIND A SEGMENT, by numbers: the program's list of all pieces, and the specification's.
-/
import Derived.Test.YtfghnfanimpjjaaDoorSegN
namespace Go.Proofs.YtfghnfanimpjjaaDoor
open Go.RowKit
set_option linter.unusedVariables false

/-- The spans, and all pieces, as lists. -/
def spL (f : Nat → Sp) (n : Nat) : List Sp := (List.range n).map f
def pcL (nx : Int) (f : Nat → Sp) (n : Nat) : List Sp := (List.range n).map (pieceF nx f)
theorem spL_succ (f : Nat → Sp) (n : Nat) : spL f (n + 1) = spL f n ++ [f n] := by simp [spL, List.range_succ]
theorem pcL_succ (nx : Int) (f : Nat → Sp) (n : Nat) : pcL nx f (n + 1) = pcL nx f n ++ [pieceF nx f n] := by simp [pcL, List.range_succ]
theorem pcL_spL (nx : Int) (f : Nat → Sp) (n : Nat) : pcL nx f (n + 1) = ⟨0, nx⟩ :: spL f n := by
  unfold pcL spL
  rw [List.range_succ_eq_map, List.map_cons, List.map_map]
  exact congrArg (List.cons _) (List.map_congr_left fun j _ => pieceF_succ nx f j)
theorem spL_len (f : Nat → Sp) (n : Nat) : (spL f n).length = n := by simp [spL]
/-- The program's state behind k pieces, the specification's behind k spans. -/
def segI (nx : Int) (f : Nat → Sp) (k : Nat) (ca : Sp) : SegI := (pcL nx f k).foldl SegI.step ⟨[], [], ca⟩
def segS (f : Nat → Sp) (k : Nat) (s : Sp) : SegS := (spL f k).foldl SegS.step ⟨[], false, s⟩
theorem segI_succ (nx : Int) (f : Nat → Sp) (k : Nat) (ca : Sp) : segI nx f (k + 1) ca = (segI nx f k ca).step (pieceF nx f k) := by unfold segI; rw [pcL_succ, List.foldl_append]; rfl
theorem segS_succ (f : Nat → Sp) (k : Nat) (s : Sp) : segS f (k + 1) s = (segS f k s).step (f k) := by unfold segS; rw [spL_succ, List.foldl_append]; rfl
theorem segI_from (nx : Int) (f : Nat → Sp) (n : Nat) (ca : Sp) : segI nx f (n + 1) ca = (spL f n).foldl SegI.step (SegI.step ⟨[], [], ca⟩ ⟨0, nx⟩) := by unfold segI; rw [pcL_spL]; rfl

theorem end_ge {nx : Int} {f : Nat → Sp} {n : Nat} (h : okS nx f n) : ∀ k, k ≤ n → nx ≤ endF nx f k := by
  intro k
  induction k with
  | zero => intro _; exact Int.le_refl _
  | succ k ih =>
    intro hk
    have h1 := ih (by omega)
    have h2 := h k (by omega)
    rw [endF_succ]
    omega
theorem foldC {pre : List Sp} {nx : Int} {f : Nat → Sp} {n : Nat} (h : okS nx f n) {i : SegI} {t : SegS} (h0 : SegC pre nx nx i t) : ∀ k, k ≤ n → SegC pre nx (endF nx f k) ((spL f k).foldl SegI.step i) ((spL f k).foldl SegS.step t) := by
  intro k
  induction k with
  | zero => intro _; exact h0
  | succ k ih =>
    intro hk
    have h1 := ih (by omega)
    have h2 := h k (by omega)
    rw [spL_succ, List.foldl_append, List.foldl_append, endF_succ]
    exact h1.step (end_ge h k (by omega)) h2.1 h2.2.1
theorem foldB {nx : Int} {f : Nat → Sp} {n : Nat} (h : okS nx f n) (hx : 0 ≤ nx) {i : SegI} {t : SegS} (h0 : SegB nx nx i t) : ∀ k, k ≤ n → SegB nx (endF nx f k) ((spL f k).foldl SegI.step i) ((spL f k).foldl SegS.step t) := by
  intro k
  induction k with
  | zero => intro _; exact h0
  | succ k ih =>
    intro hk
    have h1 := ih (by omega)
    have h2 := h k (by omega)
    rw [spL_succ, List.foldl_append, List.foldl_append, endF_succ]
    exact h1.step hx (end_ge h k (by omega)) h2.1 h2.2.1
/-- What lies behind stays behind. -/
theorem foldA {nx : Int} {f : Nat → Sp} {n : Nat} (h : okS nx f n) (h0 : 0 ≤ nx) : ∀ k, k ≤ n → (spL f k).foldl SegI.step ⟨[], [], ⟨0, nx⟩⟩ = ⟨[], spL f k, ⟨0, nx⟩⟩ := by
  intro k
  induction k with
  | zero => intro _; rfl
  | succ k ih =>
    intro hk
    have h1 := ih (by omega)
    have h2 := h k (by omega)
    have h3 := end_ge h k (by omega)
    rw [spL_succ, List.foldl_append, h1]
    show SegI.step _ _ = _
    unfold SegI.step
    rw [if_neg (by show ¬ (f k).to < 0; omega), if_pos (by show nx < (f k).fr; omega)]

/-- A segment that lies below Next turns nothing. -/
theorem seg_low {nx fr to : Int} {f : Nat → Sp} {n : Nat} (h : recvP nx f n) (h0 : 0 ≤ fr) (h1 : fr < to) (h2 : to ≤ nx) : (segI nx f (n + 1) ⟨fr, to⟩).all = ⟨0, nx⟩ :: spL f n := by
  rw [segI_from]
  have e : SegI.step ⟨[], [], ⟨fr, to⟩⟩ ⟨0, nx⟩ = ⟨[], [], ⟨0, nx⟩⟩ := by
    unfold SegI.step
    rw [if_neg (by show ¬ nx < fr; omega), if_neg (by show ¬ to < 0; omega)]
    show (⟨[], [], ⟨smin 0 fr, smax nx to⟩⟩ : SegI) = _
    rw [show smin 0 fr = 0 by unfold smin; split <;> omega, show smax nx to = nx by unfold smax; split <;> omega]
  rw [e, foldA h.2.2.2 h.1 n (Nat.le_refl _)]
  simp [SegI.all]
/-- One that goes beyond Next: the specification's first span touches Next, or it does not. -/
theorem seg_high {nx fr to : Int} {f : Nat → Sp} {n : Nat} (h : recvP nx f n) (h0 : 0 ≤ fr) (h1 : fr < to) (h2 : nx < to) :
    ∃ q r, (segS f n ⟨smax fr nx, to⟩).all = q :: r ∧ ((q.fr = nx ∧ (segI nx f (n + 1) ⟨fr, to⟩).all = ⟨0, q.to⟩ :: r) ∨ (q.fr ≠ nx ∧ (segI nx f (n + 1) ⟨fr, to⟩).all = ⟨0, nx⟩ :: q :: r)) := by
  rw [segI_from]
  by_cases c : nx < fr
  · have e : SegI.step ⟨[], [], ⟨fr, to⟩⟩ ⟨0, nx⟩ = ⟨[⟨0, nx⟩], [], ⟨fr, to⟩⟩ := by
      unfold SegI.step
      rw [if_pos (show nx < fr from c)]
      rfl
    have es : smax fr nx = fr := by unfold smax; split <;> omega
    rw [e, es]
    have hc : SegC [⟨0, nx⟩] nx nx ⟨[⟨0, nx⟩], [], ⟨fr, to⟩⟩ ⟨[], false, ⟨fr, to⟩⟩ := ⟨⟨[], rfl, rfl, fun p hp => by simp at hp⟩, rfl, rfl, fun h => absurd rfl h, c, h1⟩
    obtain ⟨l, l1, l2, q, r, l3, l4⟩ := (foldC h.2.2.2 hc n (Nat.le_refl _)).all
    refine ⟨q, r, ?_, .inr ⟨by omega, ?_⟩⟩
    · rw [← l3]; exact l2
    · rw [l1, l3]; rfl
  · have e : SegI.step ⟨[], [], ⟨fr, to⟩⟩ ⟨0, nx⟩ = ⟨[], [], ⟨0, to⟩⟩ := by
      unfold SegI.step
      rw [if_neg (show ¬ nx < fr from c), if_neg (by have := h.1; show ¬ to < 0; omega)]
      show (⟨[], [], ⟨smin 0 fr, smax nx to⟩⟩ : SegI) = _
      rw [show smin 0 fr = 0 by unfold smin; split <;> omega, show smax nx to = to by unfold smax; split <;> omega]
    have es : smax fr nx = nx := by unfold smax; split <;> omega
    rw [e, es]
    have hb : SegB nx nx ⟨[], [], ⟨0, to⟩⟩ ⟨[], false, ⟨nx, to⟩⟩ := ⟨rfl, rfl, rfl, rfl, rfl, rfl, fun h => absurd rfl h, by show nx ≤ to; omega⟩
    have hB := foldB h.2.2.2 h.1 hb n (Nat.le_refl _)
    obtain ⟨a1, a2⟩ := hB.all
    refine ⟨_, _, a2, .inl ⟨rfl, ?_⟩⟩
    rw [a1]
    congr 1
    cases hc : ((spL f n).foldl SegI.step ⟨[], [], ⟨0, to⟩⟩).ca with
    | mk x y =>
      have := hB.fi
      rw [hc] at this
      simp at this
      rw [this]

end Go.Proofs.YtfghnfanimpjjaaDoor
