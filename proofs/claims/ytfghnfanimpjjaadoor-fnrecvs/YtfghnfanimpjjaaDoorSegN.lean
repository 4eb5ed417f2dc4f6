/-
  A SEGMENT PUT TOGETHER WITH WHAT A RECEIVER HAS, by numbers: the program's way (what is ahead, what is behind, what touches) and the specification's give the same.
-/
import Derived.Test.YtfghnfanimpjjaaDoorRecvH
namespace Go.Proofs.YtfghnfanimpjjaaDoor
open Go.RowKit
set_option linter.unusedVariables false

def smin (a b : Int) : Int := if b < a then b else a
def smax (a b : Int) : Int := if a < b then b else a
theorem smin_bd (a b : Int) : smin a b ≤ a ∧ smin a b ≤ b ∧ (smin a b = a ∨ smin a b = b) := by unfold smin; split <;> omega
theorem smax_bd (a b : Int) : a ≤ smax a b ∧ b ≤ smax a b ∧ (smax a b = a ∨ smax a b = b) := by unfold smax; split <;> omega

/-- The program's state: what lies ahead, what lies behind, what came with all that touches it. -/
structure SegI where
  ah : List Sp
  be : List Sp
  ca : Sp
def SegI.step (s : SegI) (p : Sp) : SegI :=
  if p.to < s.ca.fr then { s with ah := s.ah ++ [p] } else if s.ca.to < p.fr then { s with be := s.be ++ [p] } else { s with ca := ⟨smin p.fr s.ca.fr, smax p.to s.ca.to⟩ }
def SegI.all (s : SegI) : List Sp := s.ah ++ [s.ca] ++ s.be
/-- The specification's state: what is put out, whether the segment is, the segment. -/
structure SegS where
  out : List Sp
  put : Bool
  s : Sp
def SegS.step (t : SegS) (x : Sp) : SegS :=
  if x.to < t.s.fr then { t with out := t.out ++ [x] } else if t.s.to < x.fr then ⟨(if t.put then t.out else t.out ++ [t.s]) ++ [x], true, t.s⟩ else { t with s := ⟨smin t.s.fr x.fr, smax t.s.to x.to⟩ }
def SegS.all (t : SegS) : List Sp := if t.put then t.out else t.out ++ [t.s]

/-- Spans one behind another, a hole ahead of each, from e on. -/
def chain : Int → List Sp → Prop
  | _, [] => True
  | e, p :: l => e < p.fr ∧ p.fr < p.to ∧ p.to ≤ 1000000000000 ∧ chain p.to l
theorem smin_comm (a b : Int) : smin a b = smin b a := by unfold smin; (repeat' split) <;> omega
theorem smax_comm (a b : Int) : smax a b = smax b a := by unfold smax; (repeat' split) <;> omega
theorem chain_snoc {l : List Sp} {p : Sp} : ∀ {e : Int}, chain e (l ++ [p]) → chain e l ∧ (∀ q ∈ l, q.to < p.fr) ∧ e < p.fr ∧ p.fr < p.to ∧ p.to ≤ 1000000000000 := by
  induction l with
  | nil => intro e h; exact ⟨trivial, fun q hq => by simp at hq, h.1, h.2.1, h.2.2.1⟩
  | cons q l ih =>
    intro e h
    obtain ⟨h1, h2, h3, h4⟩ := h
    obtain ⟨k1, k2, k3, k4, k5⟩ := ih h4
    refine ⟨⟨h1, h2, h3, k1⟩, fun r hr => ?_, by omega, k4, k5⟩
    rcases List.mem_cons.1 hr with rfl | hr
    · exact k3
    · exact k2 r hr

/-- Where the segment begins behind Next: what is put together ahead, and behind, in both ways. -/
structure SegC (pre : List Sp) (nx e : Int) (i : SegI) (t : SegS) : Prop where
  ah : ∃ ah, i.ah = pre ++ ah ∧ t.out = (if i.be = [] then ah else ah ++ [i.ca] ++ i.be) ∧ ∀ p ∈ ah, nx < p.fr
  put : t.put = !i.be.isEmpty
  s : t.s = i.ca
  be : i.be ≠ [] → i.ca.to < e
  fr : nx < i.ca.fr
  le : i.ca.fr < i.ca.to
theorem SegC.step {pre : List Sp} {nx e : Int} {i : SegI} {t : SegS} (h : SegC pre nx e i t) (hn : nx ≤ e) {p : Sp} (h1 : e < p.fr) (h2 : p.fr < p.to) : SegC pre nx p.to (i.step p) (t.step p) := by
  obtain ⟨⟨ah, a1, a2, a3⟩, hp, hs, hb, hf, hl⟩ := h
  unfold SegI.step SegS.step
  rw [hs]
  by_cases c1 : p.to < i.ca.fr
  · rw [if_pos c1, if_pos c1]
    have hbe : i.be = [] := by
      by_cases hb0 : i.be = []
      · exact hb0
      · have := hb hb0; omega
    refine ⟨⟨ah ++ [p], by simp [a1], ?_, fun q hq => ?_⟩, hp, rfl, fun h => absurd hbe h, hf, hl⟩
    · rw [if_pos hbe] at a2 ⊢
      simp [a2]
    · rcases List.mem_append.1 hq with hq | hq
      · exact a3 q hq
      · simp at hq; subst hq; omega
  · rw [if_neg c1, if_neg c1]
    by_cases c2 : i.ca.to < p.fr
    · rw [if_pos c2, if_pos c2]
      refine ⟨⟨ah, a1, ?_, a3⟩, ?_, rfl, fun _ => by dsimp only; omega, hf, hl⟩
      · dsimp only
        by_cases hbe : i.be = []
        · rw [if_pos hbe] at a2
          have hpt : t.put = false := by rw [hp, hbe]; rfl
          simp [hpt, a2, hbe]
        · rw [if_neg hbe] at a2
          have hpt : t.put = true := by rw [hp]; cases hx : i.be with
            | nil => exact absurd hx hbe
            | cons _ _ => rfl
          simp [hpt, a2]
      · dsimp only
        cases i.be <;> rfl
    · rw [if_neg c2, if_neg c2]
      have hbe : i.be = [] := by
        by_cases hb0 : i.be = []
        · exact hb0
        · have := hb hb0; omega
      have m1 := smin_bd p.fr i.ca.fr
      have m2 := smax_bd p.to i.ca.to
      refine ⟨⟨ah, a1, ?_, a3⟩, hp, ?_, fun h => absurd hbe h, by dsimp only; omega, by dsimp only; omega⟩
      · dsimp only
        rw [if_pos hbe] at a2 ⊢
        exact a2
      · dsimp only
        rw [smin_comm, smax_comm]
theorem SegC.all {pre : List Sp} {nx e : Int} {i : SegI} {t : SegS} (h : SegC pre nx e i t) : ∃ l, i.all = pre ++ l ∧ t.all = l ∧ (∃ q r, l = q :: r ∧ nx < q.fr) := by
  obtain ⟨⟨ah, a1, a2, a3⟩, hp, hs, hb, hf, hl⟩ := h
  refine ⟨ah ++ [i.ca] ++ i.be, by simp [SegI.all, a1], ?_, ?_⟩
  · unfold SegS.all
    by_cases hbe : i.be = []
    · rw [if_pos hbe] at a2
      have : t.put = false := by rw [hp, hbe]; rfl
      rw [this, a2, hs, hbe]
      simp
    · rw [if_neg hbe] at a2
      have : t.put = true := by rw [hp]; cases hx : i.be with
        | nil => exact absurd hx hbe
        | cons _ _ => rfl
      rw [this, a2]
      simp
  · cases ah with
    | nil => exact ⟨i.ca, i.be, by simp, hf⟩
    | cons q r => exact ⟨q, r ++ [i.ca] ++ i.be, by simp, a3 q (by simp)⟩

/-- Where the segment touches what lies below Next. -/
structure SegB (nx e : Int) (i : SegI) (t : SegS) : Prop where
  ah : i.ah = []
  out : t.out = if i.be = [] then [] else [t.s] ++ i.be
  put : t.put = !i.be.isEmpty
  to : t.s.to = i.ca.to
  fr : t.s.fr = nx
  fi : i.ca.fr = 0
  be : i.be ≠ [] → i.ca.to < e
  le : nx ≤ i.ca.to
theorem SegB.step {nx e : Int} {i : SegI} {t : SegS} (h : SegB nx e i t) (h0 : 0 ≤ nx) (hn : nx ≤ e) {p : Sp} (h1 : e < p.fr) (h2 : p.fr < p.to) : SegB nx p.to (i.step p) (t.step p) := by
  obtain ⟨ha, ho, hp, ht, hf, hfi, hb, hl⟩ := h
  unfold SegI.step SegS.step
  rw [if_neg (show ¬ p.to < i.ca.fr by omega), if_neg (show ¬ p.to < t.s.fr by omega), ht]
  by_cases c2 : i.ca.to < p.fr
  · rw [if_pos c2, if_pos c2]
    refine ⟨ha, ?_, ?_, ht, hf, hfi, fun _ => by dsimp only; omega, hl⟩
    · dsimp only
      by_cases hbe : i.be = []
      · rw [if_pos hbe] at ho
        have hpt : t.put = false := by rw [hp, hbe]; rfl
        simp [hpt, ho, hbe]
      · rw [if_neg hbe] at ho
        have hpt : t.put = true := by rw [hp]; cases hx : i.be with
          | nil => exact absurd hx hbe
          | cons _ _ => rfl
        simp [hpt, ho]
    · dsimp only
      cases i.be <;> rfl
  · rw [if_neg c2, if_neg c2]
    have hbe : i.be = [] := by
      by_cases hb0 : i.be = []
      · exact hb0
      · have := hb hb0; omega
    have m2 := smax_bd p.to i.ca.to
    refine ⟨ha, ?_, hp, by dsimp only; rw [smax_comm], ?_, ?_, fun h => absurd hbe h, by dsimp only; omega⟩
    · dsimp only
      rw [if_pos hbe] at ho ⊢
      exact ho
    · dsimp only
      unfold smin
      rw [hf]
      split <;> omega
    · dsimp only
      unfold smin
      rw [hfi]
      split <;> omega
theorem SegB.all {nx e : Int} {i : SegI} {t : SegS} (h : SegB nx e i t) : i.all = i.ca :: i.be ∧ t.all = ⟨nx, i.ca.to⟩ :: i.be := by
  obtain ⟨ha, ho, hp, ht, hf, hfi, hb, hl⟩ := h
  have hs : t.s = ⟨nx, i.ca.to⟩ := by
    cases h : t.s with
    | mk a b => rw [h] at ht hf; simp at ht hf; rw [ht, hf]
  refine ⟨by simp [SegI.all, ha], ?_⟩
  unfold SegS.all
  by_cases hbe : i.be = []
  · rw [if_pos hbe] at ho
    have : t.put = false := by rw [hp, hbe]; rfl
    rw [this, ho, hs, hbe]
    simp
  · rw [if_neg hbe] at ho
    have : t.put = true := by rw [hp]; cases hx : i.be with
      | nil => exact absurd hx hbe
      | cons _ _ => rfl
    rw [this, ho, hs]
    simp

end Go.Proofs.YtfghnfanimpjjaaDoor
