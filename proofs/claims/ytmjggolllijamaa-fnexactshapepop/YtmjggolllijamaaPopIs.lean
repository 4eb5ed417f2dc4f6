/-
  WHAT ShapePop ANSWERS, BY NUMBERS: it is one answer, and there is one.
-/
import Derived.Test.YtmjggolllijamaaPassN
import Derived.Test.YtmjggolllijamaaCostF
namespace Go.Proofs.Ytmjggolllijamaa
open Go.RowKit
set_option linter.unusedVariables false

/-- May ShapePop be asked at all? -/
def mayP (s : Sh) (N : Nat) (L : Nat → Ln) (ts : List Int) (now : Int) : Bool := shB s N L ts && decide (0 ≤ now ∧ now ≤ 1000000000000)
theorem mayP_parts {s : Sh} {N : Nat} {L : Nat → Ln} {ts : List Int} {now : Int} (h : mayP s N L ts now = true) : shP s N L ts ∧ 0 ≤ now ∧ now ≤ 1000000000000 := by
  unfold mayP shB at h
  simp only [Bool.and_eq_true, decide_eq_true_eq] at h
  exact h
/-- What ShapePop answers. -/
def PopIs (s : Sh) (N : Nat) (L : Nat → Ln) (ts : List Int) (now : Int) (S1 : Sh) (N1 : Nat) (L1 : Nat → Ln) (T1 : List Int) (p1 : Pk) (ok : Bool) : Prop :=
  (mayP s N L ts now = false ∧ S1 = ⟨0, 0, 0, 0, 0⟩ ∧ N1 = 0 ∧ L1 = L ∧ T1 = [] ∧ p1 = pk0 ∧ ok = false) ∨
  (mayP s N L ts now = true ∧ noneB ts s.nx now = true ∧ S1 = s ∧ N1 = 4 ∧ L1 = L ∧ T1 = ts ∧ p1 = pk0 ∧ ok = false) ∨
  (mayP s N L ts now = true ∧ noneB ts s.nx now = false ∧ ∃ K, StopK ts s.qt (fun i => (L i).sh) K ∧ S1 = ⟨s.rt, s.ov, now + costF s ((L (popHost ts K)).f 0).size, s.qt, s.lim⟩ ∧ N1 = 4 ∧ L1 = popLn L (shK ts s.qt (fun i => (L i).sh) K) (popHost ts K) ∧ T1 = popTs L ts K ∧ p1 = (L (popHost ts K)).f 0 ∧ ok = true)
theorem PopIs.uniq {s : Sh} {N : Nat} {L : Nat → Ln} {ts : List Int} {now : Int} {S1 S2 : Sh} {N1 N2 : Nat} {L1 L2 : Nat → Ln} {T1 T2 : List Int} {p1 p2 : Pk} {ok ok' : Bool} (h : PopIs s N L ts now S1 N1 L1 T1 p1 ok) (h' : PopIs s N L ts now S2 N2 L2 T2 p2 ok') :
    S2 = S1 ∧ N2 = N1 ∧ L2 = L1 ∧ T2 = T1 ∧ p2 = p1 ∧ ok' = ok := by
  rcases h with ⟨a, rfl, rfl, rfl, rfl, rfl, rfl⟩ | ⟨a, b, rfl, rfl, rfl, rfl, rfl, rfl⟩ | ⟨a, b, K, hK, rfl, rfl, rfl, rfl, rfl, rfl⟩
  · rcases h' with ⟨c, rfl, rfl, rfl, rfl, rfl, rfl⟩ | ⟨c, _⟩ | ⟨c, _⟩
    · exact ⟨rfl, rfl, rfl, rfl, rfl, rfl⟩
    · rw [a] at c; cases c
    · rw [a] at c; cases c
  · rcases h' with ⟨c, _⟩ | ⟨c, d, rfl, rfl, rfl, rfl, rfl, rfl⟩ | ⟨c, d, _⟩
    · rw [a] at c; cases c
    · exact ⟨rfl, rfl, rfl, rfl, rfl, rfl⟩
    · rw [b] at d; cases d
  · rcases h' with ⟨c, _⟩ | ⟨c, d, _⟩ | ⟨c, d, K', hK', rfl, rfl, rfl, rfl, rfl, rfl⟩
    · rw [a] at c; cases c
    · rw [b] at d; cases d
    · obtain rfl := hK.uniq hK'
      exact ⟨rfl, rfl, rfl, rfl, rfl, rfl⟩
theorem none_no {ts : List Int} {nx now : Int} (h : noneB ts nx now = false) : ts ≠ [] ∧ ¬ now < nx := by
  unfold noneB at h
  have := of_decide_eq_false h
  exact ⟨fun e => this (.inl e), fun e => this (.inr e)⟩
theorem stop_ex {s : Sh} {L : Nat → Ln} {ts : List Int} (hs : shP s 4 L ts) (hne : ts ≠ []) : ∃ K, StopK ts s.qt (fun i => (L i).sh) K := by
  have key : ∀ m k, lackM (shK ts s.qt (fun i => (L i).sh) k) ≤ m → Past ts s.qt (fun i => (L i).sh) k → ∃ K, StopK ts s.qt (fun i => (L i).sh) K := by
    intro m
    induction m with
    | zero =>
      intro k hm hp
      obtain ⟨h, hh, h4, _⟩ := tAt_bd hs.2.2.2.1 hne k
      refine ⟨k, ?_, hp⟩
      rw [hh, Int.toNat_natCast]
      unfold lackM at hm
      have hc : h = 0 ∨ h = 1 ∨ h = 2 ∨ h = 3 := by omega
      rcases hc with rfl | rfl | rfl | rfl <;> omega
    | succ m ih =>
      intro k hm hp
      obtain ⟨h, hh, h4, _⟩ := tAt_bd hs.2.2.2.1 hne k
      by_cases hle : shK ts s.qt (fun i => (L i).sh) k h ≤ 0
      · have hl := lack_less hs.1.2.2.2.1.1 hh h4 hle
        exact ih (k + 1) (by omega) (hp.next (by rw [hh, Int.toNat_natCast]; exact hle))
      · exact ⟨k, by rw [hh, Int.toNat_natCast]; omega, hp⟩
  exact key _ 0 (Nat.le_refl _) (Past.zero _ _ _)
theorem PopIs.total (s : Sh) (N : Nat) (L : Nat → Ln) (ts : List Int) (now : Int) : ∃ (S1 : Sh) (N1 : Nat) (L1 : Nat → Ln) (T1 : List Int) (p1 : Pk) (ok : Bool), PopIs s N L ts now S1 N1 L1 T1 p1 ok := by
  cases h : mayP s N L ts now
  · exact ⟨_, _, _, _, _, _, .inl ⟨h, rfl, rfl, rfl, rfl, rfl, rfl⟩⟩
  · cases h2 : noneB ts s.nx now
    · obtain ⟨hs, _, _⟩ := mayP_parts h
      obtain rfl : N = 4 := hs.2.1
      obtain ⟨K, hK⟩ := stop_ex hs (none_no h2).1
      exact ⟨_, _, _, _, _, _, .inr (.inr ⟨h, h2, K, hK, rfl, rfl, rfl, rfl, rfl, rfl⟩)⟩
    · exact ⟨_, _, _, _, _, _, .inr (.inl ⟨h, h2, rfl, rfl, rfl, rfl, rfl, rfl⟩)⟩
theorem popLn_n (L : Nat → Ln) (sh : Nat → Int) (h i : Nat) : (popLn L sh h i).n ≤ (L i).n := by
  unfold popLn
  by_cases e : i = h
  · rw [if_pos e, e]; exact Nat.sub_le _ _
  · rw [if_neg e]; exact Nat.le_refl _
theorem popLn_cnt (L : Nat → Ln) (sh : Nat → Int) (h : Nat) : ∀ N, cntF (popLn L sh h) N ≤ cntF L N
  | 0 => Nat.le_refl _
  | N + 1 => by rw [cntF_succ, cntF_succ]; have := popLn_cnt L sh h N; have := popLn_n L sh h N; omega
theorem popTs_len (L : Nat → Ln) (ts : List Int) (K : Nat) : (popTs L ts K).length ≤ ts.length := by
  unfold popTs
  split
  · rw [List.length_drop, rotT_len]; omega
  · rw [rotT_len]; exact Nat.le_refl _
theorem PopIs.bd {s : Sh} {N : Nat} {L : Nat → Ln} {ts : List Int} {now : Int} {S1 : Sh} {N1 : Nat} {L1 : Nat → Ln} {T1 : List Int} {p1 : Pk} {ok : Bool} (h : PopIs s N L ts now S1 N1 L1 T1 p1 ok) : N1 ≤ 4 ∧ cntF L1 N1 ≤ 1048576 ∧ T1.length ≤ 1048576 := by
  have len4 : shP s 4 L ts → ts.length ≤ 4 := fun hs => by
    have h1 := (show List.Perm _ _ from hs.2.2.2.1).length_eq
    have h2 := wl_len L 4
    omega
  have cnt : shP s 4 L ts → cntF L 4 ≤ 40 := fun hs => by
    have := hs.2.2.1
    have := hs.1.2.2.2.2.2
    omega
  rcases h with ⟨a, rfl, rfl, rfl, rfl, rfl, rfl⟩ | ⟨a, b, rfl, rfl, rfl, rfl, rfl, rfl⟩ | ⟨a, b, K, hK, rfl, rfl, rfl, rfl, rfl, rfl⟩
  · exact ⟨by omega, Nat.zero_le _, Nat.zero_le _⟩
  · obtain ⟨hs, _⟩ := mayP_parts a
    obtain rfl : N = 4 := hs.2.1
    have := len4 hs
    have := cnt hs
    exact ⟨by omega, by omega, by omega⟩
  · obtain ⟨hs, _⟩ := mayP_parts a
    obtain rfl : N = 4 := hs.2.1
    have := len4 hs
    have := cnt hs
    have := popTs_len L ts K
    have := popLn_cnt L (shK ts s.qt (fun i => (L i).sh) K) (popHost ts K) 4
    exact ⟨by omega, by omega, by omega⟩

/-- A list as a sequence. -/
def seqT (l : List Int) : Nat → Int := fun i => l.getD i 0
theorem seqT_of {n : Nat} {f : Nat → Int} {l : List Int} (h : (List.range n).map f = l) : n = l.length ∧ ∀ i, i < n → f i = seqT l i := by
  subst h
  refine ⟨by simp, fun i hi => ?_⟩
  simp [seqT, List.getD, hi]

end Go.Proofs.Ytmjggolllijamaa
