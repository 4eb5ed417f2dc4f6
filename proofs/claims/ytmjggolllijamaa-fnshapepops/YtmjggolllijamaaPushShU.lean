/-
  A PACKET COMES TO A SHAPER, AS THE SPECIFICATION SAYS: ShapePush.
-/
import Derived.Test.YtmjggolllijamaaPushShT
import Derived.Test.YtmjggolllijamaaShapeS
namespace Go.Proofs.Ytmjggolllijamaa
open Go.RowKit
set_option linter.unusedVariables false

/-- What comes of it. -/
def outL (s : Sh) (L : Nat → Ln) (p : Pk) : Nat → Ln := if shpB s L p then shpL s L p p.host.toNat else L
def outT (s : Sh) (L : Nat → Ln) (ts : List Int) (p : Pk) : List Int := if shpB s L p then shpT L ts p.host.toNat else ts
/-- May it come at all? -/
def mayB (s : Sh) (N : Nat) (L : Nat → Ln) (ts : List Int) (p : Pk) : Bool := shB s N L ts && p.good
theorem may_parts {s : Sh} {N : Nat} {L : Nat → Ln} {ts : List Int} {p : Pk} (h : mayB s N L ts p = true) : shP s N L ts ∧ p.good = true := by
  unfold mayB shB at h
  simp only [Bool.and_eq_true, decide_eq_true_eq] at h
  exact h
theorem host_of {p : Pk} (h : p.good = true) : p.host = ((p.host.toNat : Nat) : Int) ∧ p.host.toNat < 4 := by
  unfold Pk.good inB at h
  simp only [Bool.and_eq_true, decide_eq_true_eq] at h
  omega
theorem has_turn {s : Sh} {L : Nat → Ln} {n : Nat} {tn : Nat → Int} (h : shP s 4 L ((List.range n).map tn)) {j : Nat} (hj : j < 4) : hasB tn n (j : Int) = decide ((L j).n ≠ 0) := by
  unfold hasB
  exact decide_eq_decide.2 ((turn_iff.1 h.2.2.2.1).2.2 j hj).symm
theorem turn_len {s : Sh} {L : Nat → Ln} {n : Nat} {tn : Nat → Int} (h : shP s 4 L ((List.range n).map tn)) : n ≤ 4 := by
  have h1 := (show List.Perm _ _ from h.2.2.2.1).length_eq
  have h2 := wl_len L 4
  simp at h1
  omega
theorem ret_shb2 {fn : Func} {tmps : Array Value} {W : World} {i j B : Nat} {v0 v1 v2 v3 v4 v5 v6 : Value} {b : Bool} {t : TypeId} (hr : fn.results = #[.cell i 29, .tmp j]) (hi : tmps[i]?.getD undef = .pointer (some ⟨B, 0, none⟩)) (hj : tmps[j]?.getD undef = .bool b) (hs : Sits W B #[v0, v1, v2, v3, v4, v5, v6] t) : (results fn tmps).run Try.prog W = .ok (.tuple #[.agg #[v0, v1, v2, v3, v4, v5, v6], .bool b]) W := by
  have c0 : W.cell? ⟨B, 0, none⟩ = some v0 := hs.cell 0
  have c1 : W.cell? ⟨B, 1, none⟩ = some v1 := hs.cell 1
  have c2 : W.cell? ⟨B, 2, none⟩ = some v2 := hs.cell 2
  have c3 : W.cell? ⟨B, 3, none⟩ = some v3 := hs.cell 3
  have c4 : W.cell? ⟨B, 4, none⟩ = some v4 := hs.cell 4
  have c5 : W.cell? ⟨B, 5, none⟩ = some v5 := hs.cell 5
  have c6 : W.cell? ⟨B, 6, none⟩ = some v6 := hs.cell 6
  simp [results, hr, hi, hj, go_sem, c0, c1, c2, c3, c4, c5, c6]
theorem cnt_more (s : Sh) (L : Nat → Ln) (p : Pk) (h : Nat) (N : Nat) : cntF (shpL s L p h) N ≤ cntF L N + 1 := by
  have : ∀ N, (h < N → cntF (shpL s L p h) N = cntF L N + 1) ∧ (¬ h < N → cntF (shpL s L p h) N = cntF L N) := by
    intro N
    induction N with
    | zero => exact ⟨fun e => absurd e (Nat.not_lt_zero _), fun _ => rfl⟩
    | succ N ih =>
      rw [cntF_succ, cntF_succ]
      by_cases e : N = h
      · subst e
        rw [ih.2 (Nat.lt_irrefl _)]
        have : (shpL s L p N N).n = (L N).n + 1 := by unfold shpL shpLn; simp
        rw [this]
        exact ⟨fun _ => by omega, fun e => absurd (Nat.lt_succ_self _) e⟩
      · have : (shpL s L p h N).n = (L N).n := by unfold shpL; rw [if_neg e]
        rw [this]
        by_cases e2 : h < N
        · rw [ih.1 e2]; exact ⟨fun _ => by omega, fun e3 => absurd (by omega) e3⟩
        · rw [ih.2 e2]; exact ⟨fun e3 => by omega, fun _ => rfl⟩
  by_cases e : h < N
  · rw [(this N).1 e]; exact Nat.le_refl _
  · rw [(this N).2 e]; omega

end Go.Proofs.Ytmjggolllijamaa
