/-
  TURNS PASSED ON, BY NUMBERS: who may send, and how short each one is then.
-/
import Derived.Test.YtmjggolllijamaaShapeB
namespace Go.Proofs.Ytmjggolllijamaa
open Go.RowKit
set_option linter.unusedVariables false

/-- Whose turn it is behind k turns passed. -/
def tAt (ts : List Int) (k : Nat) : Int := ts.getD (k % ts.length) 0
/-- How short each one is behind k turns passed. -/
def shK (ts : List Int) (q : Int) (sh : Nat → Int) : Nat → Nat → Int
  | 0, i => sh i
  | k + 1, i => if (i : Int) = tAt ts k then shK ts q sh k i + q else shK ts q sh k i
/-- All that had a turn ahead of K were short of bytes. -/
def Past (ts : List Int) (q : Int) (sh : Nat → Int) (K : Nat) : Prop := ∀ j, j < K → shK ts q sh j (tAt ts j).toNat ≤ 0
def StopK (ts : List Int) (q : Int) (sh : Nat → Int) (K : Nat) : Prop := 0 < shK ts q sh K (tAt ts K).toNat ∧ Past ts q sh K
theorem StopK.uniq {ts : List Int} {q : Int} {sh : Nat → Int} {K K' : Nat} (h : StopK ts q sh K) (h' : StopK ts q sh K') : K = K' := by
  rcases Nat.lt_trichotomy K K' with e | e | e
  · have := h'.2 K e; have := h.1; omega
  · exact e
  · have := h.2 K' e; have := h'.1; omega
theorem Past.zero (ts : List Int) (q : Int) (sh : Nat → Int) : Past ts q sh 0 := fun j hj => absurd hj (Nat.not_lt_zero _)
theorem Past.next {ts : List Int} {q : Int} {sh : Nat → Int} {K : Nat} (h : Past ts q sh K) (h2 : shK ts q sh K (tAt ts K).toNat ≤ 0) : Past ts q sh (K + 1) := fun j hj => by
  rcases (show j < K ∨ j = K by omega) with e | rfl
  · exact h j e
  · exact h2
theorem tAt_mem {ts : List Int} (h : ts ≠ []) (k : Nat) : tAt ts k ∈ ts := by
  have hl : 0 < ts.length := List.length_pos_iff.2 h
  have := Nat.mod_lt k hl
  unfold tAt
  rw [List.getD_eq_getElem?_getD, List.getElem?_eq_getElem this]
  exact List.getElem_mem this
theorem tAt_bd {L : Nat → Ln} {ts : List Int} (h : turnP L ts) (hne : ts ≠ []) (k : Nat) : ∃ h : Nat, tAt ts k = (h : Int) ∧ h < 4 ∧ (L h).n ≠ 0 := by
  have hm := tAt_mem hne k
  obtain ⟨i, h1, h2, h3⟩ := mem_wl.1 ((show List.Perm _ _ from h).mem_iff.1 hm)
  exact ⟨i, h3.symm, h1, h2⟩
theorem shK_hit {ts : List Int} {q : Int} {sh : Nat → Int} {k h : Nat} (e : tAt ts k = (h : Int)) : shK ts q sh (k + 1) = fun i => if i = h then shK ts q sh k h + q else shK ts q sh k i := by
  funext i
  show (if (i : Int) = tAt ts k then _ else _) = _
  rw [e]
  by_cases hi : i = h
  · subst hi; simp
  · rw [if_neg (by omega), if_neg hi]
/-- Nobody is further in debt, or in credit, than at the beginning. -/
theorem shK_bd {ts : List Int} {q : Int} {sh : Nat → Int} (hq0 : 1 ≤ q) (hq1 : q ≤ 10000) (hs : ∀ i, i < 4 → -2000 ≤ sh i ∧ sh i ≤ 12000) : ∀ k, Past ts q sh k → ∀ i, i < 4 → -2000 ≤ shK ts q sh k i ∧ shK ts q sh k i ≤ 12000
  | 0, _, i, hi => hs i hi
  | k + 1, hp, i, hi => by
    have ih := shK_bd hq0 hq1 hs k (fun j hj => hp j (by omega)) i hi
    have h2 := hp k (by omega)
    show -2000 ≤ (if (i : Int) = tAt ts k then _ else _) ∧ (if (i : Int) = tAt ts k then _ else _) ≤ 12000
    by_cases e : (i : Int) = tAt ts k
    · rw [if_pos e]
      have : (tAt ts k).toNat = i := by omega
      rw [this] at h2
      omega
    · rw [if_neg e]; exact ih
/-- How much lacks. -/
def lackM (f : Nat → Int) : Nat := (1 - f 0).toNat + (1 - f 1).toNat + (1 - f 2).toNat + (1 - f 3).toNat
theorem lack_less {ts : List Int} {q : Int} {sh : Nat → Int} {k h : Nat} (hq : 1 ≤ q) (e : tAt ts k = (h : Int)) (h4 : h < 4) (hle : shK ts q sh k h ≤ 0) : lackM (shK ts q sh (k + 1)) < lackM (shK ts q sh k) := by
  rw [shK_hit e]
  unfold lackM
  have hc : h = 0 ∨ h = 1 ∨ h = 2 ∨ h = 3 := by omega
  rcases hc with rfl | rfl | rfl | rfl <;> simp <;> omega

/-- Lines whose shortages are others. -/
def lnSh (L : Nat → Ln) (sh : Nat → Int) : Nat → Ln := fun i => ⟨(L i).n, (L i).f, sh i, (L i).cd⟩
theorem lnSh_self (L : Nat → Ln) : lnSh L (fun i => (L i).sh) = L := rfl
theorem lnSh_cnt (L : Nat → Ln) (sh : Nat → Int) (N : Nat) : cntF (lnSh L sh) N = cntF L N := rfl
/-- Turns behind k of them passed. -/
def rotT (ts : List Int) (k : Nat) : List Int := (List.range ts.length).map fun i => tAt ts (k + i)
theorem rotT_len (ts : List Int) (k : Nat) : (rotT ts k).length = ts.length := by simp [rotT]
theorem tAt_lt {ts : List Int} {i : Nat} (hi : i < ts.length) : tAt ts i = ts.getD i 0 := by unfold tAt; rw [Nat.mod_eq_of_lt hi]
theorem tAt_mod (ts : List Int) (k : Nat) : tAt ts (k % ts.length) = tAt ts k := by unfold tAt; rw [Nat.mod_mod]
theorem tAt_add_mod (ts : List Int) (k i : Nat) : tAt ts (k % ts.length + i) = tAt ts (k + i) := by unfold tAt; rw [Nat.mod_add_mod]
theorem rotT_zero (ts : List Int) : rotT ts 0 = ts := by
  unfold rotT
  apply List.ext_getElem (by simp)
  intro i h1 h2
  simp only [List.getElem_map, List.getElem_range, Nat.zero_add]
  rw [tAt_lt h2, List.getD_eq_getElem?_getD, List.getElem?_eq_getElem h2]; rfl
theorem tAt_len (ts : List Int) (k : Nat) : tAt ts (k + ts.length) = tAt ts k := by unfold tAt; rw [Nat.add_mod_right]
theorem rotT_get {ts : List Int} {k i : Nat} (hi : i < ts.length) : (rotT ts k).getD i 0 = tAt ts (k + i) := by
  unfold rotT
  rw [List.getD_eq_getElem?_getD, List.getElem?_map, List.getElem?_range hi]; rfl
@[reducible] def pk0 : Pk := ⟨0, 0, 0, 0, 0, 0⟩
/-- Does nobody go out yet? -/
def noneB (ts : List Int) (nx now : Int) : Bool := decide (ts = [] ∨ now < nx)
/-- Who goes out. -/
def popHost (ts : List Int) (K : Nat) : Nat := (tAt ts K).toNat
/-- What is left. -/
def popLn (L : Nat → Ln) (sh : Nat → Int) (h : Nat) : Nat → Ln := fun i => if i = h then ⟨(L h).n - 1, fun k => (L h).f (k + 1), sh h - ((L h).f 0).size, (L h).cd⟩ else ⟨(L i).n, (L i).f, sh i, (L i).cd⟩
def popTs (L : Nat → Ln) (ts : List Int) (K : Nat) : List Int := if (L (popHost ts K)).n = 1 then (rotT ts K).drop 1 else rotT ts K

end Go.Proofs.Ytmjggolllijamaa
