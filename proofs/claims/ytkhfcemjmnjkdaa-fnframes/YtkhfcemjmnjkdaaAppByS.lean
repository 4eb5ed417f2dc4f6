/-
  A BYTE OF A LIST THAT IS ONE'S OWN IS WRITTEN; append at a step of a region that draws its order.
-/
import Derived.Test.YtkhfcemjmnjkdaaAppByN
namespace Go.Proofs.Ytkhfcemjmnjkdaa
open Go.RowKit
set_option linter.unusedVariables false

theorem BO.at {base : Nat} {w : World} {x : Option Addr} {m cap : Nat} {f : Nat → Int} (h : BO base w x m cap f) (h0 : 0 < m) : ∃ g, x = some ⟨g, 0, none⟩ ∧ base ≤ g ∧ g < w.heap.size ∧ ∀ i, i < m → w.cell? ⟨g, i, none⟩ = some (.int .u8 (f i)) ∧ w.frozen? ⟨g, i, none⟩ = false := by
  rcases h.fresh with h1 | ⟨g, rfl, hg, ho⟩
  · omega
  · exact ⟨g, rfl, hg, ho.1, ho.2⟩
theorem BO.set {base : Nat} {w : World} {g m cap : Nat} {f : Nat → Int} (h : BO base w (some ⟨g, 0, none⟩) m cap f) (j : Nat) (hj : j < m) (v : Int) : BO base (w.setCell ⟨g, j, none⟩ (.int .u8 v)) (some ⟨g, 0, none⟩) m cap (fun i => if i = j then v else f i) := by
  obtain ⟨hl, ⟨hv, h0⟩ | ⟨g', cp, cur, hv, hb, hh, h1, h2, h3, h4⟩⟩ := h
  · cases hv
  · simp only [Value.slice.injEq, Option.some.injEq, Addr.mk.injEq] at hv
    obtain ⟨⟨rfl, _⟩, _, rfl⟩ := hv
    refine ⟨by simp [byL], .inr ⟨g, cap, cur.setIfInBounds j (.int .u8 v), rfl, hb, Sits.set (show Sits w g cur _ from hh) j _, h1, h2, by simpa using h3, ?_⟩⟩
    rw [Nat.mul_one] at h4 ⊢
    apply List.ext_getElem?
    intro i
    have e4 := congrArg (fun l => l[i]?) h4
    by_cases hi : i < m
    · rw [byL_get _ _ _ hi]
      rw [List.getElem?_take, if_pos hi]
      simp only [byL_get _ _ _ hi, List.getElem?_take, if_pos hi] at e4
      by_cases hij : i = j
      · subst hij
        rw [if_pos rfl, Array.toList_setIfInBounds, List.getElem?_set_self (by simp; omega)]
      · rw [if_neg hij, Array.toList_setIfInBounds, List.getElem?_set_ne (by omega)]
        exact e4
    · rw [List.getElem?_eq_none (by simp; omega), List.getElem?_eq_none (by rw [byL_len]; omega)]

theorem step_append_byN {w : World} {ops : Array Oper} {o : Oper} {a : Act} {K : Act → World → Prop} {Q : Exit → Act → World → Prop} {E : Prop} (hgd : o.guard = none) (s x : Operand)
    (ho : o.op = .call { callee := .builtin .append, args := #[s, x], argTypes := #[22, 22] })
    (base : Nat) (y : Option Addr) (m cap : Nat) (f : Nat → Int) (hs : a.eval s = .slice y m cap) (hown : BO base w y m cap f)
    (ad : Option Addr) (k c : Nat) (g : Nat → Int) (hx : a.eval x = .slice ad k c) (hr : Row .u8 w ad k g) (hm : m + k ≤ 1048576) (hbase : base ≤ w.heap.size)
    (h : ∀ a' cap' w', BO base w' a' (m + k) cap' (joinF f m g) → w.grownBy w' (Value.slice y m cap).ownBlock → K (a.put o.dst (.slice a' (m + k) cap')) w') :
    if Region.wanted o (yielded ops a.tmps) = true then Oper.wp Try.prog o a w K Q else E := by
  have hw : Region.wanted o (yielded ops a.tmps) = true := by simp [Region.wanted, hgd]
  rw [if_pos hw]
  exact wp_append_byN s x ho base y m cap f hs hown ad k c g hx hr hm hbase h

end Go.Proofs.Ytkhfcemjmnjkdaa
