/-
  MORE BYTES, none too, ONTO A LIST OF BYTES THAT IS ONE'S OWN.
-/
import Derived.Test.YtcfkmkkgeoaaeaaDoorAppBy
namespace Go.Proofs.YtcfkmkkgeoaaeaaDoor
open Go.RowKit
set_option linter.unusedVariables false

/-- f, and g behind it. -/
def joinF (f : Nat → Int) (m : Nat) (g : Nat → Int) (i : Nat) : Int := if i < m then f i else g (i - m)
theorem byL_get (f : Nat → Int) (m j : Nat) (hj : j < m) : (byL f m)[j]? = some (.int .u8 (f j)) := by simp [byL, hj]
theorem byL_join (f : Nat → Int) (m : Nat) (g : Nat → Int) (k : Nat) : byL f m ++ byL g k = byL (joinF f m g) (m + k) := by
  apply List.ext_getElem?
  intro j
  by_cases h1 : j < m
  · rw [List.getElem?_append_left (by rw [byL_len]; exact h1), byL_get _ _ _ h1, byL_get _ _ _ (by omega)]
    unfold joinF
    rw [if_pos h1]
  · rw [List.getElem?_append_right (by rw [byL_len]; omega), byL_len]
    by_cases h2 : j < m + k
    · rw [byL_get _ _ _ (by omega), byL_get _ _ _ h2]
      unfold joinF
      rw [if_neg h1]
    · rw [List.getElem?_eq_none (by rw [byL_len]; omega), List.getElem?_eq_none (by rw [byL_len]; omega)]

theorem wp_append_byN {w : World} {o : Oper} {a : Act} {K : Act → World → Prop} {Q : Exit → Act → World → Prop} (s x : Operand)
    (ho : o.op = .call { callee := .builtin .append, args := #[s, x], argTypes := #[27, 27] })
    (base : Nat) (y : Option Addr) (m cap : Nat) (f : Nat → Int) (hs : a.eval s = .slice y m cap) (hown : BO base w y m cap f)
    (ad : Option Addr) (k c : Nat) (g : Nat → Int) (hx : a.eval x = .slice ad k c) (hr : Row .u8 w ad k g) (hm : m + k ≤ 1048576) (hbase : base ≤ w.heap.size)
    (h : ∀ a' cap' w', BO base w' a' (m + k) cap' (joinF f m g) → w.grownBy w' (Value.slice y m cap).ownBlock → K (a.put o.dst (.slice a' (m + k) cap')) w') : o.wp Tryd.prog a w K Q := by
  obtain ⟨i0, hi0, hz0, hz1, hz2⟩ := info_parts infoU8
  by_cases h0 : k = 0
  · subst h0
    unfold Oper.wp execOp
    simp only [ho, resolve, invoke, builtin, Sem.run_bind, Sem.run_pure, Result.andThen_ok, List.map_toArray, List.map_cons, List.map_nil, hs, hx, append_none Tryd.prog w 27 o.type 5 i0 Tryd.underlying27 hi0 y m cap hown.cap ad c]
    exact h y cap w (hown.congr fun i hi => by unfold joinF; rw [if_pos hi]) (World.grownBy.refl _ _)
  · obtain ⟨b, off, rfl, hb, hc⟩ := Row.at hr (j := 0) (by omega)
    have hone : ∀ u ∈ byL g k, u.oneCell' = true := by
      intro u hu
      obtain ⟨j, _, rfl⟩ := List.mem_map.1 hu
      rfl
    refine wp_append_lies w s x 27 ho base 5 i0 (.int .u8 0) 1 1 Tryd.underlying27 hi0 hz0 hz1 hz2 rfl (by omega) _ m (byL f m) hs hown ⟨b, off, none⟩ k c (byL g k) hx (by rw [byL_len]; omega) ?_ hone (by omega) (by unfold maxLen; omega) (by omega) hbase _ rfl ?_
    · intro j u hu
      have hj : j < k := by
        have := (List.getElem?_eq_some_iff.1 hu).1
        rw [byL_len] at this
        exact this
      rw [byL_get _ _ _ hj] at hu
      cases hu
      rw [WideShapes.add_plain]
      exact hc j hj
    · intro g' cp w' h1 h2 h3 h4
      rw [byL_join] at h1
      exact h _ cp w' h1 h2

theorem wpList_append_byN {w : World} {ops : Array Oper} {rest : List Oper} {o : Oper} {a : Act} {Q : Exit → Act → World → Prop} (hgd : o.guard = none) (s x : Operand)
    (ho : o.op = .call { callee := .builtin .append, args := #[s, x], argTypes := #[27, 27] })
    (base : Nat) (y : Option Addr) (m cap : Nat) (f : Nat → Int) (hs : a.eval s = .slice y m cap) (hown : BO base w y m cap f)
    (ad : Option Addr) (k c : Nat) (g : Nat → Int) (hx : a.eval x = .slice ad k c) (hr : Row .u8 w ad k g) (hm : m + k ≤ 1048576) (hbase : base ≤ w.heap.size)
    (h : ∀ a' cap' w', BO base w' a' (m + k) cap' (joinF f m g) → w.grownBy w' (Value.slice y m cap).ownBlock → wpList Tryd.prog ops Q rest (a.put o.dst (.slice a' (m + k) cap')) w') : wpList Tryd.prog ops Q (o :: rest) a w :=
  wpList_plain hgd fun _ hK => wp_append_byN s x ho base y m cap f hs hown ad k c g hx hr hm hbase fun a' cap w' h2 h3 => hK _ _ (h a' cap w' h2 h3)

end Go.Proofs.YtcfkmkkgeoaaeaaDoor
