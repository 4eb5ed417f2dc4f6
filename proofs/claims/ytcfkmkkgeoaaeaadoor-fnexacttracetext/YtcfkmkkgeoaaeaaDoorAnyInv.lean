/-
  A REGION THAT DRAWS ITS ORDER, BY AN INVARIANT: what each operation keeps that is ready, and what says the rest at the end, holds whatever the order.
-/
import Derived.Test.YtcfkmkkgeoaaeaaDoorBase
namespace Go.Proofs.YtcfkmkkgeoaaeaaDoor
open Go.RowKit
set_option linter.unusedVariables false

theorem count_set {l : List Bool} : ∀ {i : Nat}, l[i]? = some false → (l.set i true).count false + 1 = l.count false := by
  induction l with
  | nil => intro i h; simp at h
  | cons b l ih =>
    intro i h
    cases i with
    | zero =>
      simp at h
      subst h
      simp
    | succ i =>
      simp at h
      have := ih h
      simp only [List.set_cons_succ]
      cases b <;> simp at this ⊢ <;> omega

theorem ready_at {md : Region.Mode} {ops : Array Oper} {listed : Array Bool} {i : Nat} (h : i ∈ Region.ready md ops listed) : i < ops.size ∧ listed.toList[i]? = some false := by
  unfold Region.ready at h
  simp only [List.mem_filter, List.mem_range, Bool.and_eq_true, Bool.not_eq_true'] at h
  refine ⟨h.1, ?_⟩
  have h2 := h.2.1
  rw [Array.getElem?_toList]
  cases e : listed[i]? with
  | none => simp [Array.getD_eq_getD_getElem?, e] at h2
  | some b => simp [Array.getD_eq_getD_getElem?, e] at h2; rw [h2]

/-- The rule. -/
theorem wpAny_inv {P : Program} {md : Region.Mode} {ops : Array Oper} {Q : Exit → Act → World → Prop} {Inv : Array Bool → Act → World → Prop}
    (step : ∀ listed a w i, Inv listed a w → i ∈ Region.ready md ops listed → wpOp P ops Q i (Inv (listed.setIfInBounds i true)) a w)
    (fin : ∀ listed a w, Inv listed a w → Region.ready md ops listed = [] → Q .normal a w) :
    ∀ (fuel : Nat) (listed : Array Bool) (a : Act) (w : World), listed.toList.count false ≤ fuel → Inv listed a w → wpAny P md ops Q fuel listed a w := by
  intro fuel
  induction fuel with
  | zero =>
    intro listed a w hc hi
    have hr : Region.ready md ops listed = [] := by
      cases e : Region.ready md ops listed with
      | nil => rfl
      | cons i rest =>
        have h := ready_at (md := md) (ops := ops) (listed := listed) (i := i) (by rw [e]; simp)
        have := count_set h.2
        omega
    exact ⟨hr, fin listed a w hi hr⟩
  | succ fuel ih =>
    intro listed a w hc hi
    refine ⟨fun hr => fin listed a w hi hr, fun i him => ?_⟩
    have h := ready_at him
    have hcs := count_set h.2
    refine wpOp_mono (fun a' w' hi' => ih _ a' w' ?_ hi') (step listed a w i hi him)
    rw [Array.toList_setIfInBounds]
    omega

/-- .. of a region. -/
theorem wp_region_inv {P : Program} {id : Nat} {ops : Array Oper} {Q : Exit → Act → World → Prop} {a : Act} {w : World} (hm : P.follows .mixedOrders = true) {Inv : Array Bool → Act → World → Prop}
    (start : Inv (Array.replicate ops.size false) a w.drew)
    (step : ∀ listed a w i, Inv listed a w → i ∈ Region.ready .any ops listed → wpOp P ops Q i (Inv (listed.setIfInBounds i true)) a w)
    (fin : ∀ listed a w, Inv listed a w → Region.ready .any ops listed = [] → Q .normal a w) : (Code.region id ops true).wp P Q a w :=
  wp_region_any hm (wpAny_inv step fin ops.size _ a _ (by simp) start)

end Go.Proofs.YtcfkmkkgeoaaeaaDoor
