/-
  HOW MANY BYTES THERE ARE: Bytes OF BOTH SIDES.
-/
import Derived.Test.YtmjggolllijamaaQOps
namespace Go.Proofs.Ytmjggolllijamaa
open Go.RowKit Go.Shelf
set_option linter.unusedVariables false
attribute [local go_sem] Oper.semAt_some

def sumF (f : Nat → Pk) (n : Nat) : Int := ((List.range n).map fun j => (f j).size).sum
theorem sumF_succ (f : Nat → Pk) (n : Nat) : sumF f (n + 1) = sumF f n + (f n).size := by
  unfold sumF; rw [List.range_succ, List.map_append, List.sum_append]; simp
theorem sumF_bd (f : Nat → Pk) (n : Nat) (h : ∀ j, j < n → 1 ≤ (f j).size ∧ (f j).size ≤ 2000) : 0 ≤ sumF f n ∧ sumF f n ≤ 2000 * (n : Int) := by
  induction n with
  | zero => simp [sumF]
  | succ n ih =>
    have := ih (fun j hj => h j (by omega))
    have h2 := h n (by omega)
    rw [sumF_succ]
    omega
def bytesF (f : Nat → Pk) (n : Nat) (lim : Int) : Int := if fifoB f n lim = true then sumF f n else 0
def sumL {len : Nat} (f : Nat → Pk) (pre : List (Upto len)) : Int := (pre.map fun x => (f x.1).size).sum
theorem sumL_snoc {len : Nat} (f : Nat → Pk) (pre : List (Upto len)) (x : Upto len) : sumL f (pre ++ [x]) = sumL f pre + (f x.1).size := by
  unfold sumL; rw [List.map_append, List.sum_append]; simp
theorem sumL_bd {len : Nat} (f : Nat → Pk) (h : ∀ j, j < len → 1 ≤ (f j).size ∧ (f j).size ≤ 2000) : ∀ pre : List (Upto len), 0 ≤ sumL f pre ∧ sumL f pre ≤ 2000 * (pre.length : Int)
  | [] => by simp [sumL]
  | x :: pre => by
    have := sumL_bd f h pre
    have h2 := h x.1 x.2
    unfold sumL at *
    simp only [List.map_cons, List.sum_cons, List.length_cons]
    omega
theorem sumL_all {len : Nat} (f : Nat → Pk) (zs : List (Upto len)) (h : zs.map (·.1) = List.range len) : sumL f zs = sumF f len := by
  unfold sumL sumF; rw [← h, List.map_map]; rfl

end Go.Proofs.Ytmjggolllijamaa
