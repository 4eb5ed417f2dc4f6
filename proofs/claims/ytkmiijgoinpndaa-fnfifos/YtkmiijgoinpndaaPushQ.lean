/-
  ONE MORE BEHIND ALL: Push OF BOTH SIDES.
-/
import Derived.Test.YtkmiijgoinpndaaAppPk
import Derived.Deep.Cut
namespace Go.Proofs.Ytkmiijgoinpndaa
open Go.RowKit
set_option linter.unusedVariables false

/-- The list with p behind its first n. -/
def pushF (f : Nat → Pk) (n : Nat) (p : Pk) : Nat → Pk := fun i => if i = n then p else f i
def pushOk (f : Nat → Pk) (n : Nat) (lim : Int) (p : Pk) : Bool := fifoB f n lim && p.good
def pushN (f : Nat → Pk) (n : Nat) (lim : Int) (p : Pk) : Nat := if pushOk f n lim p then (if fifoB (pushF f n p) (n + 1) lim then n + 1 else n) else 0
def pushL (f : Nat → Pk) (n : Nat) (lim : Int) (p : Pk) : Int := if pushOk f n lim p then lim else 0
def pushB (f : Nat → Pk) (n : Nat) (lim : Int) (p : Pk) : Bool := pushOk f n lim p && fifoB (pushF f n p) (n + 1) lim
theorem PO.congr {base : Nat} {w : World} {x : Option Addr} {m cap : Nat} {f g : Nat → Pk} (h : PO base w x m cap f) (e : ∀ i, i < m → f i = g i) : PO base w x m cap g := by
  have : cellsL f m = cellsL g m := by
    unfold cellsL
    refine List.map_congr_left fun o ho => ?_
    have ho' : o < m * 6 := List.mem_range.1 ho
    unfold flat
    rw [e (o / 6) (by omega)]
  unfold PO at *
  rw [← this]
  exact h

theorem fifo_lim {f : Nat → Pk} {n : Nat} {lim : Int} (h : fifoB f n lim = true) : (n : Int) ≤ 40 := by
  unfold fifoB inB at h
  simp only [Bool.and_eq_true, decide_eq_true_eq] at h
  omega
theorem pushN_le (f : Nat → Pk) (n : Nat) (lim : Int) (p : Pk) (hn : n ≤ 1048576) : pushN f n lim p ≤ 1048576 := by
  unfold pushN
  cases ho : pushOk f n lim p
  · simp
  · have hf : fifoB f n lim = true := by unfold pushOk at ho; simp at ho; exact ho.1
    have := fifo_lim hf
    simp only [if_true]
    split <;> omega

end Go.Proofs.Ytkmiijgoinpndaa
