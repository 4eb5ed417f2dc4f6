/-
  THE FLOWS OF A QUEUE BY NUMBERS: where the packets of one flow stand; all flows have all packets.
-/
import Derived.Test.YtjojodgjddlkhabOfQ
import Derived.Test.YtjojodgjddlkhabQBytes
namespace Go.Proofs.Ytjojodgjddlkhab
open Go.RowKit
set_option linter.unusedVariables false

/-- Where those of one flow stand. -/
def posF (f : Nat → Pk) (flow : Int) (n : Nat) : List Nat := (List.range n).filter fun j => decide ((f j).flow = flow)
theorem ofF_pos (f : Nat → Pk) (flow : Int) (n : Nat) : ofF f flow n = (posF f flow n).map fun j => (f j).id := rfl
theorem ofF_pos_len (f : Nat → Pk) (flow : Int) (n : Nat) : (ofF f flow n).length = (posF f flow n).length := by rw [ofF_pos, List.length_map]
theorem pos_lt {f : Nat → Pk} {flow : Int} {n i : Nat} (hi : i < (posF f flow n).length) : (posF f flow n)[i] < n := by
  have := List.getElem_mem hi
  unfold posF at this
  rw [List.mem_filter, List.mem_range] at this
  exact this.1
theorem pos_sorted (f : Nat → Pk) (flow : Int) (n : Nat) : (posF f flow n).Pairwise (· < ·) := (List.pairwise_lt_range).filter _
theorem pos_mono {f : Nat → Pk} {flow : Int} {n i j : Nat} (hij : i < j) (hj : j < (posF f flow n).length) : (posF f flow n)[i]'(by omega) < (posF f flow n)[j] :=
  List.pairwise_iff_getElem.1 (pos_sorted f flow n) i j (by omega) hj hij
/-- How far one has come: what stands behind the last one that was met. -/
def lastP (f : Nat → Pk) (flow : Int) (n i : Nat) : Int := if h : 0 < i ∧ i ≤ (posF f flow n).length then ((posF f flow n)[i - 1]'(by omega) : Int) else -1
theorem lastP_0 (f : Nat → Pk) (flow : Int) (n : Nat) : lastP f flow n 0 = -1 := by unfold lastP; rw [dif_neg (by omega)]
theorem lastP_succ {f : Nat → Pk} {flow : Int} {n i : Nat} (hi : i < (posF f flow n).length) : lastP f flow n (i + 1) = ((posF f flow n)[i] : Int) := by
  unfold lastP; rw [dif_pos ⟨by omega, by omega⟩]; rfl
theorem lastP_lt {f : Nat → Pk} {flow : Int} {n i : Nat} (hi : i < (posF f flow n).length) : lastP f flow n i < ((posF f flow n)[i] : Int) := by
  cases i with
  | zero => rw [lastP_0]; omega
  | succ i =>
    rw [lastP_succ (by omega)]
    have := pos_mono (f := f) (flow := flow) (n := n) (show i < i + 1 by omega) hi
    omega
theorem lastP_bd (f : Nat → Pk) (flow : Int) (n i : Nat) : -1 ≤ lastP f flow n i ∧ lastP f flow n i < n := by
  unfold lastP
  split
  · rename_i h
    have := pos_lt (f := f) (flow := flow) (n := n) (i := i - 1) (by omega)
    omega
  · omega
/-- The id of the i-th one of a flow stands at its place alone. -/
theorem id_at {f : Nat → Pk} {n : Nat} (h : lineP f n) {flow : Int} {i j : Nat} (hi : i < (posF f flow n).length) (hj : j < n) : (f j).id = (ofF f flow n).getD i 0 ↔ j = (posF f flow n)[i] := by
  have e : (ofF f flow n).getD i 0 = (f ((posF f flow n)[i])).id := by
    rw [ofF_pos, List.getD_eq_getElem?_getD, List.getElem?_map, List.getElem?_eq_getElem hi]; rfl
  rw [e]
  constructor
  · intro he
    have hp := pos_lt (f := f) (flow := flow) (n := n) hi
    rcases Nat.lt_trichotomy j ((posF f flow n)[i]) with hx | hx | hx
    · exact absurd he ((h _ hp).2 j hx).2
    · exact hx
    · exact absurd he.symm ((h _ hj).2 _ hx).2
  · intro he; rw [← he]

/-- How many of the first k flows. -/
def cntK (f : Nat → Pk) (n k : Nat) : Nat := ((List.range k).map fun (m : Nat) => (posF f (m : Int) n).length).sum
theorem cntK_succ (f : Nat → Pk) (n k : Nat) : cntK f n (k + 1) = cntK f n k + (posF f (k : Int) n).length := by
  unfold cntK; rw [List.range_succ, List.map_append, List.sum_append]; simp
theorem pos_step (f : Nat → Pk) (flow : Int) (n : Nat) : (posF f flow (n + 1)).length = (posF f flow n).length + (if (f n).flow = flow then 1 else 0) := by
  unfold posF
  rw [List.range_succ, List.filter_append, List.length_append]
  congr 1
  by_cases h : (f n).flow = flow <;> simp [h]
theorem cnt_step (f : Nat → Pk) (n k : Nat) : cntK f (n + 1) k = cntK f n k + (if 0 ≤ (f n).flow ∧ (f n).flow < k then 1 else 0) := by
  induction k with
  | zero => simp [cntK]
  | succ k ih =>
    rw [cntK_succ, cntK_succ, ih, pos_step]
    by_cases h1 : (f n).flow = (k : Int)
    · rw [if_pos h1, if_neg (by omega), if_pos (by omega)]
      omega
    · rw [if_neg h1]
      by_cases h2 : 0 ≤ (f n).flow ∧ (f n).flow < k
      · rw [if_pos h2, if_pos (by omega)]; omega
      · rw [if_neg h2, if_neg (by omega)]; omega
theorem cnt_le (f : Nat → Pk) (k : Nat) : ∀ n, cntK f n k ≤ n := by
  intro n
  induction n with
  | zero =>
    have : cntK f 0 k = 0 := by
      unfold cntK posF
      induction k with
      | zero => rfl
      | succ k ih => rw [List.range_succ, List.map_append, List.sum_append, ih]; simp
    omega
  | succ n ih => rw [cnt_step]; split <;> omega
theorem cnt_all {f : Nat → Pk} : ∀ {n : Nat}, (∀ j, j < n → 0 ≤ (f j).flow ∧ (f j).flow ≤ 15) → cntK f n 16 = n := by
  intro n
  induction n with
  | zero => intro _; have := cnt_le f 16 0; omega
  | succ n ih =>
    intro h
    rw [cnt_step, ih (fun j hj => h j (by omega)), if_pos (by have := h n (by omega); omega)]

end Go.Proofs.Ytjojodgjddlkhab
