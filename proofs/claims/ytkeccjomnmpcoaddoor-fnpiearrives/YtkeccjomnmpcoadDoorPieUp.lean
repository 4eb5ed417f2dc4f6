/-
  HOW A CHANCE OF PIE IS TURNED: PieUpdate OF BOTH SIDES, by numbers.
-/
import Derived.Test.YtkeccjomnmpcoadDoorScale
import Derived.Deep.RegionWith
namespace Go.Proofs.YtkeccjomnmpcoadDoor
open Go.RowKit
set_option linter.unusedVariables false

/-- How far the delay is above the target, and above the last one, weighted. -/
def quF (r : Pe) (d : Int) : Int := (268 * (d - r.tg + 10 * (d - r.od))).tdiv (1000 * scaleF r.pr)
/-- The change. -/
def chF (r : Pe) (d : Int) : Int := (if 214748364 ≤ r.pr ∧ 42949672 < quF r d then 42949672 else quF r d) + (if 250000000 < d then 42949672 else 0)
def p0F (r : Pe) (d : Int) : Int := if d = 0 ∧ r.od = 0 then r.pr + chF r d - (r.pr + chF r d).tdiv 64 else r.pr + chF r d
def clF (x : Int) : Int := if x < 0 then 0 else if 2147483648 < x then 2147483648 else x
/-- The chance behind it. -/
def prF (r : Pe) (d : Int) : Int := clF (p0F r d)
/-- The burst behind it. -/
def buF (r : Pe) (d : Int) : Int := if prF r d = 0 ∧ d < r.tg.tdiv 2 ∧ r.od < r.tg.tdiv 2 then 150000000 else if 15000000 < r.bu then r.bu - 15000000 else 0
def Pe.next (r : Pe) (d : Int) : Pe := ⟨r.tg, prF r d, d, buF r d⟩
/-- What PieUpdate wants. -/
def Pe.may (r : Pe) (d : Int) : Bool := r.good && inB d 0 10000000000
/-- What it answers. -/
def Pe.upd (r : Pe) (d : Int) : Pe := if r.may d then r.next d else Pe.zero

theorem tdiv_bd {a b : Int} (hb : 1 ≤ b) : -(if a < 0 then -a else a) ≤ a.tdiv b ∧ a.tdiv b ≤ (if a < 0 then -a else a) := by
  have h : (a.tdiv b).natAbs = a.natAbs / b.natAbs := Int.natAbs_tdiv a b
  have h2 : a.natAbs / b.natAbs ≤ a.natAbs := Nat.div_le_self _ _
  rw [← h] at h2
  split <;> omega
theorem quF_bd {r : Pe} {d : Int} (hg : r.good = true) (h0 : 0 ≤ d) (h1 : d ≤ 10000000000) : -30000000000000 ≤ quF r d ∧ quF r d ≤ 30000000000000 := by
  obtain ⟨g1, g2, g3, g4, g5, g6, g7, g8⟩ := r.good_iff.1 hg
  have hs := scaleF_bd r.pr
  have h := tdiv_bd (a := 268 * (d - r.tg + 10 * (d - r.od))) (b := 1000 * scaleF r.pr) (by omega)
  unfold quF
  split at h <;> omega
theorem chF_bd {r : Pe} {d : Int} (hg : r.good = true) (h0 : 0 ≤ d) (h1 : d ≤ 10000000000) : -40000000000000 ≤ chF r d ∧ chF r d ≤ 40000000000000 := by
  have := quF_bd hg h0 h1
  unfold chF
  split <;> split <;> omega
theorem clF_bd (x : Int) : 0 ≤ clF x ∧ clF x ≤ 2147483648 := by unfold clF; split <;> (try split) <;> omega
theorem prF_bd (r : Pe) (d : Int) : 0 ≤ prF r d ∧ prF r d ≤ 2147483648 := clF_bd _
theorem buF_bd {r : Pe} {d : Int} (hg : r.good = true) : 0 ≤ buF r d ∧ buF r d ≤ 150000000 := by
  obtain ⟨g1, g2, g3, g4, g5, g6, g7, g8⟩ := r.good_iff.1 hg
  unfold buF; split <;> (try split) <;> omega
theorem next_good {r : Pe} {d : Int} (hg : r.good = true) (h0 : 0 ≤ d) (h1 : d ≤ 10000000000) : (r.next d).good = true := by
  obtain ⟨g1, g2, g3, g4, g5, g6, g7, g8⟩ := r.good_iff.1 hg
  have h2 := prF_bd r d
  have h3 := buF_bd (d := d) hg
  exact (Pe.good_iff _).2 ⟨g1, g2, h2.1, h2.2, h0, h1, h3.1, h3.2⟩

/-- A Pie and a bool, handed back. -/
theorem ret_pb {fn : Func} {tmps : Array Value} {W : World} {i j B : Nat} {q : Pe} {b : Bool} {t : TypeId} (hr : fn.results = #[.cell i 24, .tmp j]) (hi : tmps[i]?.getD undef = .pointer (some ⟨B, 0, none⟩)) (hj : tmps[j]?.getD undef = .bool b) (hs : Sits W B (peCells q) t) : (results fn tmps).run Tryd.prog W = .ok (.tuple #[q.val, .bool b]) W := by
  obtain ⟨c0, c1, c2, c3⟩ := pe_cells hs
  simp [results, hr, hi, hj, go_sem, c0, c1, c2, c3]

end Go.Proofs.YtkeccjomnmpcoadDoor
