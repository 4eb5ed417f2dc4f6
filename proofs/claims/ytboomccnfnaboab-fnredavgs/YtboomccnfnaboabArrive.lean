/-
  WHO COMES TO RED: RedArrive OF BOTH SIDES.
-/
import Derived.Test.YtboomccnfnaboabChance3
namespace Go.Proofs.Ytboomccnfnaboab
open Go.RowKit
set_option linter.unusedVariables false

/-- What RedArrive wants. -/
def Rd.may (r : Rd) (b d : Int) : Bool := r.good && inR b 0 1048576 && inR d 0 65535
/-- What it makes of a Red. -/
def Rd.come (r : Rd) (b : Int) : Rd := ⟨r.mn, r.mx, r.mp, avgF r.avg b, r.cnt⟩
def hitB (r : Rd) (b d : Int) : Bool := r.may b d && decide (d < chanceF (r.come b))
def cntF (r : Rd) (b d : Int) : Int := if chanceF (r.come b) = 0 ∨ d < chanceF (r.come b) then 0 else if r.cnt < 1000000 then r.cnt + 1 else 1000000
def Rd.arrived (r : Rd) (b d : Int) : Rd := if r.may b d then ⟨r.mn, r.mx, r.mp, avgF r.avg b, cntF r b d⟩ else Rd.zero
theorem come_good {r : Rd} {b : Int} (hg : r.good = true) (hb : inR b 0 1048576 = true) : (r.come b).good = true := by
  obtain ⟨g1, g2, g3, g4, g5, g6, g7, g8, g9⟩ := r.good_iff.1 hg
  have hb' : 0 ≤ b ∧ b ≤ 1048576 := by simpa [inR] using hb
  have := avgF_bd g6 g7 hb'.1 hb'.2
  exact (Rd.good_iff _).2 ⟨g1, g2, g3, g4, g5, this.1, this.2, g8, g9⟩
theorem prob_good {r : Rd} (hg : r.good = true) : probF r = chanceF r := by unfold probF chanceF; simp [hg]

/-- A Red and a bool, handed back. -/
theorem ret_rb {fn : Func} {tmps : Array Value} {W : World} {i j B : Nat} {q : Rd} {b : Bool} {t : TypeId} (hr : fn.results = #[.cell i 68, .tmp j]) (hi : tmps[i]?.getD undef = .pointer (some ⟨B, 0, none⟩)) (hj : tmps[j]?.getD undef = .bool b) (hs : Sits W B (rdCells q) t) : (results fn tmps).run Try.prog W = .ok (.tuple #[q.val, .bool b]) W := by
  obtain ⟨c0, c1, c2, c3, c4⟩ := rd_cells hs
  simp [results, hr, hi, hj, go_sem, c0, c1, c2, c3, c4]

end Go.Proofs.Ytboomccnfnaboab
