/-
  RED's AVERAGE WHILE NOTHING COMES: RedIdle OF BOTH SIDES.
-/
import Derived.Test.YtboomccnfnaboacRed2
import Derived.Test.YtboomccnfnaboacSits
namespace Go.Proofs.Ytboomccnfnaboac
open Go.RowKit
set_option linter.unusedVariables false

theorem rd_cells {W : World} {B : Nat} {r : Rd} {t : TypeId} (h : Sits W B (rdCells r) t) : W.cell? ⟨B, 0, none⟩ = some (.int .i64 r.mn) ∧ W.cell? ⟨B, 1, none⟩ = some (.int .i64 r.mx) ∧ W.cell? ⟨B, 2, none⟩ = some (.int .i64 r.mp) ∧ W.cell? ⟨B, 3, none⟩ = some (.int .i64 r.avg) ∧ W.cell? ⟨B, 4, none⟩ = some (.int .i64 r.cnt) := ⟨h.cell 0, h.cell 1, h.cell 2, h.cell 3, h.cell 4⟩
theorem rd_set3 {W : World} {B : Nat} {r : Rd} {t : TypeId} (h : Sits W B (rdCells r) t) (v : Int) : Sits (W.setCell ⟨B, 3, none⟩ (.int .i64 v)) B (rdCells ⟨r.mn, r.mx, r.mp, v, r.cnt⟩) t := h.set 3 _
theorem rd_set4 {W : World} {B : Nat} {r : Rd} {t : TypeId} (h : Sits W B (rdCells r) t) (v : Int) : Sits (W.setCell ⟨B, 4, none⟩ (.int .i64 v)) B (rdCells ⟨r.mn, r.mx, r.mp, r.avg, v⟩) t := h.set 4 _

/-- The average behind n that did not come. -/
def idleF (a : Int) : Nat → Int
  | 0 => a
  | n + 1 => avgF (idleF a n) 0
theorem idleF_bd {a : Int} (a0 : 0 ≤ a) (a1 : a ≤ 68719476736) : ∀ n, 0 ≤ idleF a n ∧ idleF a n ≤ 68719476736
  | 0 => ⟨a0, a1⟩
  | n + 1 => avgF_bd (idleF_bd a0 a1 n).1 (idleF_bd a0 a1 n).2 (by omega) (by omega)
/-- What RedIdle answers. -/
def Rd.idle (r : Rd) (n : Int) : Rd := if r.good && inR n 0 10000 then ⟨r.mn, r.mx, r.mp, idleF r.avg n.toNat, r.cnt⟩ else Rd.zero

end Go.Proofs.Ytboomccnfnaboac
