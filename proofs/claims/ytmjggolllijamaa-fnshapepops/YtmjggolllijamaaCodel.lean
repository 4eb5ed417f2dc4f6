/-
  CODEL: a Codel's numbers; which are well: CodelOk OF BOTH SIDES; CodelNew of both; the laws' toCodel and eqCodel.
-/
import Derived.Test.YtmjggolllijamaaPk
import Derived.Test.YtmjggolllijamaaSits
namespace Go.Proofs.Ytmjggolllijamaa
open Go.RowKit
set_option linter.unusedVariables false

/-- A Codel's numbers. -/
structure Cd where
  tg : Int
  iv : Int
  fi : Int
  nx : Int
  ct : Int
  la : Int
  dr : Bool
@[reducible] def Cd.val (r : Cd) : Value := .agg #[.int .i64 r.tg, .int .i64 r.iv, .int .i64 r.fi, .int .i64 r.nx, .int .i64 r.ct, .int .i64 r.la, .bool r.dr]
@[reducible] def cdCells (r : Cd) : Array Value := #[.int .i64 r.tg, .int .i64 r.iv, .int .i64 r.fi, .int .i64 r.nx, .int .i64 r.ct, .int .i64 r.la, .bool r.dr]
/-- The numbers lie in an int. -/
def Cd.In (r : Cd) : Prop := (-9223372036854775808 ≤ r.tg ∧ r.tg ≤ 9223372036854775807) ∧ (-9223372036854775808 ≤ r.iv ∧ r.iv ≤ 9223372036854775807) ∧ (-9223372036854775808 ≤ r.fi ∧ r.fi ≤ 9223372036854775807) ∧ (-9223372036854775808 ≤ r.nx ∧ r.nx ≤ 9223372036854775807) ∧ (-9223372036854775808 ≤ r.ct ∧ r.ct ≤ 9223372036854775807) ∧ (-9223372036854775808 ≤ r.la ∧ r.la ≤ 9223372036854775807)
def Cd.zero : Cd := ⟨0, 0, 0, 0, 0, 0, false⟩

/-- Is it a Codel? -/
def Cd.good (r : Cd) : Bool := decide (1 ≤ r.tg ∧ r.tg ≤ r.iv ∧ r.iv ≤ 1000000000 ∧ 0 ≤ r.fi ∧ r.fi ≤ 2000000000000 ∧ 0 ≤ r.nx ∧ r.nx ≤ 2000000000000 ∧ 0 ≤ r.ct ∧ r.ct ≤ 1073741824 ∧ 0 ≤ r.la ∧ r.la ≤ 1073741824)
theorem Cd.good_iff (r : Cd) : r.good = true ↔ (1 ≤ r.tg ∧ r.tg ≤ r.iv ∧ r.iv ≤ 1000000000 ∧ 0 ≤ r.fi ∧ r.fi ≤ 2000000000000 ∧ 0 ≤ r.nx ∧ r.nx ≤ 2000000000000 ∧ 0 ≤ r.ct ∧ r.ct ≤ 1073741824 ∧ 0 ≤ r.la ∧ r.la ≤ 1073741824) := by unfold Cd.good; exact decide_eq_true_iff

theorem cd_cells {W : World} {B : Nat} {r : Cd} {t : TypeId} (h : Sits W B (cdCells r) t) : W.cell? ⟨B, 0, none⟩ = some (.int .i64 r.tg) ∧ W.cell? ⟨B, 1, none⟩ = some (.int .i64 r.iv) ∧ W.cell? ⟨B, 2, none⟩ = some (.int .i64 r.fi) ∧ W.cell? ⟨B, 3, none⟩ = some (.int .i64 r.nx) ∧ W.cell? ⟨B, 4, none⟩ = some (.int .i64 r.ct) ∧ W.cell? ⟨B, 5, none⟩ = some (.int .i64 r.la) ∧ W.cell? ⟨B, 6, none⟩ = some (.bool r.dr) :=
  ⟨h.cell 0, h.cell 1, h.cell 2, h.cell 3, h.cell 4, h.cell 5, h.cell 6⟩

theorem toCodel_any (r : Cd) (w : World) :
    Calls Try.prog 82 #[r.val] w fun o w' => o = .returned r.val ∧ Kept w w' := by
  obtain ⟨a, b, c, d, t, l, o⟩ := r
  simp only [Cd.val]
  go_enter Try.func82, Try.ntmps82
  go_wp2
  exact bodyPost_ret (v := .agg #[.int .i64 a, .int .i64 b, .int .i64 c, .int .i64 d, .int .i64 t, .int .i64 l, .bool o]) (by simp [results, Try.results82, go_sem]) rfl ⟨rfl, by constructor <;> go_grown⟩

theorem eqCodel_yes (r : Cd) (w : World) :
    Calls Try.prog 88 #[r.val, r.val] w fun o w' => o = .returned (.bool true) ∧ Kept w w' := by
  obtain ⟨a, b, c, d, t, l, o⟩ := r
  simp only [Cd.val]
  cases o
  all_goals
    go_enter Try.func88, Try.ntmps88
    go_wp2
    go_ret
    exact ⟨rfl, by constructor <;> go_grown⟩

end Go.Proofs.Ytmjggolllijamaa
