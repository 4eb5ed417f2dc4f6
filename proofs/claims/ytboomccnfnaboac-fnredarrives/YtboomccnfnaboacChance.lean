/-
  THE PROGRAM's CHANCE: the plain one behind a sync.Once; what is asked of it; RedProb.
-/
import Derived.Test.YtboomccnfnaboacOnce
namespace Go.Proofs.Ytboomccnfnaboac
open Go.RowKit
set_option linter.unusedVariables false

/-- A chance in memory: the Red, the Once's flag, its lock, what it waits on, the plain chance. -/
@[reducible] def chCells (r : Rd) (d s : Int) (x : Int) (p : Int) : Array Value := #[.int .i64 r.mn, .int .i64 r.mx, .int .i64 r.mp, .int .i64 r.avg, .int .i64 r.cnt, .int .u32 d, .int .i32 s, .int .u32 x, .int .i64 p]
theorem ch_cells {W : World} {B : Nat} {r : Rd} {d s x p : Int} {t : TypeId} (h : Sits W B (chCells r d s x p) t) : W.cell? ⟨B, 0, none⟩ = some (.int .i64 r.mn) ∧ W.cell? ⟨B, 1, none⟩ = some (.int .i64 r.mx) ∧ W.cell? ⟨B, 2, none⟩ = some (.int .i64 r.mp) ∧ W.cell? ⟨B, 3, none⟩ = some (.int .i64 r.avg) ∧ W.cell? ⟨B, 4, none⟩ = some (.int .i64 r.cnt) ∧ W.cell? ⟨B, 5, none⟩ = some (.int .u32 d) ∧ W.cell? ⟨B, 6, none⟩ = some (.int .i32 s) ∧ W.cell? ⟨B, 8, none⟩ = some (.int .i64 p) := ⟨h.cell 0, h.cell 1, h.cell 2, h.cell 3, h.cell 4, h.cell 5, h.cell 6, h.cell 8⟩

set_option maxHeartbeats 1000000 in
/-- The function that the Once calls. -/
theorem plain1_any (r : Rd) (h : r.mid) (B : Nat) (pl : Addr) (hpb : ¬ B = pl.block) (w : World) (hp : w.cell? pl = some (.pointer (some ⟨B, 0, none⟩)))
    (c0 : w.cell? ⟨B, 0, none⟩ = some (.int .i64 r.mn)) (c1 : w.cell? ⟨B, 1, none⟩ = some (.int .i64 r.mx)) (c2 : w.cell? ⟨B, 2, none⟩ = some (.int .i64 r.mp)) (c3 : w.cell? ⟨B, 3, none⟩ = some (.int .i64 r.avg)) (x : Value) (c8 : w.cell? ⟨B, 8, none⟩ = some x) (f8 : w.frozen? ⟨B, 8, none⟩ = false) :
    Calls Try.prog 26 #[.pointer (some pl)] w fun e w' => e = .returned (.tuple #[]) ∧ w' = (w.setCell ⟨B, 8, none⟩ (.int .i64 (plainF r))).drew.drew := by
  obtain ⟨q0, q1⟩ := quoF_bd h
  obtain ⟨m0, m1⟩ := prod_bd h
  obtain ⟨p0, p1⟩ := plainF_bd h
  obtain ⟨hg, h1, h2⟩ := h
  obtain ⟨g1, g2, g3, g4, g5, g6, g7, g8, g9⟩ := r.good_iff.1 hg
  have hq : (r.avg - r.mn * 65536) / (r.mx - r.mn) = quoF r := rfl
  have hp' : quoF r * r.mp / 65536 = plainF r := rfl
  have n0 : ¬ r.mx - r.mn = 0 := by omega
  have n1 : 0 ≤ r.avg - r.mn * 65536 := by omega
  have n2 : 0 ≤ r.mx - r.mn := by omega
  go_enter Try.func26, Try.ntmps26
  go_wp2
  go_region
  go_wp2
  go_region
  go_wp2
  go_end0
  exact ⟨rfl, rfl⟩

end Go.Proofs.Ytboomccnfnaboac
