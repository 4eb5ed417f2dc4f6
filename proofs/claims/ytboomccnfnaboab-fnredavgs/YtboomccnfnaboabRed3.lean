/-
  RED's AVERAGE WHILE NOTHING COMES: RedIdle OF BOTH SIDES.
-/
import Derived.Test.YtboomccnfnaboabRed2
import Derived.Test.YtboomccnfnaboabSits
namespace Go.Proofs.Ytboomccnfnaboab
open Go.RowKit
set_option linter.unusedVariables false

theorem rd_cells {W : World} {B : Nat} {r : Rd} {t : TypeId} (h : Sits W B (rdCells r) t) : W.cell? ⟨B, 0, none⟩ = some (.int .i64 r.mn) ∧ W.cell? ⟨B, 1, none⟩ = some (.int .i64 r.mx) ∧ W.cell? ⟨B, 2, none⟩ = some (.int .i64 r.mp) ∧ W.cell? ⟨B, 3, none⟩ = some (.int .i64 r.avg) ∧ W.cell? ⟨B, 4, none⟩ = some (.int .i64 r.cnt) := ⟨h.cell 0, h.cell 1, h.cell 2, h.cell 3, h.cell 4⟩
theorem rd_set3 {W : World} {B : Nat} {r : Rd} {t : TypeId} (h : Sits W B (rdCells r) t) (v : Int) : Sits (W.setCell ⟨B, 3, none⟩ (.int .i64 v)) B (rdCells ⟨r.mn, r.mx, r.mp, v, r.cnt⟩) t := h.set 3 _
theorem rd_set4 {W : World} {B : Nat} {r : Rd} {t : TypeId} (h : Sits W B (rdCells r) t) (v : Int) : Sits (W.setCell ⟨B, 4, none⟩ (.int .i64 v)) B (rdCells ⟨r.mn, r.mx, r.mp, r.avg, v⟩) t := h.set 4 _

/-- The average behind n that did not come. -/
def idleF (a : Int) : Nat → Int
  | 0 => a
  | n + 1 => avgF (idleF a n) 0
theorem idleF_bd {a : Int} (a0 : 0 ≤ a) (a1 : a ≤ 68719476736) : ∀ n, 0 ≤ idleF a n ∧ idleF a n ≤ 68719476736
  | 0 => ⟨a0, a1⟩
  | n + 1 => avgF_bd (idleF_bd a0 a1 n).1 (idleF_bd a0 a1 n).2 (by omega) (by omega)
/-- What RedIdle answers. -/
def Rd.idle (r : Rd) (n : Int) : Rd := if r.good && inR n 0 10000 then ⟨r.mn, r.mx, r.mp, idleF r.avg n.toNat, r.cnt⟩ else Rd.zero

set_option maxHeartbeats 2000000 in
theorem iredIdle_any (r : Rd) (b : Int) (w : World) :
    Calls Try.prog 38 #[r.val, .int .i64 b] w fun e w' => e = .returned (.tuple #[(r.idle b).val, .bool (r.good && inR b 0 10000)]) ∧ Below w.heap.size w w' := by
  cases hg : r.good
  case false =>
    have HE : r.idle b = Rd.zero := by unfold Rd.idle; simp [hg]
    rw [HE]; clear HE
    go_enter Try.func38, Try.ntmps38
    go_wp2_with (go_at_call 37; refine (iredOk_ex r _).mono ?_; rintro e w1 ⟨rfl, rfl⟩; rw [hg])
    refine bodyPost_ret (v := .tuple #[Rd.zero.val, .bool false]) (by simp [results, Try.results38, go_sem, Rd.zero]) rfl ⟨by simp, by go_grown⟩
  case true =>
  cases hi : inR b 0 10000
  case false =>
    have HE : r.idle b = Rd.zero := by unfold Rd.idle; simp [hi]
    rw [HE]; clear HE
    go_enter Try.func38, Try.ntmps38
    go_wp2_with (first | (go_at_call 37; refine (iredOk_ex r _).mono ?_; rintro e w1 ⟨rfl, rfl⟩; rw [hg]) | (go_at_call 62; refine (within_r _ _ _ _).mono ?_; rintro e w' ⟨rfl, rfl⟩; rw [hi]))
    refine bodyPost_ret (v := .tuple #[Rd.zero.val, .bool false]) (by simp [results, Try.results38, go_sem, Rd.zero]) rfl ⟨by simp, by go_grown⟩
  case true =>
    obtain ⟨g1, g2, g3, g4, g5, g6, g7, g8, g9⟩ := r.good_iff.1 hg
    have hb : 0 ≤ b ∧ b ≤ 10000 := by simpa [inR] using hi
    have HE : r.idle b = ⟨r.mn, r.mx, r.mp, idleF r.avg b.toNat, r.cnt⟩ := by unfold Rd.idle; simp [hi, hg]
    rw [HE]; clear HE
    obtain ⟨n, rfl⟩ := Int.eq_ofNat_of_zero_le hb.1
    have hn : (n : Int) ≤ 10000 := hb.2
    clear hb
    simp only [Int.toNat_natCast] at *
    go_enter Try.func38, Try.ntmps38
    go_wp2_with (first | (go_at_call 37; refine (iredOk_ex r _).mono ?_; rintro e w1 ⟨rfl, rfl⟩; rw [hg]) | (go_at_call 62; refine (within_r _ _ _ _).mono ?_; rintro e w' ⟨rfl, rfl⟩; rw [hi]))
    go_loopw [16] (fun i wr => ∃ k : Nat, k ≤ n ∧ i = .int .i64 k ∧ Sits wr w.heap.size (rdCells ⟨r.mn, r.mx, r.mp, idleF r.avg k, r.cnt⟩) 68 ∧ Sits wr (w.heap.size + 1) (rdCells Rd.zero) 68 ∧ Below w.heap.size w wr) (fun i _ => n - (intOf i).toNat)
    case atStart =>
      refine ⟨0, by omega, rfl, ?_, ?_, by go_grown⟩
      · exact ((Sits.new _ _ _).alloc _).alloc _
      · have h := (Sits.new (w.alloc (.cells (rdCells r) 68)) (rdCells Rd.zero) 68).alloc (.cells (rdCells r) 68)
        simp only [World.size_alloc] at h
        exact h
    case round =>
      obtain ⟨k, hk, rfl, s1, s2, hB⟩ := hrel
      obtain ⟨i0, i1⟩ := idleF_bd g6 g7 k
      obtain ⟨c0, c1, c2, c3, c4⟩ := rd_cells s1
      obtain ⟨d0, d1, d2, d3, d4⟩ := rd_cells s2
      have z0 := s1.frozen
      have z1 := s2.frozen
      have l1 := s1.lt
      have l2 := s2.lt
      have HS1 : Hid _ := s1
      have HS2 : Hid _ := s2
      clear s1 s2
      simp only [Rd.zero] at c0 c1 c2 c3 c4 d0 d1 d2 d3 d4
      by_cases hlt : k < n
      · go_wp2_with (go_at_call 66; refine (averaged_any _ _ i0 i1 (by omega) (by omega) _).mono ?_; rintro e w' ⟨rfl, rfl⟩)
        go_roundw
        case rel => exact ⟨k + 1, by omega, by go_num, rd_set3 HS1.out _, (Sits.other HS2.out (by omega) _), hB.setCell (Nat.le_refl _) _⟩
        case measure => simp [intOf]; omega
      · obtain rfl : k = n := by omega
        go_wp2
        refine bodyPost_ret (v := .tuple #[(Rd.mk r.mn r.mx r.mp (idleF r.avg k) r.cnt).val, .bool true]) (by simp [results, Try.results38, go_sem, d0, d1, d2, d3, d4]) rfl ⟨by simp, by first | go_grown | exact (((((hB.setCell (by simp) _).setCell (by simp) _).setCell (by simp) _).setCell (by simp) _).setCell (by simp) _)⟩

end Go.Proofs.Ytboomccnfnaboab
