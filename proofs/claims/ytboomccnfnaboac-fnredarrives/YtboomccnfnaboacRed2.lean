/-
  RED's AVERAGE: a part of 512 towards what there is, downwards: averaged, l4avg; RedAvg and RedIdle OF BOTH SIDES; RedNew OF BOTH SIDES.
-/
import Derived.Test.YtboomccnfnaboacRed
namespace Go.Proofs.Ytboomccnfnaboac
open Go.RowKit
set_option linter.unusedVariables false

/-- The average behind one that came to so many bytes. -/
def avgF (a b : Int) : Int := a + (b * 65536 - a) / 512
theorem avgF_bd {a b : Int} (a0 : 0 ≤ a) (a1 : a ≤ 68719476736) (b0 : 0 ≤ b) (b1 : b ≤ 1048576) : 0 ≤ avgF a b ∧ avgF a b ≤ 68719476736 := by unfold avgF; omega

theorem averaged_any (a b : Int) (a0 : 0 ≤ a) (a1 : a ≤ 68719476736) (b0 : 0 ≤ b) (b1 : b ≤ 1048576) (w : World) :
    Calls Try.prog 16 #[.int .i64 a, .int .i64 b] w fun e w' => e = .returned (.int .i64 (avgF a b)) ∧ w' = w := by
  go_enter Try.func16, Try.ntmps16
  go_wp2
  go_ret
  exact ⟨ret_int (by unfold avgF; rfl), rfl⟩

theorem l4avg_any (B : Nat) (a b : Int) (a0 : 0 ≤ a) (a1 : a ≤ 68719476736) (b0 : 0 ≤ b) (b1 : b ≤ 1048576) (w : World) (hc : w.cell? ⟨B, 3, none⟩ = some (.int .i64 a)) (hf : w.frozen? ⟨B, 3, none⟩ = false) :
    Calls Try.prog 27 #[.pointer (some ⟨B, 0, none⟩), .int .i64 b] w fun e w' => e = .returned (.tuple #[]) ∧ w' = (w.setCell ⟨B, 3, none⟩ (.int .i64 (avgF a b))).drew := by
  go_enter Try.func27, Try.ntmps27
  go_wp2
  go_region
  go_wp2
  go_end0
  exact ⟨rfl, rfl⟩

set_option maxHeartbeats 1000000 in
theorem iredNew_any (a b c : Int) (w : World) :
    Calls Try.prog 7 #[.int .i64 a, .int .i64 b, .int .i64 c] w fun e w' => e = .returned (.tuple #[(if (Rd.mk a b c 0 0).good then (Rd.mk a b c 0 0) else Rd.zero).val, .bool (Rd.mk a b c 0 0).good]) ∧ Below w.heap.size w w' := by
  cases hg : (Rd.mk a b c 0 0).good
  case false =>
    go_enter Try.func7, Try.ntmps7
    go_wp2_with (go_at_call 10; refine (iredOk_ex ⟨a, b, c, 0, 0⟩ _).mono ?_; rintro e w1 ⟨rfl, rfl⟩; rw [hg])
    refine bodyPost_ret (v := .tuple #[Rd.zero.val, .bool false]) (by simp [results, Try.results7, go_sem, Rd.zero]) rfl ⟨rfl, by go_grown⟩
  case true =>
    go_enter Try.func7, Try.ntmps7
    go_wp2_with (go_at_call 10; refine (iredOk_ex ⟨a, b, c, 0, 0⟩ _).mono ?_; rintro e w1 ⟨rfl, rfl⟩; rw [hg])
    refine bodyPost_ret (v := .tuple #[(Rd.mk a b c 0 0).val, .bool true]) (by simp [results, Try.results7, go_sem]) rfl ⟨rfl, by go_grown⟩

/-- What RedAvg answers. -/
def Rd.avgd (r : Rd) (b : Int) : Rd := if r.good && inR b 0 1048576 then ⟨r.mn, r.mx, r.mp, avgF r.avg b, r.cnt⟩ else Rd.zero

set_option maxHeartbeats 1000000 in
theorem iredAvg_any (r : Rd) (b : Int) (w : World) :
    Calls Try.prog 8 #[r.val, .int .i64 b] w fun e w' => e = .returned (.tuple #[(r.avgd b).val, .bool (r.good && inR b 0 1048576)]) ∧ Below w.heap.size w w' := by
  cases hg : r.good
  case false =>
    have HE : r.avgd b = Rd.zero := by unfold Rd.avgd; simp [hg]
    rw [HE]; clear HE
    go_enter Try.func8, Try.ntmps8
    go_wp2_with (go_at_call 10; refine (iredOk_ex r _).mono ?_; rintro e w1 ⟨rfl, rfl⟩; rw [hg])
    refine bodyPost_ret (v := .tuple #[Rd.zero.val, .bool false]) (by simp [results, Try.results8, go_sem, Rd.zero]) rfl ⟨by simp, by go_grown⟩
  case true =>
  cases hi : inR b 0 1048576
  case false =>
    have HE : r.avgd b = Rd.zero := by unfold Rd.avgd; simp [hi]
    rw [HE]; clear HE
    go_enter Try.func8, Try.ntmps8
    go_wp2_with (first | (go_at_call 10; refine (iredOk_ex r _).mono ?_; rintro e w1 ⟨rfl, rfl⟩; rw [hg]) | (go_at_call 15; refine (within_r _ _ _ _).mono ?_; rintro e w' ⟨rfl, rfl⟩; rw [hi]))
    refine bodyPost_ret (v := .tuple #[Rd.zero.val, .bool false]) (by simp [results, Try.results8, go_sem, Rd.zero]) rfl ⟨by simp, by go_grown⟩
  case true =>
    obtain ⟨g1, g2, g3, g4, g5, g6, g7, g8, g9⟩ := r.good_iff.1 hg
    have hb : 0 ≤ b ∧ b ≤ 1048576 := by simpa [inR] using hi
    have HE : r.avgd b = ⟨r.mn, r.mx, r.mp, avgF r.avg b, r.cnt⟩ := by unfold Rd.avgd; simp [hi, hg]
    rw [HE]; clear HE
    go_enter Try.func8, Try.ntmps8
    go_wp2_with (first | (go_at_call 10; refine (iredOk_ex r _).mono ?_; rintro e w1 ⟨rfl, rfl⟩; rw [hg]) | (go_at_call 15; refine (within_r _ _ _ _).mono ?_; rintro e w' ⟨rfl, rfl⟩; rw [hi]) | (go_at_call 16; refine (averaged_any _ _ g6 g7 hb.1 hb.2 _).mono ?_; rintro e w' ⟨rfl, rfl⟩))
    refine bodyPost_ret (v := .tuple #[(Rd.mk r.mn r.mx r.mp (avgF r.avg b) r.cnt).val, .bool true]) (by simp [results, Try.results8, go_sem]) rfl ⟨by simp, by go_grown⟩

end Go.Proofs.Ytboomccnfnaboac
