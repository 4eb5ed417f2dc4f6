/-
  RenoNew, Flight, MaySend OF BOTH SIDES.
-/
import Derived.Test.YtcchnhjkifdemapRenoI
import Derived.Test.YtcchnhjkifdemapRenoS
import Derived.Test.YtcchnhjkifdemapRenoA
namespace Go.Proofs.Ytcchnhjkifdemap
open Go.RowKit
set_option linter.unusedVariables false

/-- A new one. -/
def rnNew (m : Int) : Rn := ⟨m, 10 * m, 100000000, 0, 0, 0, 0, 0, false, 0⟩
def Rn.orZero (r : Rn) : Rn := if r.good then r else Rn.zero
def mayF (r : Rn) (win : Int) : Int := if r.good = true ∧ 0 ≤ win then (if (if win < r.cw then win else r.cw) - r.fl < 0 then 0 else (if win < r.cw then win else r.cw) - r.fl) else 0

set_option maxRecDepth 20000 in
set_option maxHeartbeats 1000000 in
theorem irenoNew_any (a : Int) (a0 : -9223372036854775808 ≤ a) (a1 : a ≤ 9223372036854775807) (w : World) :
    Calls Try.prog 28 #[.int .i64 a] w fun e w' => e = .returned (.tuple #[(rnNew a).orZero.val, .bool (rnNew a).good]) ∧ Below w.heap.size w w' := by
  cases hg : (rnNew a).good
  case false =>
    have hb : ∀ x, (Rn.mk a x 100000000 0 0 0 0 0 false 0).good = false := fun x => by
      cases hx : (Rn.mk a x 100000000 0 0 0 0 0 false 0).good
      · rfl
      · exfalso
        obtain ⟨g1, g2, g3, g4, g5, g6, g7, g8, g9, g10, g11, g12, g13, g14, g15, g16, g17, g18⟩ := (Rn.good_iff _).1 hx
        dsimp only at *
        have : (rnNew a).good = true := (Rn.good_iff _).2 (by simp [rnNew]; omega)
        rw [hg] at this
        cases this
    have HB : Hid (∀ x, (Rn.mk a x 100000000 0 0 0 0 0 false 0).good = false) := hb
    clear hb
    have hz : (rnNew a).orZero = Rn.zero := by unfold Rn.orZero; simp [hg]
    rw [hz]
    clear hz hg
    go_enter Try.func28, Try.ntmps28
    go_wp2_with (go_at_call 26; refine (irenoOk_ex (Rn.mk a _ 100000000 0 0 0 0 0 false 0) _).mono ?_; rintro e w1 ⟨rfl, rfl⟩; rw [HB.out])
    refine bodyPost_ret (v := .tuple #[Rn.zero.val, .bool false]) (by simp [results, Try.results28, go_sem, Rn.zero]) rfl ⟨rfl, by go_grown⟩
  case true =>
    have hz : (rnNew a).orZero = rnNew a := by unfold Rn.orZero; simp [hg]
    rw [hz]
    have hm := (Rn.good_iff _).1 hg
    simp only [rnNew] at hm
    obtain ⟨m1, m2, hm⟩ := hm
    clear hm
    unfold rnNew at hg ⊢
    go_enter Try.func28, Try.ntmps28
    go_wp2_with (go_at_call 26; refine (irenoOk_ex (Rn.mk a (10 * a) 100000000 0 0 0 0 0 false 0) _).mono ?_; rintro e w1 ⟨rfl, rfl⟩; rw [hg])
    refine bodyPost_ret (v := .tuple #[(Rn.mk a (10 * a) 100000000 0 0 0 0 0 false 0).val, .bool true]) (by simp [results, Try.results28, go_sem]) rfl ⟨rfl, by go_grown⟩

set_option maxRecDepth 20000 in
set_option maxHeartbeats 1000000 in
theorem srenoNew_any (a : Int) (a0 : -9223372036854775808 ≤ a) (a1 : a ≤ 9223372036854775807) (w : World) :
    Calls Try.prog 27 #[.int .i64 a] w fun e w' => e = .returned (.tuple #[(rnNew a).orZero.val, .bool (rnNew a).good]) ∧ Below w.heap.size w w' := by
  cases hg : (rnNew a).good
  case false =>
    have hb : ∀ x, (Rn.mk a x 100000000 0 0 0 0 0 false 0).good = false := fun x => by
      cases hx : (Rn.mk a x 100000000 0 0 0 0 0 false 0).good
      · rfl
      · exfalso
        obtain ⟨g1, g2, g3, g4, g5, g6, g7, g8, g9, g10, g11, g12, g13, g14, g15, g16, g17, g18⟩ := (Rn.good_iff _).1 hx
        dsimp only at *
        have : (rnNew a).good = true := (Rn.good_iff _).2 (by simp [rnNew]; omega)
        rw [hg] at this
        cases this
    have HB : Hid (∀ x, (Rn.mk a x 100000000 0 0 0 0 0 false 0).good = false) := hb
    clear hb
    have hz : (rnNew a).orZero = Rn.zero := by unfold Rn.orZero; simp [hg]
    rw [hz]
    clear hz hg
    go_enter Try.func27, Try.ntmps27
    go_wp2_with (go_at_call 24; refine (srenoOk_ex (Rn.mk a _ 100000000 0 0 0 0 0 false 0) _).mono ?_; rintro e w1 ⟨rfl, rfl⟩; rw [HB.out])
    refine bodyPost_ret (v := .tuple #[Rn.zero.val, .bool false]) (by simp [results, Try.results27, go_sem, Rn.zero]) rfl ⟨rfl, by go_grown⟩
  case true =>
    have hz : (rnNew a).orZero = rnNew a := by unfold Rn.orZero; simp [hg]
    rw [hz]
    have hm := (Rn.good_iff _).1 hg
    simp only [rnNew] at hm
    obtain ⟨m1, m2, hm⟩ := hm
    clear hm
    unfold rnNew at hg ⊢
    go_enter Try.func27, Try.ntmps27
    go_wp2_with (go_at_call 24; refine (srenoOk_ex (Rn.mk a (10 * a) 100000000 0 0 0 0 0 false 0) _).mono ?_; rintro e w1 ⟨rfl, rfl⟩; rw [hg])
    refine bodyPost_ret (v := .tuple #[(Rn.mk a (10 * a) 100000000 0 0 0 0 0 false 0).val, .bool true]) (by simp [results, Try.results27, go_sem]) rfl ⟨rfl, by go_grown⟩


end Go.Proofs.Ytcchnhjkifdemap
