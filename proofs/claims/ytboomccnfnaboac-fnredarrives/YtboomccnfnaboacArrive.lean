/-
  WHO COMES TO RED: RedArrive OF BOTH SIDES.
-/
import Derived.Test.YtboomccnfnaboacChance3
namespace Go.Proofs.Ytboomccnfnaboac
open Go.RowKit
set_option linter.unusedVariables false

/-- What RedArrive wants. -/
def Rd.may (r : Rd) (b d : Int) : Bool := r.good && inR b 0 1048576 && inR d 0 65535
/-- What it makes of a Red. -/
def Rd.come (r : Rd) (b : Int) : Rd := ⟨r.mn, r.mx, r.mp, avgF r.avg b, r.cnt⟩
def hitB (r : Rd) (b d : Int) : Bool := r.may b d && decide (d < chanceF (r.come b))
def cntF (r : Rd) (b d : Int) : Int := if chanceF (r.come b) = 0 ∨ d < chanceF (r.come b) then 0 else if r.cnt < 1000000 then r.cnt + 1 else 1000000
def Rd.arrived (r : Rd) (b d : Int) : Rd := if r.may b d then ⟨r.mn, r.mx, r.mp, avgF r.avg b, cntF r b d⟩ else Rd.zero
theorem come_good {r : Rd} {b : Int} (hg : r.good = true) (hb : inR b 0 1048576 = true) : (r.come b).good = true := by
  obtain ⟨g1, g2, g3, g4, g5, g6, g7, g8, g9⟩ := r.good_iff.1 hg
  have hb' : 0 ≤ b ∧ b ≤ 1048576 := by simpa [inR] using hb
  have := avgF_bd g6 g7 hb'.1 hb'.2
  exact (Rd.good_iff _).2 ⟨g1, g2, g3, g4, g5, this.1, this.2, g8, g9⟩
theorem prob_good {r : Rd} (hg : r.good = true) : probF r = chanceF r := by unfold probF chanceF; simp [hg]

/-- A Red and a bool, handed back. -/
theorem ret_rb {fn : Func} {tmps : Array Value} {W : World} {i j B : Nat} {q : Rd} {b : Bool} {t : TypeId} (hr : fn.results = #[.cell i 24, .tmp j]) (hi : tmps[i]?.getD undef = .pointer (some ⟨B, 0, none⟩)) (hj : tmps[j]?.getD undef = .bool b) (hs : Sits W B (rdCells q) t) : (results fn tmps).run Try.prog W = .ok (.tuple #[q.val, .bool b]) W := by
  obtain ⟨c0, c1, c2, c3, c4⟩ := rd_cells hs
  simp [results, hr, hi, hj, go_sem, c0, c1, c2, c3, c4]

set_option maxHeartbeats 1600000 in
theorem iredArrive_not (r : Rd) (b d : Int) (w : World) (hnot : r.may b d = false) :
    Calls Try.prog 5 #[r.val, .int .i64 b, .int .i64 d] w fun e w' => e = .returned (.tuple #[(r.arrived b d).val, .bool (hitB r b d)]) ∧ Below w.heap.size w w' := by
  cases hgb : (r.good && inR b 0 1048576)
  case false =>
    have hm : r.may b d = false := by unfold Rd.may; rw [hgb]; rfl
    have HE : Hid (r.arrived b d = Rd.zero ∧ hitB r b d = false) := ⟨by unfold Rd.arrived; simp [hm], by unfold hitB; simp [hm]⟩
    have HZ : Hid (r.avgd b = Rd.zero) := by show _ = _; unfold Rd.avgd; simp [hgb]
    have hr := Sits.new (w.alloc (.cells (rdCells r) 24)) (rdCells Rd.zero) 24
    simp only [World.size_alloc] at hr
    have HR : Hid (Sits ((w.alloc (.cells (rdCells r) 24)).alloc (.cells (rdCells Rd.zero) 24)) (w.heap.size + 1) (rdCells Rd.zero) 24) := hr
    have HB : Hid (Below w.heap.size w ((w.alloc (.cells (rdCells r) 24)).alloc (.cells (rdCells Rd.zero) 24))) := by show Below _ _ _; go_grown
    clear hr
    go_enter Try.func5, Try.ntmps5
    go_wp2_with (go_at_call 8; refine (iredAvg_any r b _).mono ?_; rintro e w1 ⟨rfl, b1⟩; rw [hgb, HZ.out]; dsimp only [Rd.zero]; have sr := Sits.below HR.out b1 (by simp); obtain ⟨d0, d1, d2, d3, d4⟩ := rd_cells sr; have fz := sr.frozen; have pl : w.heap.size + 1 < w1.heap.size := sr.lt; replace b1 := Below.trans HB.out (b1.mono HB.out.size); dsimp only [Rd.zero] at d0 d1 d2 d3 d4; have SR : Hid (Sits w1 (w.heap.size + 1) (rdCells Rd.zero) 24) := sr; clear sr)
    refine bodyPost_ret (ret_rb (q := Rd.zero) (b := false) (t := 24) (B := w.heap.size + 1) Try.results5 rfl rfl ?_) rfl ⟨by rw [HE.out.1, HE.out.2], ?_⟩
    · exact (((((Sits.set SR.out 0 _).set 1 _).set 2 _).set 3 _).set 4 _).alloc _
    · exact (((((b1.setCell (by simp) _).setCell (by simp) _).setCell (by simp) _).setCell (by simp) _).setCell (by simp) _).alloc (by have := b1.size; simp [World.setCell]; omega) _
  case true =>
  have hz : r.avgd b = r.come b := by unfold Rd.avgd Rd.come; simp [hgb]
  have HZ : Hid (r.avgd b = r.come b) := hz
  clear hz
  have hgb' : r.good = true ∧ inR b 0 1048576 = true := by simpa using hgb
  have hcg := come_good hgb'.1 hgb'.2
  obtain ⟨g1, g2, g3, g4, g5, g6, g7, g8, g9⟩ := r.good_iff.1 hgb'.1
  clear hgb'
  cases hd : inR d 0 65535
  case false =>
    have hm : r.may b d = false := by unfold Rd.may; rw [hd]; simp
    have HE : Hid (r.arrived b d = Rd.zero ∧ hitB r b d = false) := ⟨by unfold Rd.arrived; simp [hm], by unfold hitB; simp [hm]⟩
    have hr := Sits.new (w.alloc (.cells (rdCells r) 24)) (rdCells Rd.zero) 24
    simp only [World.size_alloc] at hr
    have HR : Hid (Sits ((w.alloc (.cells (rdCells r) 24)).alloc (.cells (rdCells Rd.zero) 24)) (w.heap.size + 1) (rdCells Rd.zero) 24) := hr
    have HB : Hid (Below w.heap.size w ((w.alloc (.cells (rdCells r) 24)).alloc (.cells (rdCells Rd.zero) 24))) := by show Below _ _ _; go_grown
    clear hr
    go_enter Try.func5, Try.ntmps5
    go_wp2_with (first | (go_at_call 8; refine (iredAvg_any r b _).mono ?_; rintro e w1 ⟨rfl, b1⟩; rw [hgb, HZ.out]; dsimp only [Rd.zero, Rd.come]; have sr := Sits.below HR.out b1 (by simp); obtain ⟨d0, d1, d2, d3, d4⟩ := rd_cells sr; have fz := sr.frozen; have pl : w.heap.size + 1 < w1.heap.size := sr.lt; replace b1 := Below.trans HB.out (b1.mono HB.out.size); dsimp only [Rd.zero] at d0 d1 d2 d3 d4; have SR : Hid (Sits w1 (w.heap.size + 1) (rdCells Rd.zero) 24) := sr; clear sr) | (go_at_call 15; refine (within_r _ _ _ _).mono ?_; rintro e w' ⟨rfl, rfl⟩; rw [hd]))
    refine bodyPost_ret (ret_rb (q := Rd.zero) (b := false) (t := 24) (B := w.heap.size + 1) Try.results5 rfl rfl ?_) rfl ⟨by rw [HE.out.1, HE.out.2], ?_⟩
    · exact (((((Sits.set SR.out 0 _).set 1 _).set 2 _).set 3 _).set 4 _).alloc _
    · exact (((((b1.setCell (by simp) _).setCell (by simp) _).setCell (by simp) _).setCell (by simp) _).setCell (by simp) _).alloc (by have := b1.size; simp [World.setCell]; omega) _
  case true =>
    have hm : r.may b d = true := by unfold Rd.may; rw [hd, hgb]; rfl
    rw [hm] at hnot
    cases hnot

end Go.Proofs.Ytboomccnfnaboac
