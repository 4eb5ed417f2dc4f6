/-
  WHO COMES TO PIE: PieArrive OF BOTH SIDES; the program counts its hits in an atomic number of a struct that lives for the call.
-/
import Derived.Test.YtkeccjomnmpcoadDoorPie
import Derived.Test.YtkeccjomnmpcoadDoorDrawR0
import Derived.Tactics
import Derived.Tactics2
import Derived.Laws.Pointers
import Derived.Laws.LoneSync
namespace Go.Proofs.YtkeccjomnmpcoadDoor
open Go.RowKit
set_option linter.unusedVariables false

/-- Is who comes spared? -/
def spareB (r : Pe) (a n : Int) : Bool := decide (0 < r.bu ∨ (r.od < r.tg.tdiv 2 ∧ r.pr < 429496729) ∨ n ≤ 3000 ∨ r.pr ≤ a)
/-- Will a mark do? -/
def markB (r : Pe) (e : Int) : Bool := decide (¬ e = 0 ∧ r.pr ≤ 214748364)
def hitsF (r : Pe) (a n e : Int) : Int := if spareB r a n then 0 else if markB r e then 1 else 2
/-- What PieArrive wants. -/
def Pe.fit (r : Pe) (a n e : Int) : Bool := r.good && inB a 0 2147483647 && decide (0 ≤ n) && inB e 0 3
/-- What it answers. -/
def arrF (r : Pe) (a n e : Int) : Int := if r.fit a n e then hitsF r a n e else -1

@[reducible] def arCells (r : Pe) (h : Int) : Array Value := #[.int .i64 r.tg, .int .i64 r.pr, .int .i64 r.od, .int .i64 r.bu, .int .i64 h]
theorem ar_cells {W : World} {B : Nat} {r : Pe} {h : Int} {t : TypeId} (hs : Sits W B (arCells r h) t) : W.cell? ⟨B, 0, none⟩ = some (.int .i64 r.tg) ∧ W.cell? ⟨B, 1, none⟩ = some (.int .i64 r.pr) ∧ W.cell? ⟨B, 2, none⟩ = some (.int .i64 r.od) ∧ W.cell? ⟨B, 3, none⟩ = some (.int .i64 r.bu) ∧ W.cell? ⟨B, 4, none⟩ = some (.int .i64 h) :=
  ⟨hs.cell 0, hs.cell 1, hs.cell 2, hs.cell 3, hs.cell 4⟩

set_option maxHeartbeats 1000000 in
theorem spares_any (B : Nat) (r : Pe) (h a n : Int) (t : TypeId) (w : World) (hs : Sits w B (arCells r h) t) (hg : r.good = true) :
    Calls Tryd.prog 19 #[.pointer (some ⟨B, 0, none⟩), .int .i64 a, .int .i64 n] w fun e w' => e = .returned (.bool (spareB r a n)) ∧ Kept w w' := by
  obtain ⟨g1, g2, g3, g4, g5, g6, g7, g8⟩ := r.good_iff.1 hg
  obtain ⟨T, hT⟩ : ∃ T, r.tg.tdiv 2 = T := ⟨_, rfl⟩
  have hTb : 0 ≤ T ∧ T ≤ 1000000000 := by rw [← hT, Int.tdiv_eq_ediv_of_nonneg (by omega)]; omega
  have HE : Hid (spareB r a n = decide (0 < r.bu ∨ (r.od < T ∧ r.pr < 429496729) ∨ n ≤ 3000 ∨ r.pr ≤ a)) := by show _ = _; unfold spareB; rw [hT]
  obtain ⟨R, hR⟩ : ∃ R, spareB r a n = R := ⟨_, rfl⟩
  rw [hR]
  rw [hR] at HE
  clear hR
  obtain ⟨q0, q1, q2, q3, q4⟩ := ar_cells hs
  have hcs : (0 < r.bu) ∨ (¬ 0 < r.bu) := by omega
  have hc2 : (¬ r.od < T) ∨ (r.od < T ∧ r.pr < 429496729) ∨ (r.od < T ∧ ¬ r.pr < 429496729) := by omega
  have hc3 : (n ≤ 3000) ∨ (¬ n ≤ 3000 ∧ r.pr ≤ a) ∨ (¬ n ≤ 3000 ∧ ¬ r.pr ≤ a) := by omega
  rcases hcs with c1 | c1 <;> rcases hc2 with c2 | ⟨c2, c3⟩ | ⟨c2, c3⟩ <;> rcases hc3 with c4 | ⟨c4, c5⟩ | ⟨c4, c5⟩
  all_goals
    go_enter Tryd.func19, Tryd.ntmps19
    go_wp2
    go_ret
    refine ⟨ret_bool ?_, by constructor <;> go_grown⟩
    rw [HE.out, Bool.eq_iff_iff]
    simp
    try omega

set_option maxHeartbeats 1000000 in
theorem canMark_any (B : Nat) (r : Pe) (h e : Int) (t : TypeId) (w : World) (hs : Sits w B (arCells r h) t) :
    Calls Tryd.prog 21 #[.pointer (some ⟨B, 0, none⟩), .int .i64 e] w fun o w' => o = .returned (.bool (markB r e)) ∧ w' = w := by
  obtain ⟨q0, q1, q2, q3, q4⟩ := ar_cells hs
  have HE : Hid (markB r e = decide (¬ e = 0 ∧ r.pr ≤ 214748364)) := rfl
  obtain ⟨R, hR⟩ : ∃ R, markB r e = R := ⟨_, rfl⟩
  rw [hR]
  rw [hR] at HE
  clear hR
  by_cases c1 : e = 0
  · have e1 : (e != 0) = false := by simpa using c1
    have hr : R = false := by rw [HE.out]; simp [c1]
    clear c1 HE
    have HR : Hid (R = false) := hr
    clear hr
    go_enter Tryd.func21, Tryd.ntmps21
    go_wp2
    go_ret
    exact ⟨ret_bool HR.out.symm, rfl⟩
  · have e1 : (e != 0) = true := by simpa using c1
    have HR : Hid (R = decide (r.pr ≤ 214748364)) := by show _ = _; rw [HE.out]; simp [c1]
    clear c1 HE
    go_enter Tryd.func21, Tryd.ntmps21
    go_wp2
    go_ret
    exact ⟨ret_bool HR.out.symm, rfl⟩

set_option maxRecDepth 100000 in
theorem add_one (B : Nat) (r : Pe) (h : Int) (t : TypeId) (w : World) (hs : Sits w B (arCells r h) t) (h0 : 0 ≤ h) (h1 : h ≤ 100) :
    Calls Tryd.prog 20 #[.pointer (some ⟨B, 4, none⟩), .int .i64 1] w fun o w' => o = .returned (.int .i64 (h + 1)) ∧ w' = w.setCell ⟨B, 4, none⟩ (.int .i64 (h + 1)) := by
  obtain ⟨q0, q1, q2, q3, q4⟩ := ar_cells hs
  have hz := hs.frozen 4
  have hw : IntKind.i64.wrap (h + 1) = h + 1 := wrap_in (by omega) (by omega)
  have hadd := run_call_add (P := Tryd.prog) Tryd.func24 (by kernel_rfl) (by kernel_rfl) (by kernel_rfl) .i64 (by kernel_rfl) (y := 1) (s := h + 1) q4 hz (by simp [go_sem, hw])
  go_enter Tryd.func20, Tryd.ntmps20
  go_wp2
  go_ret
  exact ⟨rfl, rfl⟩

set_option maxRecDepth 100000 in
theorem load_hits (B : Nat) (r : Pe) (h : Int) (t : TypeId) (w : World) (hs : Sits w B (arCells r h) t) :
    Calls Tryd.prog 15 #[.pointer (some ⟨B, 4, none⟩)] w fun o w' => o = .returned (.int .i64 h) ∧ w' = w := by
  obtain ⟨q0, q1, q2, q3, q4⟩ := ar_cells hs
  have hl := run_call_load (P := Tryd.prog) Tryd.func22 (by kernel_rfl) (by kernel_rfl) (by kernel_rfl) .i64 (by kernel_rfl) q4
  go_enter Tryd.func15, Tryd.ntmps15
  go_wp2
  go_ret
  exact ⟨rfl, rfl⟩

set_option maxHeartbeats 1000000 in
theorem come_any (B : Nat) (r : Pe) (a n e : Int) (t : TypeId) (w : World) (hs : Sits w B (arCells r 0) t) (hg : r.good = true) :
    Calls Tryd.prog 14 #[.pointer (some ⟨B, 0, none⟩), .int .i64 a, .int .i64 n, .int .i64 e] w fun o w' => o = .returned (.tuple #[]) ∧ Sits w' B (arCells r (hitsF r a n e)) t ∧ Only B w w' := by
  have HG : Hid (r.good = true) := hg
  have HS : Hid (Sits w B (arCells r 0) t) := hs
  clear hg hs
  cases hsp : spareB r a n
  case true =>
    have HH : Hid (hitsF r a n e = 0) := by show _ = _; unfold hitsF; rw [if_pos hsp]
    go_enter Tryd.func14, Tryd.ntmps14
    go_wp2_with (go_at_call 19; refine (spares_any B r 0 a n t _ HS.out HG.out).mono ?_; rintro o w1 ⟨rfl, k1⟩; rw [hsp])
    first | go_end0 | (simp only [Exit.inBlock, Exit.then]; refine bodyPost_ret (results_none rfl _ _ _) rfl ?_) | refine bodyPost_ret (results_none rfl _ _ _) rfl ?_
    exact ⟨rfl, by rw [HH.out]; exact Sits.kept HS.out k1, ⟨k1.1.os, k1.1.tape, k1.1.output, k1.1.size, fun k hk _ => k1.1.block k hk⟩⟩
  case false =>
  cases hmk : markB r e
  case true =>
    have HH : Hid (hitsF r a n e = 1) := by show _ = _; unfold hitsF; rw [if_neg (by simp [hsp]), if_pos hmk]
    go_enter Tryd.func14, Tryd.ntmps14
    go_wp2_with (first | (go_at_call 19; refine (spares_any B r 0 a n t _ HS.out HG.out).mono ?_; rintro o w1 ⟨rfl, k1⟩; rw [hsp]; have s1 := Sits.kept HS.out k1; have S1 : Hid (Sits w1 B (arCells r 0) t) := s1; clear s1) | (go_at_call 20; refine (add_one B r 0 t _ S1.out (by omega) (by omega)).mono ?_; rintro o w2 ⟨rfl, h2⟩; have s2 := Sits.set S1.out 4 (.int .i64 (0 + 1)); rw [← h2] at s2; have S2 : Hid (Sits w2 B (arCells r 1) t) := s2; clear s2; have o2 := (Only.refl B w1).set 4 (.int .i64 (0 + 1)); rw [← h2] at o2; clear h2) | (go_at_call 21; refine (canMark_any B r 1 e t _ S2.out).mono ?_; rintro o w3 ⟨rfl, h3⟩; replace h3 := h3.symm; subst h3; rw [hmk]))
    first | go_end0 | (simp only [Exit.inBlock, Exit.then]; refine bodyPost_ret (results_none rfl _ _ _) rfl ?_) | refine bodyPost_ret (results_none rfl _ _ _) rfl ?_
    refine ⟨rfl, by rw [HH.out]; exact S2.out, ?_⟩
    have o1 : Only B w w1 := ⟨k1.1.os, k1.1.tape, k1.1.output, k1.1.size, fun k hk _ => k1.1.block k hk⟩
    exact o1.trans o2
  case false =>
    have HH : Hid (hitsF r a n e = 2) := by show _ = _; unfold hitsF; rw [if_neg (by simp [hsp]), if_neg (by simp [hmk])]
    go_enter Tryd.func14, Tryd.ntmps14
    go_wp2_with (first | (go_at_call 19; refine (spares_any B r 0 a n t _ HS.out HG.out).mono ?_; rintro o w1 ⟨rfl, k1⟩; rw [hsp]; have s1 := Sits.kept HS.out k1; have S1 : Hid (Sits w1 B (arCells r 0) t) := s1; clear s1) | (go_at_call 21; refine (canMark_any B r 1 e t _ S2.out).mono ?_; rintro o w3 ⟨rfl, h3⟩; replace h3 := h3.symm; subst h3; rw [hmk]; have tok : True := trivial) | (go_at_call 20; have _t := tok; refine (add_one B r 1 t _ S2.out (by omega) (by omega)).mono ?_; rintro o w4 ⟨rfl, h4⟩; have s4 := Sits.set S2.out 4 (.int .i64 (1 + 1)); rw [← h4] at s4; have S4 : Hid (Sits w4 B (arCells r 2) t) := s4; clear s4; have o4 := (Only.refl B w2).set 4 (.int .i64 (1 + 1)); rw [← h4] at o4; clear h4) | (go_at_call 20; refine (add_one B r 0 t _ S1.out (by omega) (by omega)).mono ?_; rintro o w2 ⟨rfl, h2⟩; have s2 := Sits.set S1.out 4 (.int .i64 (0 + 1)); rw [← h2] at s2; have S2 : Hid (Sits w2 B (arCells r 1) t) := s2; clear s2; have o2 := (Only.refl B w1).set 4 (.int .i64 (0 + 1)); rw [← h2] at o2; clear h2))
    first | go_end0 | (simp only [Exit.inBlock, Exit.then]; refine bodyPost_ret (results_none rfl _ _ _) rfl ?_) | refine bodyPost_ret (results_none rfl _ _ _) rfl ?_
    refine ⟨rfl, by rw [HH.out]; exact S4.out, ?_⟩
    have o1 : Only B w w1 := ⟨k1.1.os, k1.1.tape, k1.1.output, k1.1.size, fun k hk _ => k1.1.block k hk⟩
    exact (o1.trans o2).trans o4

end Go.Proofs.YtkeccjomnmpcoadDoor
