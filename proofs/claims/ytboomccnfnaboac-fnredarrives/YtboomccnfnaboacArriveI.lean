/-
  WHO COMES TO RED, the program's RedArrive where all is as it is wanted.
-/
import Derived.Test.YtboomccnfnaboacArrive
namespace Go.Proofs.Ytboomccnfnaboac
open Go.RowKit
set_option linter.unusedVariables false

set_option maxHeartbeats 2000000 in
theorem iredArrive_yes (r : Rd) (b d : Int) (w : World) (hm : r.may b d = true) :
    Calls Try.prog 5 #[r.val, .int .i64 b, .int .i64 d] w fun e w' => e = .returned (.tuple #[(r.arrived b d).val, .bool (hitB r b d)]) ∧ Below w.heap.size w w' := by
    obtain ⟨hgb, hd⟩ : (r.good && inR b 0 1048576) = true ∧ inR d 0 65535 = true := by simpa [Rd.may] using hm
    have HZ : Hid (r.avgd b = r.come b) := by show _ = _; unfold Rd.avgd Rd.come; simp [hgb]
    have hgb' : r.good = true ∧ inR b 0 1048576 = true := by simpa using hgb
    have hcg := come_good hgb'.1 hgb'.2
    obtain ⟨g1, g2, g3, g4, g5, g6, g7, g8, g9⟩ := r.good_iff.1 hgb'.1
    clear hgb'
    have hd' : 0 ≤ d ∧ d ≤ 65535 := by simpa [inR] using hd
    have hpb := chanceF_bd hcg
    obtain ⟨p, hp⟩ : ∃ p, chanceF (r.come b) = p := ⟨_, rfl⟩
    have HP : Hid (probF (r.come b) = p) := (prob_good hcg).trans hp
    rw [hp] at hpb
    have hA : r.arrived b d = ⟨r.mn, r.mx, r.mp, avgF r.avg b, if p = 0 ∨ d < p then 0 else if r.cnt < 1000000 then r.cnt + 1 else 1000000⟩ := by unfold Rd.arrived cntF; rw [if_pos hm, hp]
    have hH : hitB r b d = decide (d < p) := by unfold hitB; rw [hm, hp]; rfl
    rw [hA, hH]
    clear hA hH hp hm hcg
    have hr := Sits.new (w.alloc (.cells (rdCells r) 24)) (rdCells Rd.zero) 24
    simp only [World.size_alloc] at hr
    have HR : Hid (Sits ((w.alloc (.cells (rdCells r) 24)).alloc (.cells (rdCells Rd.zero) 24)) (w.heap.size + 1) (rdCells Rd.zero) 24) := hr
    have HB : Hid (Below w.heap.size w ((w.alloc (.cells (rdCells r) 24)).alloc (.cells (rdCells Rd.zero) 24))) := by show Below _ _ _; go_grown
    clear hr
    by_cases h1 : d < p
    · have h1' : decide (d < p) = true := by simpa using h1
      rw [if_pos (Or.inr h1), h1']
      go_enter Try.func5, Try.ntmps5
      go_wp2_with (first | (go_at_call 8; refine (iredAvg_any r b _).mono ?_; rintro e w1 ⟨rfl, b1⟩; rw [hgb, HZ.out]; dsimp only [Rd.zero, Rd.come]; have sr := Sits.below HR.out b1 (by simp); obtain ⟨d0, d1, d2, d3, d4⟩ := rd_cells sr; have fz := sr.frozen; have pl : w.heap.size + 1 < w1.heap.size := sr.lt; replace b1 := Below.trans HB.out (b1.mono HB.out.size); dsimp only [Rd.zero] at d0 d1 d2 d3 d4; have SR : Hid (Sits w1 (w.heap.size + 1) (rdCells Rd.zero) 24) := sr; clear sr) | (go_at_call 15; refine (within_r _ _ _ _).mono ?_; rintro e w' ⟨rfl, rfl⟩; rw [hd]) | (go_at_call 9; refine (iredProb_any (r.come b) _).mono ?_; rintro e w2 ⟨rfl, b2⟩; rw [HP.out]; have sa := (Sits.new w1 (rdCells (r.come b)) 24).below b2 (by simp); have sr := ((Sits.alloc SR.out (.cells (rdCells (r.come b)) 24))).below b2 (by simp; omega); clear d0 d1 d2 d3 d4 fz; obtain ⟨d0, d1, d2, d3, d4⟩ := rd_cells sr; have fz := sr.frozen; obtain ⟨e0, e1, e2, e3, e4⟩ := rd_cells sa; have ez := sa.frozen; have pl2 := sa.lt; have b3 := (b1.alloc b1.size (.cells (rdCells (r.come b)) 24)).trans (b2.mono (by have := b1.size; simp; omega)); clear b2; dsimp only [Rd.zero] at d0 d1 d2 d3 d4; dsimp only [Rd.come] at e0 e1 e2 e3 e4; have SR2 : Hid (Sits w2 (w.heap.size + 1) (rdCells Rd.zero) 24) := sr; have SA : Hid (Sits w2 w1.heap.size (rdCells (r.come b)) 24) := sa; clear sr sa))
      refine bodyPost_ret (ret_rb (q := ⟨r.mn, r.mx, r.mp, avgF r.avg b, 0⟩) (b := true) (t := 24) (B := w.heap.size + 1) Try.results5 rfl rfl ?_) rfl ⟨rfl, ?_⟩
      · exact (((((Sits.set (Sits.other SR2.out (by omega) _) 0 _).set 1 _).set 2 _).set 3 _).set 4 _)
      · exact ((((((b3.setCell (by show w.heap.size ≤ w1.heap.size; omega) _).setCell (by simp) _).setCell (by simp) _).setCell (by simp) _).setCell (by simp) _).setCell (by simp) _)
    have h1' : decide (d < p) = false := by simpa using h1
    by_cases h2 : p = 0
    · have h2' : (p == 0) = true := by simpa using h2
      rw [if_pos (Or.inl h2), h1']
      clear h2
      go_enter Try.func5, Try.ntmps5
      go_wp2_with (first | (go_at_call 8; refine (iredAvg_any r b _).mono ?_; rintro e w1 ⟨rfl, b1⟩; rw [hgb, HZ.out]; dsimp only [Rd.zero, Rd.come]; have sr := Sits.below HR.out b1 (by simp); obtain ⟨d0, d1, d2, d3, d4⟩ := rd_cells sr; have fz := sr.frozen; have pl : w.heap.size + 1 < w1.heap.size := sr.lt; replace b1 := Below.trans HB.out (b1.mono HB.out.size); dsimp only [Rd.zero] at d0 d1 d2 d3 d4; have SR : Hid (Sits w1 (w.heap.size + 1) (rdCells Rd.zero) 24) := sr; clear sr) | (go_at_call 15; refine (within_r _ _ _ _).mono ?_; rintro e w' ⟨rfl, rfl⟩; rw [hd]) | (go_at_call 9; refine (iredProb_any (r.come b) _).mono ?_; rintro e w2 ⟨rfl, b2⟩; rw [HP.out]; have sa := (Sits.new w1 (rdCells (r.come b)) 24).below b2 (by simp); have sr := ((Sits.alloc SR.out (.cells (rdCells (r.come b)) 24))).below b2 (by simp; omega); clear d0 d1 d2 d3 d4 fz; obtain ⟨d0, d1, d2, d3, d4⟩ := rd_cells sr; have fz := sr.frozen; obtain ⟨e0, e1, e2, e3, e4⟩ := rd_cells sa; have ez := sa.frozen; have pl2 := sa.lt; have b3 := (b1.alloc b1.size (.cells (rdCells (r.come b)) 24)).trans (b2.mono (by have := b1.size; simp; omega)); clear b2; dsimp only [Rd.zero] at d0 d1 d2 d3 d4; dsimp only [Rd.come] at e0 e1 e2 e3 e4; have SR2 : Hid (Sits w2 (w.heap.size + 1) (rdCells Rd.zero) 24) := sr; have SA : Hid (Sits w2 w1.heap.size (rdCells (r.come b)) 24) := sa; clear sr sa))
      refine bodyPost_ret (ret_rb (q := ⟨r.mn, r.mx, r.mp, avgF r.avg b, 0⟩) (b := false) (t := 24) (B := w.heap.size + 1) Try.results5 rfl rfl ?_) rfl ⟨rfl, ?_⟩
      · exact (((((Sits.set (Sits.other SR2.out (by omega) _) 0 _).set 1 _).set 2 _).set 3 _).set 4 _)
      · exact ((((((b3.setCell (by show w.heap.size ≤ w1.heap.size; omega) _).setCell (by simp) _).setCell (by simp) _).setCell (by simp) _).setCell (by simp) _).setCell (by simp) _)
    have h2' : (p == 0) = false := by simpa using h2
    rw [if_neg (by omega), h1']
    clear h2
    by_cases h3 : r.cnt < 1000000
    · rw [if_pos h3]
      go_enter Try.func5, Try.ntmps5
      go_wp2_with (first | (go_at_call 8; refine (iredAvg_any r b _).mono ?_; rintro e w1 ⟨rfl, b1⟩; rw [hgb, HZ.out]; dsimp only [Rd.zero, Rd.come]; have sr := Sits.below HR.out b1 (by simp); obtain ⟨d0, d1, d2, d3, d4⟩ := rd_cells sr; have fz := sr.frozen; have pl : w.heap.size + 1 < w1.heap.size := sr.lt; replace b1 := Below.trans HB.out (b1.mono HB.out.size); dsimp only [Rd.zero] at d0 d1 d2 d3 d4; have SR : Hid (Sits w1 (w.heap.size + 1) (rdCells Rd.zero) 24) := sr; clear sr) | (go_at_call 15; refine (within_r _ _ _ _).mono ?_; rintro e w' ⟨rfl, rfl⟩; rw [hd]) | (go_at_call 9; refine (iredProb_any (r.come b) _).mono ?_; rintro e w2 ⟨rfl, b2⟩; rw [HP.out]; have sa := (Sits.new w1 (rdCells (r.come b)) 24).below b2 (by simp); have sr := ((Sits.alloc SR.out (.cells (rdCells (r.come b)) 24))).below b2 (by simp; omega); clear d0 d1 d2 d3 d4 fz; obtain ⟨d0, d1, d2, d3, d4⟩ := rd_cells sr; have fz := sr.frozen; obtain ⟨e0, e1, e2, e3, e4⟩ := rd_cells sa; have ez := sa.frozen; have pl2 := sa.lt; have b3 := (b1.alloc b1.size (.cells (rdCells (r.come b)) 24)).trans (b2.mono (by have := b1.size; simp; omega)); clear b2; dsimp only [Rd.zero] at d0 d1 d2 d3 d4; dsimp only [Rd.come] at e0 e1 e2 e3 e4; have SR2 : Hid (Sits w2 (w.heap.size + 1) (rdCells Rd.zero) 24) := sr; have SA : Hid (Sits w2 w1.heap.size (rdCells (r.come b)) 24) := sa; clear sr sa))
      refine bodyPost_ret (ret_rb (q := ⟨r.mn, r.mx, r.mp, avgF r.avg b, r.cnt + 1⟩) (b := false) (t := 24) (B := w.heap.size + 1) Try.results5 rfl rfl ?_) rfl ⟨rfl, ?_⟩
      · exact (((((Sits.set (Sits.other SR2.out (by omega) _) 0 _).set 1 _).set 2 _).set 3 _).set 4 _)
      · exact ((((((b3.setCell (by show w.heap.size ≤ w1.heap.size; omega) _).setCell (by simp) _).setCell (by simp) _).setCell (by simp) _).setCell (by simp) _).setCell (by simp) _)
    · rw [if_neg h3]
      go_enter Try.func5, Try.ntmps5
      go_wp2_with (first | (go_at_call 8; refine (iredAvg_any r b _).mono ?_; rintro e w1 ⟨rfl, b1⟩; rw [hgb, HZ.out]; dsimp only [Rd.zero, Rd.come]; have sr := Sits.below HR.out b1 (by simp); obtain ⟨d0, d1, d2, d3, d4⟩ := rd_cells sr; have fz := sr.frozen; have pl : w.heap.size + 1 < w1.heap.size := sr.lt; replace b1 := Below.trans HB.out (b1.mono HB.out.size); dsimp only [Rd.zero] at d0 d1 d2 d3 d4; have SR : Hid (Sits w1 (w.heap.size + 1) (rdCells Rd.zero) 24) := sr; clear sr) | (go_at_call 15; refine (within_r _ _ _ _).mono ?_; rintro e w' ⟨rfl, rfl⟩; rw [hd]) | (go_at_call 9; refine (iredProb_any (r.come b) _).mono ?_; rintro e w2 ⟨rfl, b2⟩; rw [HP.out]; have sa := (Sits.new w1 (rdCells (r.come b)) 24).below b2 (by simp); have sr := ((Sits.alloc SR.out (.cells (rdCells (r.come b)) 24))).below b2 (by simp; omega); clear d0 d1 d2 d3 d4 fz; obtain ⟨d0, d1, d2, d3, d4⟩ := rd_cells sr; have fz := sr.frozen; obtain ⟨e0, e1, e2, e3, e4⟩ := rd_cells sa; have ez := sa.frozen; have pl2 := sa.lt; have b3 := (b1.alloc b1.size (.cells (rdCells (r.come b)) 24)).trans (b2.mono (by have := b1.size; simp; omega)); clear b2; dsimp only [Rd.zero] at d0 d1 d2 d3 d4; dsimp only [Rd.come] at e0 e1 e2 e3 e4; have SR2 : Hid (Sits w2 (w.heap.size + 1) (rdCells Rd.zero) 24) := sr; have SA : Hid (Sits w2 w1.heap.size (rdCells (r.come b)) 24) := sa; clear sr sa))
      refine bodyPost_ret (ret_rb (q := ⟨r.mn, r.mx, r.mp, avgF r.avg b, 1000000⟩) (b := false) (t := 24) (B := w.heap.size + 1) Try.results5 rfl rfl ?_) rfl ⟨rfl, ?_⟩
      · exact (((((Sits.set (Sits.other SR2.out (by omega) _) 0 _).set 1 _).set 2 _).set 3 _).set 4 _)
      · exact ((((((b3.setCell (by show w.heap.size ≤ w1.heap.size; omega) _).setCell (by simp) _).setCell (by simp) _).setCell (by simp) _).setCell (by simp) _).setCell (by simp) _)

end Go.Proofs.Ytboomccnfnaboac
