/-
  WHO COMES TO RED, the specification's l4arrive and RedArrive.
-/
import Derived.Test.YtboomccnfnaboacArrive
namespace Go.Proofs.Ytboomccnfnaboac
open Go.RowKit
set_option linter.unusedVariables false

theorem Just.of_below {B : Nat} {w w' : World} (h : Below w.heap.size w w') : Just B w w' := ⟨h.os, h.tape, h.output, h.size, fun k hk _ => h.block k hk⟩

set_option maxHeartbeats 2000000 in
theorem l4arrive_any (r : Rd) (b d : Int) (B : Nat) (t : TypeId) (w : World) (hm : r.may b d = true) (hs : Sits w B (rdCells r) t) :
    Calls Try.prog 23 #[.pointer (some ⟨B, 0, none⟩), .int .i64 b, .int .i64 d] w fun e w' => e = .returned (.bool (hitB r b d)) ∧ Sits w' B (rdCells (r.arrived b d)) t ∧ Just B w w' := by
  obtain ⟨⟨hg, hb⟩, hd⟩ : (r.good = true ∧ inR b 0 1048576 = true) ∧ inR d 0 65535 = true := by simpa [Rd.may] using hm
  have hcg := come_good hg hb
  obtain ⟨g1, g2, g3, g4, g5, g6, g7, g8, g9⟩ := r.good_iff.1 hg
  have hb' : 0 ≤ b ∧ b ≤ 1048576 := by simpa [inR] using hb
  have hd' : 0 ≤ d ∧ d ≤ 65535 := by simpa [inR] using hd
  have hpb := chanceF_bd hcg
  obtain ⟨p, hp⟩ : ∃ p, chanceF (r.come b) = p := ⟨_, rfl⟩
  rw [hp] at hpb
  have hA : r.arrived b d = ⟨r.mn, r.mx, r.mp, avgF r.avg b, if p = 0 ∨ d < p then 0 else if r.cnt < 1000000 then r.cnt + 1 else 1000000⟩ := by unfold Rd.arrived cntF; rw [if_pos hm, hp]
  have hH : hitB r b d = decide (d < p) := by unfold hitB; rw [hm, hp]; rfl
  rw [hA, hH]
  have c3 := (rd_cells hs).2.2.2.1
  have f3 := hs.frozen 3
  have hlt := hs.lt
  have s1 : Sits (w.setCell ⟨B, 3, none⟩ (.int .i64 (avgF r.avg b))).drew B (rdCells (r.come b)) t := (rd_set3 hs _).drew
  have HS : Hid (Sits (w.setCell ⟨B, 3, none⟩ (.int .i64 (avgF r.avg b))).drew B (rdCells (r.come b)) t) := s1
  obtain ⟨e0, e1, e2, e3, e4⟩ := rd_cells s1
  dsimp only [Rd.come] at e0 e1 e2 e3 e4
  have HJ : Hid (Just B w (w.setCell ⟨B, 3, none⟩ (.int .i64 (avgF r.avg b))).drew) := ((Just.refl B w).set 3 _).drew
  have HC : Hid (chanceF (r.come b) = p) := hp
  have HG : Hid ((r.come b).good = true) := hcg
  obtain ⟨w0, hw0⟩ : ∃ w0, (w.setCell ⟨B, 3, none⟩ (.int .i64 (avgF r.avg b))).drew = w0 := ⟨_, rfl⟩
  have HW : Hid ((w.setCell ⟨B, 3, none⟩ (.int .i64 (avgF r.avg b))).drew = w0) := hw0
  rw [hw0] at HS HJ e0 e1 e2 e3 e4
  clear hA hH hp hm hcg hs s1 hw0
  rcases (by omega : p = 0 ∨ (¬ p = 0 ∧ d < p) ∨ (¬ p = 0 ∧ ¬ d < p ∧ r.cnt < 1000000) ∨ (¬ p = 0 ∧ ¬ d < p ∧ ¬ r.cnt < 1000000)) with h1 | ⟨h1, h2⟩ | ⟨h1, h2, h3⟩ | ⟨h1, h2, h3⟩
  · have h1' : (p == 0) = true := by simpa using h1
    rw [if_pos (Or.inl h1), decide_eq_false (by omega)]
    clear h1
    go_enter Try.func23, Try.ntmps23
    go_wp2_with (first | (go_at_call 27; refine (l4avg_any B r.avg b g6 g7 hb'.1 hb'.2 _ c3 f3).mono ?_; rintro e w' ⟨rfl, rfl⟩; rw [HW.out]) | (go_at_call 28; refine (l4prob_any (r.come b) HG.out _).mono ?_; rintro e w2 ⟨rfl, b2⟩; rw [HC.out]; have S2 := (Sits.below HS.out b2 HS.out.lt); have f4 := S2.frozen 4; have d4 := (rd_cells S2).2.2.2.2; dsimp only [Rd.come] at d4; have SS : Hid (Sits w2 B (rdCells (r.come b)) t) := S2; clear S2))
    go_ret
    exact ⟨rfl, rd_set4 SS.out _, (HJ.out.trans (Just.of_below b2)).set 4 _⟩
  · have h1' : (p == 0) = false := by simpa using h1
    rw [if_pos (Or.inr h2), decide_eq_true h2]
    clear h1
    go_enter Try.func23, Try.ntmps23
    go_wp2_with (first | (go_at_call 27; refine (l4avg_any B r.avg b g6 g7 hb'.1 hb'.2 _ c3 f3).mono ?_; rintro e w' ⟨rfl, rfl⟩; rw [HW.out]) | (go_at_call 28; refine (l4prob_any (r.come b) HG.out _).mono ?_; rintro e w2 ⟨rfl, b2⟩; rw [HC.out]; have S2 := (Sits.below HS.out b2 HS.out.lt); have f4 := S2.frozen 4; have d4 := (rd_cells S2).2.2.2.2; dsimp only [Rd.come] at d4; have SS : Hid (Sits w2 B (rdCells (r.come b)) t) := S2; clear S2))
    go_ret
    exact ⟨rfl, rd_set4 SS.out _, (HJ.out.trans (Just.of_below b2)).set 4 _⟩
  · have h1' : (p == 0) = false := by simpa using h1
    rw [if_neg (by omega), decide_eq_false h2, if_pos h3]
    clear h1
    go_enter Try.func23, Try.ntmps23
    go_wp2_with (first | (go_at_call 27; refine (l4avg_any B r.avg b g6 g7 hb'.1 hb'.2 _ c3 f3).mono ?_; rintro e w' ⟨rfl, rfl⟩; rw [HW.out]) | (go_at_call 28; refine (l4prob_any (r.come b) HG.out _).mono ?_; rintro e w2 ⟨rfl, b2⟩; rw [HC.out]; have S2 := (Sits.below HS.out b2 HS.out.lt); have f4 := S2.frozen 4; have d4 := (rd_cells S2).2.2.2.2; dsimp only [Rd.come] at d4; have SS : Hid (Sits w2 B (rdCells (r.come b)) t) := S2; clear S2))
    go_ret
    exact ⟨rfl, rd_set4 SS.out _, (HJ.out.trans (Just.of_below b2)).set 4 _⟩
  · have h1' : (p == 0) = false := by simpa using h1
    have H4 : Hid (r.cnt = 1000000) := by show _ = _; omega
    rw [if_neg (by omega), decide_eq_false h2, if_neg h3]
    clear h1
    go_enter Try.func23, Try.ntmps23
    go_wp2_with (first | (go_at_call 27; refine (l4avg_any B r.avg b g6 g7 hb'.1 hb'.2 _ c3 f3).mono ?_; rintro e w' ⟨rfl, rfl⟩; rw [HW.out]) | (go_at_call 28; refine (l4prob_any (r.come b) HG.out _).mono ?_; rintro e w2 ⟨rfl, b2⟩; rw [HC.out]; have S2 := (Sits.below HS.out b2 HS.out.lt); have f4 := S2.frozen 4; have d4 := (rd_cells S2).2.2.2.2; dsimp only [Rd.come] at d4; have SS : Hid (Sits w2 B (rdCells (r.come b)) t) := S2; clear S2))
    go_ret
    exact ⟨rfl, by have h := SS.out; unfold Rd.come at h; rw [H4.out] at h; exact h, HJ.out.trans (Just.of_below b2)⟩

end Go.Proofs.Ytboomccnfnaboac
