/-
  THE PROGRAM's CHANCE, asked: plain, rest, grown; RedProb.
-/
import Derived.Test.YtboomccnfnaboacChance2
import Derived.Deep.RegionWith
namespace Go.Proofs.Ytboomccnfnaboac
open Go.RowKit
set_option linter.unusedVariables false

/-- A chance that was asked or was not. -/
def Asked (W : World) (B : Nat) (r : Rd) (t : TypeId) : Prop := Sits W B (chCells r 0 0 0 0) t ∨ Sits W B (chCells r 1 0 0 (plainF r)) t
theorem Asked.lt {W : World} {B : Nat} {r : Rd} {t : TypeId} (h : Asked W B r t) : B < W.heap.size := by rcases h with h | h <;> exact h.lt
theorem Asked.c4 {W : World} {B : Nat} {r : Rd} {t : TypeId} (h : Asked W B r t) : W.cell? ⟨B, 4, none⟩ = some (.int .i64 r.cnt) := by rcases h with h | h <;> exact (ch_cells h).2.2.2.2.1

set_option maxRecDepth 100000 in
set_option maxHeartbeats 1600000 in
theorem plain_any (r : Rd) (h : r.mid) (B : Nat) (t : TypeId) (w : World) (hs : Asked w B r t) :
    Calls Try.prog 22 #[.pointer (some ⟨B, 0, none⟩)] w fun e w' => e = .returned (.int .i64 (plainF r)) ∧ Sits w' B (chCells r 1 0 0 (plainF r)) t ∧ Just B w w' := by
  have hmf : ∀ (fn : Fn) (first cap : Array Value) (w : World), (Instr.makeFunc fn first cap).run Try.prog w = .ok (.func fn first cap) w := fun _ _ _ _ => rfl
  have hlt := hs.lt
  have hpb : ¬ B = (⟨w.heap.size, 0, none⟩ : Addr).block := by show ¬ B = w.heap.size; omega
  have p0 : (w.alloc (.cells #[.pointer (some ⟨B, 0, none⟩)] 42)).cell? ⟨w.heap.size, 0, none⟩ = some (.pointer (some ⟨B, 0, none⟩)) := by simp
  rcases hs with hs | hs
  · have HS : Hid (Sits (w.alloc (.cells #[.pointer (some ⟨B, 0, none⟩)] 42)) B (chCells r 0 0 0 0) t) := hs.alloc _
    clear hs
    go_enter Try.func22, Try.ntmps22
    go_wp2_with (go_at_call 25; refine (do_first r h B ⟨w.heap.size, 0, none⟩ hpb 0 0 t _ p0 HS.out).mono ?_; rintro e w1 ⟨rfl, s1, j1⟩; have c8 := (ch_cells s1).2.2.2.2.2.2.2; have pE : w1.cell? ⟨w.heap.size, 0, none⟩ = some (.pointer (some ⟨B, 0, none⟩)) := (j1.cell (by simp) (by show w.heap.size ≠ B; omega)).trans p0; have S1 : Hid (Sits w1 B (chCells r 1 0 0 (plainF r)) t) := s1; clear s1)
    go_ret
    exact ⟨rfl, S1.out, ((Just.refl B w).alloc _).trans j1⟩
  · have hs' := hs.alloc (.cells #[.pointer (some ⟨B, 0, none⟩)] 42)
    have c5 := (ch_cells hs').2.2.2.2.2.1
    have c8 := (ch_cells hs').2.2.2.2.2.2.2
    have HS : Hid (Sits (w.alloc (.cells #[.pointer (some ⟨B, 0, none⟩)] 42)) B (chCells r 1 0 0 (plainF r)) t) := hs'
    clear hs hs'
    go_enter Try.func22, Try.ntmps22
    go_wp2_with (go_at_call 25; refine (do_done ⟨B, 5, none⟩ _ _ c5).mono ?_; rintro e w1 ⟨rfl, rfl⟩)
    go_ret
    exact ⟨rfl, HS.out, (Just.refl B w).alloc _⟩

set_option maxRecDepth 20000 in
set_option maxHeartbeats 1600000 in
theorem rest_any (r : Rd) (h : r.mid) (B : Nat) (t : TypeId) (w : World) (hs : Asked w B r t) :
    Calls Try.prog 21 #[.pointer (some ⟨B, 0, none⟩)] w fun e w' => e = .returned (.int .i64 (restF r)) ∧ Sits w' B (chCells r 1 0 0 (plainF r)) t ∧ Just B w w' := by
  obtain ⟨p0, p1⟩ := plainF_bd h
  obtain ⟨g1, g2, g3, g4, g5, g6, g7, g8, g9⟩ := r.good_iff.1 h.1
  obtain ⟨r0, r1⟩ := restF_bd h
  have s0 := satMulF_bd r.cnt (plainF r)
  have hr : 65536 - satMulF r.cnt (plainF r) = restF r := rfl
  have c4 := hs.c4
  have HA : Hid (Asked w.drew B r t) := hs
  have HM : Hid r.mid := h
  clear hs h
  go_enter Try.func21, Try.ntmps21
  go_wp2
  go_region_with (first | (go_at_call 22; refine (plain_any r HM.out B t _ HA.out).mono ?_; rintro e w1 ⟨rfl, s1, j1⟩; have d4 := (ch_cells s1).2.2.2.2.1; have S1 : Hid (Sits w1 B (chCells r 1 0 0 (plainF r)) t) := s1; have J1 : Hid (Just B w.drew w1) := j1; clear s1 j1) | (go_at_call 24; refine (satMul_impl _ _ (by omega) (by omega) (by omega) (by omega) _).mono ?_; rintro e w2 ⟨rfl, rfl⟩))
  all_goals
    go_wp2
    go_ret
    exact ⟨ret_int (by first | rfl | (rw [IntKind.wrap_i64]; omega)), S1.out, (Just.refl B w).drew.trans J1.out⟩

set_option maxRecDepth 20000 in
set_option maxHeartbeats 1600000 in
theorem grown_any (r : Rd) (h : r.mid) (B : Nat) (t : TypeId) (w : World) (hs : Asked w B r t) :
    Calls Try.prog 17 #[.pointer (some ⟨B, 0, none⟩)] w fun e w' => e = .returned (.int .i64 (grownF r)) ∧ Just B w w' := by
  obtain ⟨p0, p1⟩ := plainF_bd h
  obtain ⟨r0, r1⟩ := restF_bd h
  have HA : Hid (Asked w B r t) := hs
  have HM : Hid r.mid := h
  clear hs h
  by_cases hc : restF r ≤ plainF r
  · have HE : Hid (grownF r = 65536) := by show _ = _; unfold grownF; rw [if_pos hc]
    go_enter Try.func17, Try.ntmps17
    go_wp2_with (first | (go_at_call 21; refine (rest_any r HM.out B t _ HA.out).mono ?_; rintro e w1 ⟨rfl, s1, j1⟩; have S1 : Hid (Sits w1 B (chCells r 1 0 0 (plainF r)) t) := s1; clear s1) | (go_at_call 22; refine (plain_any r HM.out B t _ (.inr S1.out)).mono ?_; clear S1; rintro e w2 ⟨rfl, s2, j2⟩; have S1 : Hid (Sits w2 B (chCells r 1 0 0 (plainF r)) t) := s2; clear s2; replace j1 := j1.trans j2; clear j2))
    go_ret
    exact ⟨ret_int HE.out.symm, j1⟩
  · have HE : Hid (grownF r = plainF r * 65536 / restF r) := by show _ = _; unfold grownF; rw [if_neg hc]
    have n3 : ¬ restF r = 0 := by omega
    have n4 : 0 ≤ restF r := by omega
    go_enter Try.func17, Try.ntmps17
    go_wp2_with (first | (go_at_call 21; refine (rest_any r HM.out B t _ HA.out).mono ?_; rintro e w1 ⟨rfl, s1, j1⟩; have S1 : Hid (Sits w1 B (chCells r 1 0 0 (plainF r)) t) := s1; clear s1) | (go_at_call 22; refine (plain_any r HM.out B t _ (.inr S1.out)).mono ?_; clear S1; rintro e w2 ⟨rfl, s2, j2⟩; have S1 : Hid (Sits w2 B (chCells r 1 0 0 (plainF r)) t) := s2; clear s2; replace j1 := j1.trans j2; clear j2))
    go_ret
    exact ⟨ret_int HE.out.symm, j1⟩

set_option maxHeartbeats 1600000 in
theorem iredProb_any (r : Rd) (w : World) :
    Calls Try.prog 9 #[r.val] w fun e w' => e = .returned (.int .i64 (probF r)) ∧ Below w.heap.size w w' := by
  cases hg : r.good
  case false =>
    have HE : Hid (probF r = 0) := by show _ = _; unfold probF; simp [hg]
    go_enter Try.func9, Try.ntmps9
    go_wp2_with (go_at_call 10; refine (iredOk_ex r _).mono ?_; rintro e w1 ⟨rfl, rfl⟩; rw [hg])
    go_ret
    exact ⟨ret_int HE.out.symm, by go_grown⟩
  case true =>
  obtain ⟨g1, g2, g3, g4, g5, g6, g7, g8, g9⟩ := r.good_iff.1 hg
  by_cases h1 : r.avg < r.mn * 65536
  · have HE : Hid (probF r = 0) := by show _ = _; unfold probF; simp [hg, h1]
    go_enter Try.func9, Try.ntmps9
    go_wp2_with (go_at_call 10; refine (iredOk_ex r _).mono ?_; rintro e w1 ⟨rfl, rfl⟩; rw [hg])
    go_ret
    exact ⟨ret_int HE.out.symm, by go_grown⟩
  by_cases h2 : r.mx * 65536 ≤ r.avg
  · have HE : Hid (probF r = 65536) := by show _ = _; unfold probF; simp [hg, h1, h2]
    go_enter Try.func9, Try.ntmps9
    go_wp2_with (go_at_call 10; refine (iredOk_ex r _).mono ?_; rintro e w1 ⟨rfl, rfl⟩; rw [hg])
    go_ret
    exact ⟨ret_int HE.out.symm, by go_grown⟩
  · have HE : Hid (probF r = grownF r) := by show _ = _; unfold probF; simp [hg, h1, h2]
    have HM : Hid r.mid := ⟨hg, h1, h2⟩
    have h0 : Below w.heap.size w (((w.alloc (.cells (rdCells r) 24)).alloc (.cells (rdCells r) 24)).alloc (.cells (chCells r 0 0 0 0) 56)) := by go_grown
    have hs := Sits.new ((w.alloc (.cells (rdCells r) 24)).alloc (.cells (rdCells r) 24)) (chCells r 0 0 0 0) 56
    simp only [World.size_alloc] at hs
    have HS : Hid _ := hs
    clear hs
    go_enter Try.func9, Try.ntmps9
    go_wp2_with (first | (go_at_call 10; refine (iredOk_ex r _).mono ?_; rintro e w1 ⟨rfl, rfl⟩; rw [hg]) | (go_at_call 17; refine (grown_any r HM.out _ 56 _ (.inl HS.out)).mono ?_; rintro e w1 ⟨rfl, j1⟩))
    go_ret
    exact ⟨ret_int HE.out.symm, h0.trans (j1.below (by omega) h0.size)⟩

end Go.Proofs.Ytboomccnfnaboac
