/-
  A VISIT: begin.
-/
import Derived.Test.YtlhiadehohikdaaAgain
namespace Go.Proofs.Ytlhiadehohikdaa
open Go.RowKit
set_option linter.unusedVariables false

/-- How many count as hit where Dropping begins. -/
def moreF (c : Cd) (now : Int) : Int := if c.ct - c.la ≤ 1 ∨ 16 * c.iv ≤ now - c.nx then 1 else c.ct - c.la
theorem moreF_bd {c : Cd} {now : Int} (h8 : 0 ≤ c.ct) (h9 : c.ct ≤ 1073741824) (h10 : 0 ≤ c.la) (h11 : c.la ≤ 1073741824) : 1 ≤ moreF c now ∧ moreF c now ≤ 1073741824 := by unfold moreF; split <;> omega

set_option maxHeartbeats 4000000 in
theorem begin_gen {H V : Nat} {w : World} {c : Cd} {n : Nat} {f : Nat → Pk} {lim now : Int} {m : Nat} {g : Nat → Pk} (h : Vst H V w c n f lim now 0 true false m g) (c1 : Cd) (n1 : Nat) (f1 : Nat → Pk) (lt1 mq1 : Bool) (m1 : Nat) (k1 : Nat → Pk)
    (hh : Calls Try.prog 55 #[.pointer (some ⟨V, 0, none⟩)] w fun e w' => e = .returned (.tuple #[]) ∧ Vst H V w' c1 n1 f1 lim now 0 lt1 mq1 m1 k1 ∧ Below H w w')
    (hg : c1.good = true) (h0 : 0 ≤ now) (h1 : now ≤ 1000000000000) :
    Calls Try.prog 50 #[.pointer (some ⟨V, 0, none⟩)] w fun e w' => e = .returned (.tuple #[]) ∧ Vst H V w' ⟨c1.tg, c1.iv, c1.fi, nextF now c1.iv (moreF c1 now), moreF c1 now, moreF c1 now, true⟩ n1 f1 lim now 2 lt1 mq1 m1 k1 ∧ Below H w w' := by
  have HH : Hid _ := hh
  have hH := h.le
  have hVl := h.lt
  clear h hh
  obtain ⟨g1, g2, g3, g4, g5, g6, g7, g8, g9, g10, g11⟩ := c1.good_iff.1 hg
  obtain ⟨u, hu⟩ : ∃ u, moreF c1 now = u := ⟨_, rfl⟩
  obtain ⟨u0, u1⟩ : 1 ≤ u ∧ u ≤ 1073741824 := by rw [← hu]; exact moreF_bd g8 g9 g10 g11
  have HC : Hid (conF now c1.iv u = nextF now c1.iv u) := by
    show _ = _
    unfold conF inB
    rw [if_pos]
    simp only [Bool.and_eq_true, decide_eq_true_eq]
    omega
  have hcs : (c1.ct - c1.la ≤ 1 ∧ u = 1) ∨ (¬ c1.ct - c1.la ≤ 1 ∧ 16 * c1.iv ≤ now - c1.nx ∧ u = 1) ∨ (¬ c1.ct - c1.la ≤ 1 ∧ ¬ 16 * c1.iv ≤ now - c1.nx ∧ u = c1.ct - c1.la) := by
    rw [← hu]; unfold moreF; split <;> omega
  rw [hu]
  clear hu hg
  rcases hcs with ⟨e1, e3⟩ | ⟨e1, e2, e3⟩ | ⟨e1, e2, e3⟩
  · subst e3
    go_enter Try.func50, Try.ntmps50
    go_wp2_with (go_at_call 55; refine Calls.mono HH.out ?_; rintro e w1 ⟨rfl, v1, b1⟩; obtain ⟨⟨z0, z1, z2, z3, z4, z5, z6⟩, z9, z10, z11, z12, fz⟩ := v1.cells; have V1 : Hid _ := v1; clear v1)
    go_quiet (fail)
    revert nq; intro q1
    go_wp2
    go_quiet (fail)
    revert nq; intro q2
    go_wp2
    obtain ⟨W2, hW2⟩ : ∃ W2, (((w1.drewN (q1 + q2)).setCell ⟨V, 6, none⟩ (.bool true)).setCell ⟨V, 4, none⟩ (.int .i64 (1))).setCell ⟨V, 5, none⟩ (.int .i64 (1)) = W2 := ⟨_, rfl⟩
    have v2 : Vst H V W2 ⟨c1.tg, c1.iv, c1.fi, c1.nx, 1, 1, true⟩ n1 f1 lim now 0 lt1 mq1 m1 k1 := by rw [← hW2]; exact Vst.la (Vst.ct (Vst.dr (W := w1.drewN (q1 + q2)) V1.out true) _) _
    have b2 : Below H w W2 := by rw [← hW2]; exact ((((below_drewN b1 _).setCell hH _).setCell hH _).setCell hH _)
    rw [hW2]
    clear hW2 z0 z1 z2 z3 z4 z5 z6 z9 z10 z11 z12 fz
    obtain ⟨⟨z0, z1, z2, z3, z4, z5, z6⟩, z9, z10, z11, z12, fz⟩ := v2.cells
    have V2 : Hid _ := v2
    clear v2
    dsimp only at *
    go_region_with (go_at_call 56; refine (icontrol_any now c1.iv (1) _).mono ?_; rintro e w2 ⟨rfl, k2⟩; rw [HC.out]; have v3 := Vst.kept (Vst.drew V2.out) k2.1; obtain ⟨⟨y0, y1, y2, y3, y4, y5, y6⟩, y9, y10, y11, y12, fy⟩ := v3.cells; have V3 : Hid _ := v3; clear v3)
    all_goals
      go_wp2
      go_end0
      exact ⟨rfl, Vst.st (Vst.nx V3.out _) _, Vst.set (Vst.nx V3.out _) (Vst.set V3.out (b2.drew.trans (k2.1.mono (by have := b2.size; show H ≤ W2.heap.size; omega))) 3 _) 10 _⟩
  · subst e3
    have e1' : decide (c1.ct - c1.la ≤ 1) = false := by simpa using e1
    go_enter Try.func50, Try.ntmps50
    go_wp2_with (go_at_call 55; refine Calls.mono HH.out ?_; rintro e w1 ⟨rfl, v1, b1⟩; obtain ⟨⟨z0, z1, z2, z3, z4, z5, z6⟩, z9, z10, z11, z12, fz⟩ := v1.cells; have V1 : Hid _ := v1; clear v1)
    go_quiet (fail)
    revert nq; intro q1
    go_wp2
    go_quiet (fail)
    revert nq; intro q2
    go_wp2
    obtain ⟨W2, hW2⟩ : ∃ W2, (((w1.drewN (q1 + q2)).setCell ⟨V, 6, none⟩ (.bool true)).setCell ⟨V, 4, none⟩ (.int .i64 (1))).setCell ⟨V, 5, none⟩ (.int .i64 (1)) = W2 := ⟨_, rfl⟩
    have v2 : Vst H V W2 ⟨c1.tg, c1.iv, c1.fi, c1.nx, 1, 1, true⟩ n1 f1 lim now 0 lt1 mq1 m1 k1 := by rw [← hW2]; exact Vst.la (Vst.ct (Vst.dr (W := w1.drewN (q1 + q2)) V1.out true) _) _
    have b2 : Below H w W2 := by rw [← hW2]; exact ((((below_drewN b1 _).setCell hH _).setCell hH _).setCell hH _)
    rw [hW2]
    clear hW2 z0 z1 z2 z3 z4 z5 z6 z9 z10 z11 z12 fz
    obtain ⟨⟨z0, z1, z2, z3, z4, z5, z6⟩, z9, z10, z11, z12, fz⟩ := v2.cells
    have V2 : Hid _ := v2
    clear v2
    dsimp only at *
    go_region_with (go_at_call 56; refine (icontrol_any now c1.iv (1) _).mono ?_; rintro e w2 ⟨rfl, k2⟩; rw [HC.out]; have v3 := Vst.kept (Vst.drew V2.out) k2.1; obtain ⟨⟨y0, y1, y2, y3, y4, y5, y6⟩, y9, y10, y11, y12, fy⟩ := v3.cells; have V3 : Hid _ := v3; clear v3)
    all_goals
      go_wp2
      go_end0
      exact ⟨rfl, Vst.st (Vst.nx V3.out _) _, Vst.set (Vst.nx V3.out _) (Vst.set V3.out (b2.drew.trans (k2.1.mono (by have := b2.size; show H ≤ W2.heap.size; omega))) 3 _) 10 _⟩
  · subst e3
    have e1' : decide (c1.ct - c1.la ≤ 1) = false := by simpa using e1
    have e2' : decide (16 * c1.iv ≤ now - c1.nx) = false := by simpa using e2
    go_enter Try.func50, Try.ntmps50
    go_wp2_with (go_at_call 55; refine Calls.mono HH.out ?_; rintro e w1 ⟨rfl, v1, b1⟩; obtain ⟨⟨z0, z1, z2, z3, z4, z5, z6⟩, z9, z10, z11, z12, fz⟩ := v1.cells; have V1 : Hid _ := v1; clear v1)
    go_quiet (fail)
    revert nq; intro q1
    go_wp2
    go_quiet (fail)
    revert nq; intro q2
    go_wp2
    obtain ⟨W2, hW2⟩ : ∃ W2, (((w1.drewN (q1 + q2)).setCell ⟨V, 6, none⟩ (.bool true)).setCell ⟨V, 4, none⟩ (.int .i64 (c1.ct - c1.la))).setCell ⟨V, 5, none⟩ (.int .i64 (c1.ct - c1.la)) = W2 := ⟨_, rfl⟩
    have v2 : Vst H V W2 ⟨c1.tg, c1.iv, c1.fi, c1.nx, c1.ct - c1.la, c1.ct - c1.la, true⟩ n1 f1 lim now 0 lt1 mq1 m1 k1 := by rw [← hW2]; exact Vst.la (Vst.ct (Vst.dr (W := w1.drewN (q1 + q2)) V1.out true) _) _
    have b2 : Below H w W2 := by rw [← hW2]; exact ((((below_drewN b1 _).setCell hH _).setCell hH _).setCell hH _)
    rw [hW2]
    clear hW2 z0 z1 z2 z3 z4 z5 z6 z9 z10 z11 z12 fz
    obtain ⟨⟨z0, z1, z2, z3, z4, z5, z6⟩, z9, z10, z11, z12, fz⟩ := v2.cells
    have V2 : Hid _ := v2
    clear v2
    dsimp only at *
    go_region_with (go_at_call 56; refine (icontrol_any now c1.iv (c1.ct - c1.la) _).mono ?_; rintro e w2 ⟨rfl, k2⟩; rw [HC.out]; have v3 := Vst.kept (Vst.drew V2.out) k2.1; obtain ⟨⟨y0, y1, y2, y3, y4, y5, y6⟩, y9, y10, y11, y12, fy⟩ := v3.cells; have V3 : Hid _ := v3; clear v3)
    all_goals
      go_wp2
      go_end0
      exact ⟨rfl, Vst.st (Vst.nx V3.out _) _, Vst.set (Vst.nx V3.out _) (Vst.set V3.out (b2.drew.trans (k2.1.mono (by have := b2.size; show H ≤ W2.heap.size; omega))) 3 _) 10 _⟩

end Go.Proofs.Ytlhiadehohikdaa
