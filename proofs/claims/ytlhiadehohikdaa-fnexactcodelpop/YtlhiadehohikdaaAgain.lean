/-
  A VISIT: hitAgain, begin, stop.
-/
import Derived.Test.YtlhiadehohikdaaHitD
namespace Go.Proofs.Ytlhiadehohikdaa
open Go.RowKit
set_option linter.unusedVariables false

theorem Vst.upd {H V : Nat} {W : World} {c : Cd} {n : Nat} {f : Nat → Pk} {lim now st : Int} {lt mq : Bool} {m : Nat} {g : Nat → Pk} (h : Vst H V W c n f lim now st lt mq m g) (k : Nat) (v : Value) (c' : Cd) (st' : Int) (hs : ∀ a cap x cp, Sits W V (vsCells ⟨c, a, n, cap, lim, now, st, lt, mq, x, m, cp⟩) 59 → Sits (W.setCell ⟨V, k, none⟩ v) V (vsCells ⟨c', a, n, cap, lim, now, st', lt, mq, x, m, cp⟩) 59) : Vst H V (W.setCell ⟨V, k, none⟩ v) c' n f lim now st' lt mq m g := by
  obtain ⟨a, cap, x, cp, h1, h2, h3, h4⟩ := h
  exact ⟨a, cap, x, cp, hs a cap x cp h1, h2.only ((Only.refl V W).set k _), h3.keep fun k' hk hk2 => ((Only.refl V W).set k _).block k' hk2 (by omega), h4⟩
theorem Vst.drew {H V : Nat} {W : World} {c : Cd} {n : Nat} {f : Nat → Pk} {lim now st : Int} {lt mq : Bool} {m : Nat} {g : Nat → Pk} (h : Vst H V W c n f lim now st lt mq m g) : Vst H V W.drew c n f lim now st lt mq m g := h
theorem Vst.cells {H V : Nat} {W : World} {c : Cd} {n : Nat} {f : Nat → Pk} {lim now st : Int} {lt mq : Bool} {m : Nat} {g : Nat → Pk} (h : Vst H V W c n f lim now st lt mq m g) : (W.cell? ⟨V, 0, none⟩ = some (.int .i64 c.tg) ∧ W.cell? ⟨V, 1, none⟩ = some (.int .i64 c.iv) ∧ W.cell? ⟨V, 2, none⟩ = some (.int .i64 c.fi) ∧ W.cell? ⟨V, 3, none⟩ = some (.int .i64 c.nx) ∧ W.cell? ⟨V, 4, none⟩ = some (.int .i64 c.ct) ∧ W.cell? ⟨V, 5, none⟩ = some (.int .i64 c.la) ∧ W.cell? ⟨V, 6, none⟩ = some (.bool c.dr)) ∧ W.cell? ⟨V, 9, none⟩ = some (.int .i64 now) ∧ W.cell? ⟨V, 10, none⟩ = some (.int .i64 st) ∧ W.cell? ⟨V, 11, none⟩ = some (.bool lt) ∧ W.cell? ⟨V, 12, none⟩ = some (.bool mq) ∧ ∀ k, W.frozen? ⟨V, k, none⟩ = false := by
  obtain ⟨a, cap, x, cp, h1, h2, h3, h4⟩ := h
  obtain ⟨hc, _, h9, h10, h11, h12, _⟩ := vs_cells h1
  exact ⟨hc, h9, h10, h11, h12, h1.frozen⟩
theorem Vst.ct {H V : Nat} {W : World} {c : Cd} {n : Nat} {f : Nat → Pk} {lim now st : Int} {lt mq : Bool} {m : Nat} {g : Nat → Pk} (h : Vst H V W c n f lim now st lt mq m g) (v : Int) : Vst H V (W.setCell ⟨V, 4, none⟩ (.int .i64 v)) ⟨c.tg, c.iv, c.fi, c.nx, v, c.la, c.dr⟩ n f lim now st lt mq m g := h.upd 4 _ _ _ fun _ _ _ _ s => vs_ct s v
theorem Vst.nx {H V : Nat} {W : World} {c : Cd} {n : Nat} {f : Nat → Pk} {lim now st : Int} {lt mq : Bool} {m : Nat} {g : Nat → Pk} (h : Vst H V W c n f lim now st lt mq m g) (v : Int) : Vst H V (W.setCell ⟨V, 3, none⟩ (.int .i64 v)) ⟨c.tg, c.iv, c.fi, v, c.ct, c.la, c.dr⟩ n f lim now st lt mq m g := h.upd 3 _ _ _ fun _ _ _ _ s => vs_nx s v
theorem Vst.la {H V : Nat} {W : World} {c : Cd} {n : Nat} {f : Nat → Pk} {lim now st : Int} {lt mq : Bool} {m : Nat} {g : Nat → Pk} (h : Vst H V W c n f lim now st lt mq m g) (v : Int) : Vst H V (W.setCell ⟨V, 5, none⟩ (.int .i64 v)) ⟨c.tg, c.iv, c.fi, c.nx, c.ct, v, c.dr⟩ n f lim now st lt mq m g := h.upd 5 _ _ _ fun _ _ _ _ s => vs_la s v
theorem Vst.dr {H V : Nat} {W : World} {c : Cd} {n : Nat} {f : Nat → Pk} {lim now st : Int} {lt mq : Bool} {m : Nat} {g : Nat → Pk} (h : Vst H V W c n f lim now st lt mq m g) (v : Bool) : Vst H V (W.setCell ⟨V, 6, none⟩ (.bool v)) ⟨c.tg, c.iv, c.fi, c.nx, c.ct, c.la, v⟩ n f lim now st lt mq m g := h.upd 6 _ _ _ fun _ _ _ _ s => vs_dr s v
theorem Vst.st {H V : Nat} {W : World} {c : Cd} {n : Nat} {f : Nat → Pk} {lim now st : Int} {lt mq : Bool} {m : Nat} {g : Nat → Pk} (h : Vst H V W c n f lim now st lt mq m g) (v : Int) : Vst H V (W.setCell ⟨V, 10, none⟩ (.int .i64 v)) c n f lim now v lt mq m g := h.upd 10 _ _ _ fun _ _ _ _ s => vs_st s v
theorem Vst.set {H V : Nat} {W : World} {c : Cd} {n : Nat} {f : Nat → Pk} {lim now st : Int} {lt mq : Bool} {m : Nat} {g : Nat → Pk} (h : Vst H V W c n f lim now st lt mq m g) {w : World} (hb : Below H w W) (k : Nat) (v : Value) : Below H w (W.setCell ⟨V, k, none⟩ v) := hb.setCell h.le _

/-- One more was hit. -/
def upF (t : Int) : Int := if 1073741824 < t + 1 then 1073741824 else t + 1

theorem upF_bd {t : Int} (h0 : 0 ≤ t) (h1 : t ≤ 1073741824) : 1 ≤ upF t ∧ upF t ≤ 1073741824 := by unfold upF; split <;> omega

set_option maxHeartbeats 4000000 in
theorem hitAgain_gen {H V : Nat} {w : World} {c : Cd} {n : Nat} {f : Nat → Pk} {lim now : Int} {m : Nat} {g : Nat → Pk} (h : Vst H V w c n f lim now 1 true false m g) (g8 : 0 ≤ c.ct) (g9 : c.ct ≤ 1073741824) (c1 : Cd) (n1 : Nat) (f1 : Nat → Pk) (lt1 mq1 : Bool) (m1 : Nat) (k1 : Nat → Pk)
    (hh : ∀ W, Vst H V W ⟨c.tg, c.iv, c.fi, c.nx, upF c.ct, c.la, c.dr⟩ n f lim now 1 true false m g → Calls Try.prog 55 #[.pointer (some ⟨V, 0, none⟩)] W fun e w' => e = .returned (.tuple #[]) ∧ Vst H V w' c1 n1 f1 lim now 1 lt1 mq1 m1 k1 ∧ Below H W w')
    (hc : conF c1.nx c1.iv c1.ct = nextF c1.nx c1.iv c1.ct) :
    Calls Try.prog 52 #[.pointer (some ⟨V, 0, none⟩)] w fun e w' => e = .returned (.tuple #[]) ∧ Vst H V w' (if lt1 then ⟨c1.tg, c1.iv, c1.fi, nextF c1.nx c1.iv c1.ct, c1.ct, c1.la, c1.dr⟩ else c1) n1 f1 lim now 1 lt1 mq1 m1 k1 ∧ Below H w w' := by
  have HV : Hid (Vst H V w c n f lim now 1 true false m g) := h
  have HH : Hid _ := hh
  have HC : Hid _ := hc
  obtain ⟨⟨z0, z1, z2, z3, z4, z5, z6⟩, z9, z10, z11, z12, fz⟩ := h.cells
  have hH := h.le
  clear h hh hc
  obtain ⟨u, hu, hcs⟩ : ∃ u, upF c.ct = u ∧ ((1073741824 < c.ct + 1 ∧ u = 1073741824) ∨ (¬ 1073741824 < c.ct + 1 ∧ u = c.ct + 1)) := ⟨upF c.ct, rfl, by unfold upF; split <;> omega⟩
  have HV2 : Hid (Vst H V (w.setCell ⟨V, 4, none⟩ (.int .i64 u)) ⟨c.tg, c.iv, c.fi, c.nx, upF c.ct, c.la, c.dr⟩ n f lim now 1 true false m g) := by show Vst _ _ _ _ _ _ _ _ _ _ _ _ _; rw [hu]; exact Vst.ct HV.out u
  have B1 : Hid (Below H w (w.setCell ⟨V, 4, none⟩ (.int .i64 u))) := (Below.refl H w).setCell hH _
  clear hu
  cases lt1
  case false =>
    rcases hcs with ⟨e1, rfl⟩ | ⟨e1, rfl⟩
    all_goals
      go_enter Try.func52, Try.ntmps52
      go_wp2_with (go_at_call 55; refine (HH.out _ HV2.out).mono ?_; rintro e w1 ⟨rfl, v1, b1⟩; clear z0 z1 z2 z3 z4 z5 z6 z9 z10 z11 z12 fz; obtain ⟨⟨z0, z1, z2, z3, z4, z5, z6⟩, z9, z10, z11, z12, fz⟩ := v1.cells; have V1 : Hid _ := v1; clear v1; replace b1 := B1.out.trans b1)
      go_end0
      exact ⟨rfl, V1.out, b1⟩
  case true =>
    rcases hcs with ⟨e1, rfl⟩ | ⟨e1, rfl⟩
    all_goals
      go_enter Try.func52, Try.ntmps52
      go_wp2_with (go_at_call 55; refine (HH.out _ HV2.out).mono ?_; rintro e w1 ⟨rfl, v1, b1⟩; clear z0 z1 z2 z3 z4 z5 z6 z9 z10 z11 z12 fz; obtain ⟨⟨z0, z1, z2, z3, z4, z5, z6⟩, z9, z10, z11, z12, fz⟩ := v1.cells; have V1 : Hid _ := v1; clear v1; replace b1 := B1.out.trans b1)
      go_region_with (go_at_call 56; refine (icontrol_any c1.nx c1.iv c1.ct _).mono ?_; rintro e w2 ⟨rfl, k2⟩; rw [HC.out]; have v2 := Vst.kept (Vst.drew V1.out) k2.1; obtain ⟨⟨y0, y1, y2, y3, y4, y5, y6⟩, y9, y10, y11, y12, fy⟩ := v2.cells; have V2 : Hid _ := v2; clear v2)
      all_goals
        go_wp2
        go_end0
        exact ⟨rfl, Vst.nx V2.out _, Vst.set V2.out (b1.drew.trans (k2.1.mono (by have := b1.size; have := Vst.lt HV.out; show H ≤ w1.heap.size; omega))) 3 _⟩

end Go.Proofs.Ytlhiadehohikdaa
