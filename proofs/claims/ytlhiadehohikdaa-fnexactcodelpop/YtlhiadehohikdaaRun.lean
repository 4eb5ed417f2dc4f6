/-
  A VISIT: run.
-/
import Derived.Test.YtlhiadehohikdaaPopN
import Derived.Test.YtlhiadehohikdaaVisit2
namespace Go.Proofs.Ytlhiadehohikdaa
open Go.RowKit
set_option linter.unusedVariables false

theorem again_mark {H V : Nat} {w : World} {c : Cd} {n : Nat} {f : Nat → Pk} {lim now : Int} {m : Nat} (h : Vst H V w c (n - m) (shiftF f m) lim now 1 true false m f) (hm : m < n) (hl : lookB c (shiftF f m) (n - m) lim now = true) (hx : c.nx ≤ now) (he : (f m).ecn ≠ 0) :
    Calls Try.prog 52 #[.pointer (some ⟨V, 0, none⟩)] w fun e w' => e = .returned (.tuple #[]) ∧ Vst H V w' ⟨c.tg, c.iv, c.fi, nextF c.nx c.iv (upF c.ct), upF c.ct, c.la, c.dr⟩ (n - m) (markF (shiftF f m)) lim now 1 true true m f ∧ Below H w w' := by
  obtain ⟨hg, _, hi, _⟩ := look_parts hl
  obtain ⟨n0, n1⟩ : 0 ≤ now ∧ now ≤ 1000000000000 := by simpa [inB] using hi
  have gg := c.good_iff.1 hg
  exact hitAgain_gen h gg.2.2.2.2.2.2.2.1 gg.2.2.2.2.2.2.2.2.1 ⟨c.tg, c.iv, c.fi, c.nx, upF c.ct, c.la, c.dr⟩ (n - m) (markF (shiftF f m)) true true m f
    (fun W hW => hit_mark hW (by omega) he) (con_of_good (t := c.nx) (upC_good hg) gg.2.2.2.2.2.1 (Int.le_trans hx n1))

theorem again_drop {H V : Nat} {w : World} {c : Cd} {n : Nat} {f : Nat → Pk} {lim now : Int} {m : Nat} (h : Vst H V w c (n - m) (shiftF f m) lim now 1 true false m f) (hm : m < n) (hl : lookB c (shiftF f m) (n - m) lim now = true) (hx : c.nx ≤ now) (he : (f m).ecn = 0) (hn : n ≤ 40) (c2 : Cd) (l2 : Bool) (h2 : lateC ⟨c.tg, c.iv, c.fi, c.nx, upF c.ct, c.la, c.dr⟩ (shiftF f (m + 1)) (n - (m + 1)) now = c2) (h3 : lateB ⟨c.tg, c.iv, c.fi, c.nx, upF c.ct, c.la, c.dr⟩ (shiftF f (m + 1)) (n - (m + 1)) now = l2) :
    Calls Try.prog 52 #[.pointer (some ⟨V, 0, none⟩)] w fun e w' => e = .returned (.tuple #[]) ∧ Vst H V w' (if l2 then ⟨c2.tg, c2.iv, c2.fi, nextF c2.nx c2.iv c2.ct, c2.ct, c2.la, c2.dr⟩ else c2) (n - (m + 1)) (shiftF f (m + 1)) lim now 1 l2 false (m + 1) f ∧ Below H w w' := by
  obtain ⟨hg, _, hi, _⟩ := look_parts hl
  obtain ⟨n0, n1⟩ : 0 ≤ now ∧ now ≤ 1000000000000 := by simpa [inB] using hi
  have gg := c.good_iff.1 hg
  refine hitAgain_gen h gg.2.2.2.2.2.2.2.1 gg.2.2.2.2.2.2.2.2.1 c2 (n - (m + 1)) (shiftF f (m + 1)) l2 false (m + 1) f (fun W hW => ?_) ?_
  · have := hit_drop hW (by omega) (by omega) (look_cong hl (upC_good hg)) he
    rw [popF_shift, putAt_self, Nat.sub_sub, h2, h3] at this
    exact this
  · have e := lateC_nx ⟨c.tg, c.iv, c.fi, c.nx, upF c.ct, c.la, c.dr⟩ (shiftF f (m + 1)) (n - (m + 1)) now
    rw [h2] at e
    rw [e.1, e.2.1, e.2.2.1]
    exact con_of_good (t := c.nx) (upC_good hg) gg.2.2.2.2.2.1 (Int.le_trans hx n1)

theorem begin_vst {H V : Nat} {w : World} {c : Cd} {n : Nat} {f : Nat → Pk} {lim now : Int} (h : Vst H V w c n f lim now 0 true false 0 f) (hn : 0 < n) (hl : lookB c f n lim now = true) (R : Res) (hR : begR f n now c = R) :
    Calls Try.prog 50 #[.pointer (some ⟨V, 0, none⟩)] w fun e w' => e = .returned (.tuple #[]) ∧ (∃ lt, Vst H V w' R.c (n - R.m) (outF f R) lim now 2 lt R.mk' R.m f) ∧ Below H w w' := by
  obtain ⟨hg, hf, hi, _⟩ := look_parts hl
  obtain ⟨n0, n1⟩ : 0 ≤ now ∧ now ≤ 1000000000000 := by simpa [inB] using hi
  have hn40 : n ≤ 40 := by have := fifo_nums hf; omega
  by_cases he : (f 0).ecn = 0
  · have h1 := hit_drop h hn (by omega) hl he
    rw [← shiftF_0 f, popF_shift, shiftF_0, Nat.zero_add] at h1
    have e1 : putAt f 0 (f 0) = f := by have := putAt_self f 0; rwa [shiftF_0] at this
    rw [e1] at h1
    refine (begin_gen h _ _ _ _ _ _ _ h1 (lateC_good hg n0 n1) n0 n1).mono ?_
    rintro e w' ⟨rfl, v, b⟩
    refine ⟨rfl, ⟨lateB c (shiftF f 1) (n - 1) now, ?_⟩, b⟩
    rw [← hR]
    unfold begR outF
    rw [if_neg (by simpa using he)]
    exact v
  · refine (begin_gen h _ _ _ _ _ _ _ (hit_mark h hn he) hg n0 n1).mono ?_
    rintro e w' ⟨rfl, v, b⟩
    refine ⟨rfl, ⟨true, ?_⟩, b⟩
    rw [← hR]
    unfold begR outF
    rw [if_pos he]
    dsimp only
    rw [shiftF_0]
    exact v

/-- What is done next, by numbers. -/
def turnW (V : Nat) (st : Int) (lt mq : Bool) (now nx : Int) : Value := if st = 0 then (if lt then meth 50 V else .nilFunc) else if st = 1 then (if lt = false then meth 51 V else if mq = true ∨ now < nx then .nilFunc else meth 52 V) else .nilFunc
theorem turned_vst {H V : Nat} {w : World} {c : Cd} {n : Nat} {f : Nat → Pk} {lim now st : Int} {lt mq : Bool} {m : Nat} {g : Nat → Pk} (h : Vst H V w c n f lim now st lt mq m g) (hst : st = 0 ∨ st = 1 ∨ st = 2) :
    Calls Try.prog 37 #[.pointer (some ⟨V, 0, none⟩)] w fun e w' => e = .returned (turnW V st lt mq now c.nx) ∧ Vst H V w' c n f lim now st lt mq m g ∧ Below H w w' := by
  have h' := h
  have hl := h.lt
  have he := h.le
  obtain ⟨a, cap, x, cp, s, _⟩ := h
  refine (turned_visit ⟨c, a, n, cap, lim, now, st, lt, mq, x, m, cp⟩ V w s hst).mono ?_
  rintro e w' ⟨rfl, hb⟩
  exact ⟨rfl, h'.kept hb, hb.mono (by omega)⟩
theorem stop_vst {H V : Nat} {w : World} {c : Cd} {n : Nat} {f : Nat → Pk} {lim now st : Int} {lt mq : Bool} {m : Nat} {g : Nat → Pk} (h : Vst H V w c n f lim now st lt mq m g) :
    Calls Try.prog 51 #[.pointer (some ⟨V, 0, none⟩)] w fun e w' => e = .returned (.tuple #[]) ∧ Vst H V w' (dropR.noDr c) n f lim now 2 lt mq m g ∧ Below H w w' := by
  obtain ⟨a, cap, x, cp, h1, h2, h3, h4⟩ := h
  refine (stop_visit ⟨c, a, n, cap, lim, now, st, lt, mq, x, m, cp⟩ V w h1).mono ?_
  rintro e w' ⟨rfl, s1, ho⟩
  exact ⟨rfl, ⟨a, cap, x, cp, s1, h2.only ho, h3.keep fun k hk hk2 => ho.block k hk2 (by omega), h4⟩, ho.below h4 (by have := h1.lt; omega)⟩

/-- How many are left, as the visit's cell says. -/
def qlen (W : World) (V : Nat) : Nat := match W.cell? ⟨V, 7, none⟩ with | some (.slice _ n _) => n | _ => 0
theorem Vst.qlen {H V : Nat} {W : World} {c : Cd} {n : Nat} {f : Nat → Pk} {lim now st : Int} {lt mq : Bool} {m : Nat} {g : Nat → Pk} (h : Vst H V W c n f lim now st lt mq m g) : qlen W V = n := by
  obtain ⟨a, cap, x, cp, s, _⟩ := h
  have := (vs_cells s).2.1.1
  unfold Go.Proofs.Ytlhiadehohikdaa.qlen
  rw [this]
def rank (v : Value) (W : World) (V : Nat) : Nat := match v with | .func (.func k) _ _ => if k = 36 then 100 else if k = 52 then 3 + qlen W V else 1 | _ => 0

/-- Where the loop stands. -/
inductive Stand (H V : Nat) (f : Nat → Pk) (n : Nat) (lim now : Int) (R : Res) (W : World) : Value → Prop where
  | look (c : Cd) (st : Int) (h : Vst H V W c n f lim now st false false 0 f) (hst : st = if c.dr then 1 else 0) (hl : lookB c f n lim now = true) (hR : popR f n now c = R) : Stand H V f n lim now R W (meth 36 V)
  | begin (c : Cd) (h : Vst H V W c n f lim now 0 true false 0 f) (hn : 0 < n) (hl : lookB c f n lim now = true) (hR : begR f n now c = R) : Stand H V f n lim now R W (meth 50 V)
  | stop (c : Cd) (m : Nat) (h : Vst H V W c (n - m) (shiftF f m) lim now 1 false false m f) (hR : Res.mk (dropR.noDr c) m false = R) : Stand H V f n lim now R W (meth 51 V)
  | again (c : Cd) (m : Nat) (h : Vst H V W c (n - m) (shiftF f m) lim now 1 true false m f) (hm : m < n) (hl : lookB c (shiftF f m) (n - m) lim now = true) (hx : c.nx ≤ now) (hR : dropR f n now (n - m) c m = R) : Stand H V f n lim now R W (meth 52 V)
  | done (st : Int) (lt : Bool) (h : Vst H V W R.c (n - R.m) (outF f R) lim now st lt R.mk' R.m f) : Stand H V f n lim now R W .nilFunc

theorem rank_turn (V : Nat) (st : Int) (lt mq : Bool) (now nx : Int) (W : World) : rank (turnW V st lt mq now nx) W V ≤ 3 + qlen W V := by
  unfold turnW
  repeat' split
  all_goals (simp [rank]; try omega)
theorem rank_look (W : World) (V : Nat) : rank (meth 36 V) W V = 100 := by simp [rank]
theorem rank_begin (W : World) (V : Nat) : rank (meth 50 V) W V = 1 := by simp [rank]
theorem rank_stop (W : World) (V : Nat) : rank (meth 51 V) W V = 1 := by simp [rank]
theorem rank_again (W : World) (V : Nat) : rank (meth 52 V) W V = 3 + qlen W V := by simp [rank]
theorem rank_nil (W : World) (V : Nat) : rank .nilFunc W V = 0 := rfl
theorem turnW_2 (V : Nat) (lt mq : Bool) (now nx : Int) : turnW V 2 lt mq now nx = .nilFunc := rfl

theorem stand_drop {H V : Nat} {W : World} {c : Cd} {n : Nat} {f : Nat → Pk} {lim now : Int} {m : Nat} {R : Res} (h : Vst H V W c (n - m) (shiftF f m) lim now 1 true false m f) (hm : m < n) (hl : lookB c (shiftF f m) (n - m) lim now = true) (hR : dropR f n now (n - m) c m = R) : Stand H V f n lim now R W (turnW V 1 true false now c.nx) := by
  by_cases e : now < c.nx
  · have e1 : turnW V 1 true false now c.nx = .nilFunc := by unfold turnW; simp [e]
    rw [e1]
    obtain ⟨k, hk⟩ : ∃ k, n - m = k + 1 := ⟨n - m - 1, by omega⟩
    rw [hk, dropR, if_pos e] at hR
    subst hR
    exact Stand.done 1 true h
  · have e1 : turnW V 1 true false now c.nx = meth 52 V := by unfold turnW; simp [e]
    rw [e1]
    exact Stand.again c m h hm hl (by omega) hR

theorem stand_look {H V : Nat} {W : World} {c : Cd} {n : Nat} {f : Nat → Pk} {lim now st : Int} {R : Res} (h : Vst H V W (lateC c f n now) n f lim now st (lateB c f n now) false 0 f) (hst : st = if c.dr then 1 else 0) (hl : lookB c f n lim now = true) (hR : popR f n now c = R) : Stand H V f n lim now R W (turnW V st (lateB c f n now) false now (lateC c f n now).nx) := by
  obtain ⟨hg, hf, hi, _⟩ := look_parts hl
  obtain ⟨n0, n1⟩ : 0 ≤ now ∧ now ≤ 1000000000000 := by simpa [inB] using hi
  have hg' := lateC_good (f := f) (n := n) hg n0 n1
  have hdr := (lateC_nx c f n now).2.2.2.2.1
  unfold popR at hR
  cases hb : lateB c f n now
  · rw [hb] at h
    rw [if_pos hb] at hR
    cases hd : c.dr
    · rw [hd] at hst
      obtain rfl : st = 0 := by simpa using hst
      subst hR
      have e2 : dropR.noDr (lateC c f n now) = lateC c f n now := by
        rw [hd] at hdr
        unfold dropR.noDr
        rw [← hdr]
      refine Stand.done 0 false ?_
      unfold outF
      dsimp only
      rw [e2, shiftF_0]
      exact h
    · rw [hd] at hst
      obtain rfl : st = 1 := by simpa using hst
      exact Stand.stop (lateC c f n now) 0 (by rw [shiftF_0]; exact h) hR
  · rw [hb] at h
    rw [if_neg (by rw [hb]; decide)] at hR
    have hp := late_pos hb
    cases hd : c.dr
    · rw [hd] at hst hR
      obtain rfl : st = 0 := by simpa using hst
      exact Stand.begin _ h hp (look_cong hl hg') (by simpa using hR)
    · rw [hd] at hst hR
      obtain rfl : st = 1 := by simpa using hst
      exact stand_drop (m := 0) (by rw [shiftF_0]; exact h) hp (by rw [shiftF_0]; exact look_cong hl hg') (by simpa using hR)

theorem stand_again {H V : Nat} {W : World} {c : Cd} {n : Nat} {f : Nat → Pk} {lim now : Int} {m : Nat} {R : Res} {c2 : Cd} {l2 : Bool} (hm : m < n) (hl : lookB c (shiftF f m) (n - m) lim now = true) (hx : c.nx ≤ now) (hR : dropR f n now (n - m) c m = R) (he : (f m).ecn = 0) (h2 : lateC ⟨c.tg, c.iv, c.fi, c.nx, upF c.ct, c.la, c.dr⟩ (shiftF f (m + 1)) (n - (m + 1)) now = c2) (h3 : lateB ⟨c.tg, c.iv, c.fi, c.nx, upF c.ct, c.la, c.dr⟩ (shiftF f (m + 1)) (n - (m + 1)) now = l2)
    (h : Vst H V W (if l2 then ⟨c2.tg, c2.iv, c2.fi, nextF c2.nx c2.iv c2.ct, c2.ct, c2.la, c2.dr⟩ else c2) (n - (m + 1)) (shiftF f (m + 1)) lim now 1 l2 false (m + 1) f) : Stand H V f n lim now R W (turnW V 1 l2 false now (if l2 then (⟨c2.tg, c2.iv, c2.fi, nextF c2.nx c2.iv c2.ct, c2.ct, c2.la, c2.dr⟩ : Cd) else c2).nx) := by
  obtain ⟨hg, hf, hi, _⟩ := look_parts hl
  obtain ⟨n0, n1⟩ : 0 ≤ now ∧ now ≤ 1000000000000 := by simpa [inB] using hi
  have hg2 : c2.good = true := by rw [← h2]; exact lateC_good (upC_good hg) n0 n1
  have e := lateC_nx ⟨c.tg, c.iv, c.fi, c.nx, upF c.ct, c.la, c.dr⟩ (shiftF f (m + 1)) (n - (m + 1)) now
  rw [h2] at e
  have gg := c.good_iff.1 hg
  obtain ⟨k, hk⟩ : ∃ k, n - m = k + 1 := ⟨n - m - 1, by omega⟩
  have hk2 : n - (m + 1) = k := by omega
  rw [hk, dropR, if_neg (by omega), if_neg (by simpa using he), h2, h3] at hR
  cases l2
  · exact Stand.stop c2 (m + 1) h (by simpa using hR)
  · have hp := late_pos h3
    refine stand_drop h (by omega) ?_ (by rw [hk2]; simpa using hR)
    have hlp := look_pop hl (by omega) ⟨c2.tg, c2.iv, c2.fi, nextF c2.nx c2.iv c2.ct, c2.ct, c2.la, c2.dr⟩ (next_good hg2 (by rw [e.1]; exact gg.2.2.2.2.2.1) (by rw [e.1]; exact Int.le_trans hx n1))
    rw [popF_shift, Nat.sub_sub] at hlp
    exact hlp

set_option maxRecDepth 100000 in
set_option maxHeartbeats 4000000 in
theorem run_vst {H V : Nat} {w : World} {c : Cd} {n : Nat} {f : Nat → Pk} {lim now : Int} (h : Vst H V w c n f lim now (if c.dr then 1 else 0) false false 0 f) (hl : lookB c f n lim now = true) (R : Res) (hR : popR f n now c = R) :
    Calls Try.prog 25 #[.pointer (some ⟨V, 0, none⟩)] w fun e w' => e = .returned (.tuple #[]) ∧ (∃ st lt, Vst H V w' R.c (n - R.m) (outF f R) lim now st lt R.mk' R.m f) ∧ Below H w w' := by
  have hn40 : n ≤ 40 := by have := fifo_nums (look_parts hl).2.1; omega
  have S0 : Hid (Stand H V f n lim now R w (meth 36 V)) := Stand.look c _ h rfl hl hR
  clear h hl hR
  go_enter Try.func25, Try.ntmps25
  go_wp2
  go_loopw [2] (fun v W => Stand H V f n lim now R W v ∧ Below H w W) (fun v W => rank v W V)
  case atStart => exact ⟨S0.out, Below.refl _ _⟩
  case round =>
    obtain ⟨hst, hB⟩ := hrel
    clear S0
    cases hst with
    | look c st h hst hl hR =>
      have HST : Hid (st = if c.dr then 1 else 0) := hst
      have hst3 : st = 0 ∨ st = 1 ∨ st = 2 := by split at hst <;> omega
      clear hst
      go_wp2_with fail
      rename_i hK
      refine hK _ _ ?_
      simp only [Act.put, List.setIfInBounds_toArray, List.set_cons_zero, List.set_cons_succ, Bool.not_false]
      go_wp2_with (first | (go_at_call 36; refine (look_vst h hl).mono ?_; rintro e w1 ⟨rfl, v1, b1⟩) | (go_at_call 37; refine (turned_vst v1 hst3).mono ?_; rintro e w2 ⟨rfl, v2, b2⟩))
      go_roundw
      case rel => exact ⟨stand_look v2 HST.out hl hR, hB.trans (b1.trans b2)⟩
      case measure => have h1 := rank_turn V st (lateB c f n now) false now (lateC c f n now).nx w2; have h2 := v2.qlen; have h3 := rank_look wr V; omega
    | begin c h hn hl hR =>
      go_wp2_with fail
      rename_i hK
      refine hK _ _ ?_
      simp only [Act.put, List.setIfInBounds_toArray, List.set_cons_zero, List.set_cons_succ, Bool.not_false]
      go_wp2_with (first | (go_at_call 50; refine (begin_vst h hn hl R hR).mono ?_; rintro e w1 ⟨rfl, ⟨lt, v1⟩, b1⟩) | (go_at_call 37; refine (turned_vst v1 (by omega)).mono ?_; rintro e w2 ⟨rfl, v2, b2⟩))
      go_roundw
      case rel => exact ⟨Stand.done 2 lt v2, hB.trans (b1.trans b2)⟩
      case measure => rw [turnW_2, rank_nil, rank_begin]; omega
    | stop c m h hR =>
      go_wp2_with fail
      rename_i hK
      refine hK _ _ ?_
      simp only [Act.put, List.setIfInBounds_toArray, List.set_cons_zero, List.set_cons_succ, Bool.not_false]
      go_wp2_with (first | (go_at_call 51; refine (stop_vst h).mono ?_; rintro e w1 ⟨rfl, v1, b1⟩) | (go_at_call 37; refine (turned_vst v1 (by omega)).mono ?_; rintro e w2 ⟨rfl, v2, b2⟩))
      go_roundw
      case rel => subst hR; exact ⟨Stand.done 2 false v2, hB.trans (b1.trans b2)⟩
      case measure => rw [turnW_2, rank_nil, rank_stop]; omega
    | again c m h hm hl hx hR =>
      by_cases he : (f m).ecn = 0
      · obtain ⟨c2, h2⟩ : ∃ c2, lateC ⟨c.tg, c.iv, c.fi, c.nx, upF c.ct, c.la, c.dr⟩ (shiftF f (m + 1)) (n - (m + 1)) now = c2 := ⟨_, rfl⟩
        obtain ⟨l2, h3⟩ : ∃ l2, lateB ⟨c.tg, c.iv, c.fi, c.nx, upF c.ct, c.la, c.dr⟩ (shiftF f (m + 1)) (n - (m + 1)) now = l2 := ⟨_, rfl⟩
        have hq := h.qlen
        go_wp2_with fail
        rename_i hK
        refine hK _ _ ?_
        simp only [Act.put, List.setIfInBounds_toArray, List.set_cons_zero, List.set_cons_succ, Bool.not_false]
        have T2 : Hid _ := h2
        have T3 : Hid _ := h3
        clear h2 h3
        go_wp2_with (first | (go_at_call 52; refine (again_drop h hm hl hx he hn40 c2 l2 T2.out T3.out).mono ?_; rintro e w1 ⟨rfl, v1, b1⟩) | (go_at_call 37; refine (turned_vst v1 (by omega)).mono ?_; rintro e w2 ⟨rfl, v2, b2⟩))
        go_roundw
        case rel => exact ⟨stand_again hm hl hx hR he T2.out T3.out v2, hB.trans (b1.trans b2)⟩
        case measure => have h1 := rank_turn V 1 l2 false now (if l2 then (⟨c2.tg, c2.iv, c2.fi, nextF c2.nx c2.iv c2.ct, c2.ct, c2.la, c2.dr⟩ : Cd) else c2).nx w2; have h2 := v2.qlen; have h3 := rank_again wr V; omega
      · have hq := h.qlen
        go_wp2_with fail
        rename_i hK
        refine hK _ _ ?_
        simp only [Act.put, List.setIfInBounds_toArray, List.set_cons_zero, List.set_cons_succ, Bool.not_false]
        go_wp2_with (first | (go_at_call 52; refine (again_mark h hm hl hx he).mono ?_; rintro e w1 ⟨rfl, v1, b1⟩) | (go_at_call 37; refine (turned_vst v1 (by omega)).mono ?_; rintro e w2 ⟨rfl, v2, b2⟩))
        go_roundw
        case rel =>
          obtain ⟨k, hk⟩ : ∃ k, n - m = k + 1 := ⟨n - m - 1, by omega⟩
          rw [hk, dropR, if_neg (by omega), if_pos he] at hR
          subst hR
          exact ⟨Stand.done 1 true v2, hB.trans (b1.trans b2)⟩
        case measure => have h1 : turnW V 1 true true now (nextF c.nx c.iv (upF c.ct)) = .nilFunc := (by unfold turnW; simp); have h3 := rank_again wr V; have h4 := rank_nil w2 V; rw [h1, h4, h3]; omega
    | done st lt h =>
      go_wp2_with fail
      rename_i hK
      refine hK _ _ ?_
      simp only [Act.put, List.setIfInBounds_toArray, List.set_cons_zero, List.set_cons_succ, Bool.not_true]
      go_wp2
      go_end0
      exact ⟨rfl, ⟨st, lt, h⟩, hB⟩

end Go.Proofs.Ytlhiadehohikdaa
