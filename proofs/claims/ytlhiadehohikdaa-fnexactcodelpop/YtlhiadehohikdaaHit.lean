/-
  A VISIT AND ITS LISTS; look and hit.
-/
import Derived.Test.YtlhiadehohikdaaVisitL
import Derived.Test.YtlhiadehohikdaaPkMark
import Derived.OneCell
namespace Go.Proofs.Ytlhiadehohikdaa
open Go.RowKit
set_option linter.unusedVariables false

/-- The queue of a visit: its list lies in a block of its own. -/
def QA (H : Nat) (W : World) (V : Nat) (a : Option Addr) (n cap : Nat) (f : Nat → Pk) (d : Value) : Prop := n ≤ cap ∧ (n = 0 ∨ ∃ g : Nat, a = some ⟨g, 0, none⟩ ∧ g ≠ V ∧ H ≤ g ∧ d.ownBlock ≠ some g ∧ Own .i64 W g (n * 6) (flat f))
theorem QA.zi {H : Nat} {W : World} {V : Nat} {a : Option Addr} {n cap : Nat} {f : Nat → Pk} {d : Value} (h : QA H W V a n cap f d) : ZI H W.heap.size W a (n * 6) (flat f) := by
  rcases h.2 with h0 | ⟨g, h1, h2, h3, h4, h5⟩
  · exact .inl (by omega)
  · exact .inr ⟨g, h1, h3, h5.1, h5⟩
theorem QA.pr {H : Nat} {W : World} {V : Nat} {a : Option Addr} {n cap : Nat} {f : Nat → Pk} {d : Value} (h : QA H W V a n cap f d) : PR W.heap.size W a n f := h.zi.pr
theorem QA.only {H : Nat} {W W' : World} {V : Nat} {a : Option Addr} {n cap : Nat} {f : Nat → Pk} {d : Value} (h : QA H W V a n cap f d) (ho : Only V W W') : QA H W' V a n cap f d := by
  obtain ⟨h0, h1 | ⟨g, h1, h2, h3, h4, h5⟩⟩ := h
  · exact ⟨h0, .inl h1⟩
  · exact ⟨h0, .inr ⟨g, h1, h2, h3, h4, own_same h5 (ho.block g h5.1 h2) ho.size⟩⟩
theorem PO.keep {base : Nat} {w w' : World} {x : Option Addr} {m cap : Nat} {f : Nat → Pk} (h : PO base w x m cap f) (hk : ∀ k, base ≤ k → k < w.heap.size → w'.heap[k]? = w.heap[k]?) : PO base w' x m cap f := by
  obtain ⟨hl, ⟨hv, h0⟩ | ⟨g, cp, cur, hv, hbs, hh, h1, h2, h3, h4⟩⟩ := h
  · exact ⟨hl, .inl ⟨hv, h0⟩⟩
  · exact ⟨hl, .inr ⟨g, cp, cur, hv, hbs, (hk g hbs (Array.getElem?_eq_some_iff.1 hh).1).trans hh, h1, h2, h3, h4⟩⟩

/-- A visit in the midst: what it holds, and its lists. -/
def Vst (H V : Nat) (W : World) (c : Cd) (n : Nat) (f : Nat → Pk) (lim now st : Int) (lt mq : Bool) (m : Nat) (g : Nat → Pk) : Prop :=
  ∃ (a : Option Addr) (cap : Nat) (x : Option Addr) (cp : Nat), Sits W V (vsCells ⟨c, a, n, cap, lim, now, st, lt, mq, x, m, cp⟩) 59 ∧ QA H W V a n cap f (.slice x m cp) ∧ PO (V + 1) W x m cp g ∧ H ≤ V
theorem Vst.lt {H V : Nat} {W : World} {c : Cd} {n : Nat} {f : Nat → Pk} {lim now st : Int} {lt mq : Bool} {m : Nat} {g : Nat → Pk} (h : Vst H V W c n f lim now st lt mq m g) : V < W.heap.size := by obtain ⟨_, _, _, _, h, _⟩ := h; exact h.lt
theorem Vst.le {H V : Nat} {W : World} {c : Cd} {n : Nat} {f : Nat → Pk} {lim now st : Int} {lt mq : Bool} {m : Nat} {g : Nat → Pk} (h : Vst H V W c n f lim now st lt mq m g) : H ≤ V := by obtain ⟨_, _, _, _, _, _, _, h⟩ := h; exact h
theorem Vst.kept {H V : Nat} {W W' : World} {c : Cd} {n : Nat} {f : Nat → Pk} {lim now st : Int} {lt mq : Bool} {m : Nat} {g : Nat → Pk} (h : Vst H V W c n f lim now st lt mq m g) (hb : Below W.heap.size W W') : Vst H V W' c n f lim now st lt mq m g := by
  obtain ⟨a, cap, x, cp, h1, h2, h3, h4⟩ := h
  exact ⟨a, cap, x, cp, h1.below hb h1.lt, h2.only (only_of_below hb), h3.below hb, h4⟩

theorem look_vst {H V : Nat} {w : World} {c : Cd} {n : Nat} {f : Nat → Pk} {lim now st : Int} {lt mq : Bool} {m : Nat} {g : Nat → Pk} (h : Vst H V w c n f lim now st lt mq m g) (hl : lookB c f n lim now = true) :
    Calls Try.prog 36 #[.pointer (some ⟨V, 0, none⟩)] w fun e w' => e = .returned (.tuple #[]) ∧ Vst H V w' (lateC c f n now) n f lim now st (lateB c f n now) mq m g ∧ Below H w w' := by
  obtain ⟨a, cap, x, cp, h1, h2, h3, h4⟩ := h
  have hn : n ≤ 40 := by have := (fifo_nums (look_parts hl).2.1); omega
  refine (look_visit ⟨c, a, n, cap, lim, now, st, lt, mq, x, m, cp⟩ f V w h1 (by show n ≤ _; omega) h2.1 h2.pr hl).mono ?_
  rintro e w' ⟨rfl, s1, ho⟩
  exact ⟨rfl, ⟨a, cap, x, cp, s1, h2.only ho, h3.keep fun k hk hk2 => ho.block k hk2 (by omega), h4⟩, ho.below h4 (by have := h1.lt; omega)⟩

/-- The list, its first one marked. -/
def markF (f : Nat → Pk) : Nat → Pk := fun i => if i = 0 then ⟨(f 0).id, (f 0).flow, (f 0).host, (f 0).size, (f 0).tm, 3⟩ else f i
theorem flat_mark (f : Nat → Pk) (o : Nat) : flat (markF f) o = if o = 5 then 3 else flat f o := by
  unfold flat markF
  by_cases h : o / 6 = 0
  · rw [if_pos h, h]
    have hc : o = 0 ∨ o = 1 ∨ o = 2 ∨ o = 3 ∨ o = 4 ∨ o = 5 := by omega
    rcases hc with rfl | rfl | rfl | rfl | rfl | rfl <;> rfl
  · rw [if_neg h, if_neg (by omega)]
theorem own_mark {w : World} {B n : Nat} {f : Nat → Pk} (h : Own .i64 w B (n * 6) (flat f)) (hn : 0 < n) : Own .i64 (w.setCell ⟨B, 5, none⟩ (.int .i64 3)) B (n * 6) (flat (markF f)) := by
  refine ⟨by simpa using h.1, fun i hi => ?_⟩
  obtain ⟨h1, h2⟩ := h.2 i hi
  obtain ⟨h3, h4⟩ := h.2 5 (by omega)
  rw [flat_mark]
  by_cases e : i = 5
  · subst e
    rw [if_pos rfl]
    exact ⟨by simp [go_sem, h3], by simp [go_sem, h4]⟩
  · rw [if_neg e]
    exact ⟨by first | (simp [go_sem, h1]; done) | (simp [go_sem, h1, e]; done), by simp [go_sem, h2]⟩

set_option maxHeartbeats 1000000 in
theorem hit_mark {H V : Nat} {w : World} {c : Cd} {n : Nat} {f : Nat → Pk} {lim now st : Int} {lt mq : Bool} {m : Nat} {g : Nat → Pk} (h : Vst H V w c n f lim now st lt mq m g) (hn : 0 < n) (he : (f 0).ecn ≠ 0) :
    Calls Try.prog 55 #[.pointer (some ⟨V, 0, none⟩)] w fun e w' => e = .returned (.tuple #[]) ∧ Vst H V w' c n (markF f) lim now st lt true m g ∧ Below H w w' := by
  obtain ⟨a, cap, x, cp, h1, ⟨h20, h2 | ⟨b, rfl, h22, h23, h24, h25⟩⟩, h3, h4⟩ := h
  · omega
  obtain ⟨⟨c0, c1, c2, c3, c4, c5, c6⟩, ⟨x0, x1⟩, c9, c10, c11, c12, c13⟩ := vs_cells h1
  have fz := h1.frozen
  have H1 : Hid _ := h1
  have H3 : Hid _ := h3
  clear h1 h3
  dsimp only at *
  obtain ⟨p5, pf⟩ := h25.2 5 (by omega)
  have p5' : w.cell? ⟨b, 5, none⟩ = some (.int .i64 (f 0).ecn) := p5
  clear p5
  have he' : ((f 0).ecn == 0) = false := by simpa using he
  have hni : (0 : Int) < (n : Int) := by omega
  have hbl := h25.1
  have H5 : Hid _ := h25
  clear h25
  go_enter Try.func55, Try.ntmps55
  go_wp2
  refine bodyPost_ret (v := .tuple #[]) (by simp [results, Try.results55, go_sem]) rfl ⟨rfl, ⟨_, cap, x, cp, vs_mq (Sits.other H1.out (Ne.symm h22) _) true, ⟨h20, .inr ⟨b, rfl, h22, h23, h24, ?_⟩⟩, ?_, h4⟩, ?_⟩
  · exact own_same (own_mark H5.out hn) (Below.heap_setCell _ ⟨V, 12, none⟩ _ b h22) (by simp)
  · exact ownsRow_setCell_below (ownsRow_setCell_other H3.out h24 _) (by show V < V + 1; omega) _
  · exact ((Below.refl H w).setCell h23 _).setCell h4 _

end Go.Proofs.Ytlhiadehohikdaa
