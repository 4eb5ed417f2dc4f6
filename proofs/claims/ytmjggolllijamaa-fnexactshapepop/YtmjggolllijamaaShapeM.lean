/-
  MARKS OF A SHAPE WHOSE LISTS ARE NOT EMPTY: markShape, heldShape.
-/
import Derived.Test.YtmjggolllijamaaLnMarkQ
import Derived.Test.YtmjggolllijamaaLnHeld
import Derived.Test.YtmjggolllijamaaShape0
namespace Go.Proofs.Ytmjggolllijamaa
open Go.RowKit
set_option linter.unusedVariables false

theorem LW.keep {base : Nat} {w w' : World} {B N : Nat} {A : Nat → Option Addr} {C : Nat → Nat} {L : Nat → Ln} (h : LW base w B N A C L) (hB : w'.heap[B]? = w.heap[B]?) (hk : ∀ i, i < N → (L i).n ≠ 0 → ∀ g : Nat, A i = some ⟨g, 0, none⟩ → w'.heap[g]? = w.heap[g]?) (hs : w.heap.size ≤ w'.heap.size) : LW base w' B N A C L := by
  obtain ⟨h0, ⟨vs, t, hS, h1, h2⟩, h3, h4, h5⟩ := h
  refine ⟨h0, ⟨vs, t, hB.trans hS, h1, h2⟩, h3, fun i hi => ?_, h5⟩
  by_cases hz : (L i).n = 0
  · exact .inl hz
  · rcases h4 i hi with e | ⟨g, ha, hg, hne, ho⟩
    · exact .inl e
    · exact .inr ⟨g, ha, hg, hne, own_same ho (hk i hi hz g ha) hs⟩
theorem LW.lt {base : Nat} {w : World} {B N : Nat} {A : Nat → Option Addr} {C : Nat → Nat} {L : Nat → Ln} (h : LW base w B N A C L) : B < w.heap.size := by
  obtain ⟨vs, t, hs, _⟩ := h.sits
  exact hs.lt
theorem LW.lt2 {base : Nat} {w : World} {B N : Nat} {A : Nat → Option Addr} {C : Nat → Nat} {L : Nat → Ln} (h : LW base w B N A C L) {i : Nat} (hi : i < N) (hz : (L i).n ≠ 0) {g : Nat} (ha : A i = some ⟨g, 0, none⟩) : g < w.heap.size ∧ base ≤ g := by
  rcases h.own i hi with e | ⟨g', ha', hg, _, ho⟩
  · exact absurd e hz
  · rw [ha] at ha'; cases ha'; exact ⟨ho.1, hg⟩
theorem LW.under {base : Nat} {w : World} {B N : Nat} {A : Nat → Option Addr} {C : Nat → Nat} {L : Nat → Ln} (h : LW base w B N A C L) : Under w.heap.size B N A L := by
  refine ⟨h.lt, fun i hi hn p hp => ?_⟩
  rcases h.own i hi with e | ⟨g, ha, _, _, ho⟩
  · exact absurd e hn
  · rw [ha] at hp; cases hp; exact ho.1
theorem LW.below {base : Nat} {w w' : World} {B N : Nat} {A : Nat → Option Addr} {C : Nat → Nat} {L : Nat → Ln} (h : LW base w B N A C L) (hb : Below w.heap.size w w') : LW base w' B N A C L :=
  h.keep (hb.block B h.lt) (fun i hi hz g ha => hb.block g (h.lt2 hi hz ha).1) hb.size
theorem LO.lw {base : Nat} {w : World} {B N : Nat} {A : Nat → Option Addr} {C : Nat → Nat} {L : Nat → Ln} (h : LO base w B N A C L) : LW base w B N A C L := by
  obtain ⟨h0, ⟨vs, t, hS, h1, h2⟩, h3, h4, h5⟩ := h
  exact ⟨h0, ⟨vs, t, hS, by omega, h2⟩, h3, h4, h5⟩

/-- A Shape's lists, all one's own, all apart. -/
def MK (base : Nat) (w : World) (B N : Nat) (A : Nat → Option Addr) (C : Nat → Nat) (L : Nat → Ln) (y : Option Addr) (n : Nat) (tn : Nat → Int) : Prop :=
  LW base w B N A C L ∧ (n = 0 ∨ ∃ Y : Nat, y = some ⟨Y, 0, none⟩ ∧ base ≤ Y ∧ Y ≠ B ∧ (∀ i, i < N → (L i).n ≠ 0 → A i ≠ some ⟨Y, 0, none⟩) ∧ Own .i64 w Y n tn)
theorem MK.of_lq {base : Nat} {w : World} {B N : Nat} {A : Nat → Option Addr} {C : Nat → Nat} {L : Nat → Ln} {y : Option Addr} {n cy : Nat} {tn : Nat → Int} (h : LQ base w B N A C L) (ht : TQ base w y n cy tn B N A) : MK base w B N A C L y n tn := by
  refine ⟨h.lw, ?_⟩
  rcases ht.1.zi with e | ⟨Y, ha, h1, _, ho⟩
  · exact .inl e
  · exact .inr ⟨Y, ha, h1, fun e => ht.2.1 _ ha e, fun i hi _ e => ht.2.2 i hi _ _ e ha rfl, ho⟩
theorem MK.of_so {base : Nat} {w : World} {B N : Nat} {A : Nat → Option Addr} {C : Nat → Nat} {L : Nat → Ln} {y : Option Addr} {n : Nat} {tn : Nat → Int} (h : SO base w B A C N L y n tn) : MK base w B N A C L y n tn := by
  obtain ⟨h0, m1, h1, h2, h3⟩ := h
  refine ⟨h0.lw, ?_⟩
  rcases h3 with e | ⟨Y, ha, h5, _, ho⟩
  · exact .inl e
  · exact .inr ⟨Y, ha, by omega, by have := h2.1; omega, fun i hi hz e => by have := h2.2 i hi hz _ e; simp at this; omega, ho⟩
theorem MK.row {base : Nat} {w : World} {B N : Nat} {A : Nat → Option Addr} {C : Nat → Nat} {L : Nat → Ln} {y : Option Addr} {n : Nat} {tn : Nat → Int} (h : MK base w B N A C L y n tn) : Row .i64 w y n tn := by
  rcases h.2 with e | ⟨Y, ha, h1, _, _, ho⟩
  · exact .inl e
  · exact ZI.row (L := Y) (U := Y + 1) (.inr ⟨Y, ha, Nat.le_refl _, Nat.lt_succ_self _, ho⟩)
theorem MK.below {base : Nat} {w w' : World} {B N : Nat} {A : Nat → Option Addr} {C : Nat → Nat} {L : Nat → Ln} {y : Option Addr} {n : Nat} {tn : Nat → Int} (h : MK base w B N A C L y n tn) (hb : Below w.heap.size w w') : MK base w' B N A C L y n tn := by
  refine ⟨h.1.below hb, ?_⟩
  rcases h.2 with e | ⟨Y, ha, h1, h2, h3, ho⟩
  · exact .inl e
  · exact .inr ⟨Y, ha, h1, h2, h3, own_same ho (hb.block Y ho.1) hb.size⟩

set_option maxHeartbeats 1000000 in
/-- markShape, whatever its lists. -/
theorem markShape_mk (base : Nat) (s : Sh) (B N ca : Nat) (y : Option Addr) (n cy : Nat) (A : Nat → Option Addr) (C : Nat → Nat) (L : Nat → Ln) (tn : Nat → Int) (k0 : Int) (w : World) (hmk : MK base w B N A C L y n tn) (hN : N ≤ 1048576) (hcn : cntF L N ≤ 1048576) (hn : n ≤ 1048576) (h0 : 0 ≤ k0) (h1 : k0 ≤ 1000000000) :
    Calls Try.prog 12 #[shVal s (some ⟨B, 0, none⟩) N ca y n cy, .int .i64 k0] w fun e w' => e = .returned (.int .i64 (upAt L k0 N + n)) ∧ MK base w' B N A C (upL L k0) y n (fun i => upAt L k0 N + i) ∧ Chg base w.heap.size w w' := by
  obtain ⟨hlw, hy⟩ := hmk
  have HLW : Hid (LW base w B N A C L) := hlw
  have HUN : Hid (Under w.heap.size B N A L) := hlw.under
  have HY : Hid (n = 0 ∨ ∃ Y : Nat, y = some ⟨Y, 0, none⟩ ∧ base ≤ Y ∧ Y ≠ B ∧ (∀ i, i < N → (L i).n ≠ 0 → A i ≠ some ⟨Y, 0, none⟩) ∧ Own .i64 w Y n tn) := hy
  have HC : Hid (cntF L N ≤ 1048576) := hcn
  have HN : Hid (N ≤ 1048576) := hN
  have HNN : Hid (n ≤ 1048576) := hn
  obtain ⟨Q, hQ⟩ : ∃ q, upAt L k0 N = q := ⟨_, rfl⟩
  have hb : 0 ≤ Q ∧ Q ≤ 1099511627776 := by rw [← hQ]; unfold upAt; omega
  obtain ⟨q0, q1⟩ := hb
  rw [hQ]
  have HQ : Hid (upAt L k0 N = Q) := hQ
  clear hlw hy hcn hN hn hQ
  obtain ⟨W0, hW0⟩ : ∃ W, w.alloc (.cells (shCells s (some ⟨B, 0, none⟩) N ca y n cy) 29) = W := ⟨_, rfl⟩
  have s0 : Sits W0 w.heap.size (shCells s (some ⟨B, 0, none⟩) N ca y n cy) 29 := by rw [← hW0]; exact Sits.new _ _ _
  have b0 : Below w.heap.size w W0 := by rw [← hW0]; exact (Below.refl _ w).alloc (Nat.le_refl _) _
  have HW0 : Hid (w.alloc (.cells (shCells s (some ⟨B, 0, none⟩) N ca y n cy) 29) = W0) := hW0
  have HB0 : Hid (Below w.heap.size w W0) := b0
  have HS0 : Hid (Sits W0 w.heap.size (shCells s (some ⟨B, 0, none⟩) N ca y n cy) 29) := s0
  have x2 := s0.cell 5
  clear s0 b0 hW0
  go_enter Try.func12, Try.ntmps12
  go_upto_region 1 with fail
  rw [HW0.out]
  clear HW0
  go_upto_region 2 with (go_at_call 38; refine (markLineS_lw base w.heap.size B N ca A C L k0 _ (LW.below HLW.out HB0.out) HUN.out HN.out HC.out h0 h1).mono ?_; rintro e w1 ⟨rfl, lo1, c1, k1⟩; rw [HQ.out]; have HLW1 : Hid (LW base w1 B N A C (upL L k0)) := lo1; have HC1 : Hid (Chg base w.heap.size W0 w1) := c1; have HK1 : Hid (∀ k, k < W0.heap.size → k ≠ B → (∀ i, i < N → (L i).n ≠ 0 → A i ≠ some ⟨k, 0, none⟩) → w1.heap[k]? = W0.heap[k]?) := k1; have s1 := Sits.chg HS0.out c1 (.inr (Nat.le_refl _)); have x3 := s1.cell 6; have HS1 : Hid (Sits w1 w.heap.size (shCells s (some ⟨B, 0, none⟩) N ca y n cy) 29) := s1; clear lo1 c1 s1 k1)
  have HY1 : Hid (n = 0 ∨ ∃ Y : Nat, y = some ⟨Y, 0, none⟩ ∧ base ≤ Y ∧ Y ≠ B ∧ (∀ i, i < N → (L i).n ≠ 0 → A i ≠ some ⟨Y, 0, none⟩) ∧ Y < w.heap.size ∧ Own .i64 w1 Y n tn) := by
    rcases HY.out with e | ⟨Y, ha, hg, hne, hA, ho⟩
    · exact .inl e
    · refine .inr ⟨Y, ha, hg, hne, hA, ho.1, ?_⟩
      exact own_same (own_same ho ((HB0.out).block Y ho.1) (HB0.out).size) (HK1.out Y (Nat.lt_of_lt_of_le ho.1 (HB0.out).size) hne hA) (HC1.out).size
  obtain ⟨zl, zu, hzi, hzb⟩ : ∃ zl zu : Nat, ZI zl zu w1 y n tn ∧ ((n = 0 ∧ zl = base ∧ zu = base) ∨ (∃ Y, y = some ⟨Y, 0, none⟩ ∧ zl = Y ∧ zu = Y + 1 ∧ base ≤ Y ∧ Y < w.heap.size ∧ Y ≠ B ∧ ∀ i, i < N → (L i).n ≠ 0 → A i ≠ some ⟨Y, 0, none⟩)) := by
    rcases HY1.out with e | ⟨Y, ha, hg, hne, hA, hlt, ho⟩
    · exact ⟨base, base, .inl e, .inl ⟨e, rfl, rfl⟩⟩
    · exact ⟨Y, Y + 1, .inr ⟨Y, ha, Nat.le_refl _, Nat.lt_succ_self _, ho⟩, .inr ⟨Y, ha, rfl, rfl, hg, hlt, hne, hA⟩⟩
  have HZI : Hid (ZI zl zu w1 y n tn) := hzi
  have HZB : Hid ((n = 0 ∧ zl = base ∧ zu = base) ∨ (∃ Y, y = some ⟨Y, 0, none⟩ ∧ zl = Y ∧ zu = Y + 1 ∧ base ≤ Y ∧ Y < w.heap.size ∧ Y ≠ B ∧ ∀ i, i < N → (L i).n ≠ 0 → A i ≠ some ⟨Y, 0, none⟩)) := hzb
  clear hzi hzb
  go_wp2_with (go_at_call 39; refine (markIntS_zi zl zu y n cy tn Q _ HZI.out HNN.out q0 q1).mono ?_; rintro e w2 ⟨rfl, z2, c2⟩; have HZ2 : Hid (ZI zl zu w2 y n (fun i => Q + i)) := z2; have HC2 : Hid (Chg zl zu w1 w2) := c2; clear z2 c2)
  go_ret
  have hlB := (LW.lt HLW1.out)
  refine ⟨rfl, ⟨LW.keep HLW1.out ?_ (fun i hi hz g ha => ?_) (HC2.out).size, ?_⟩, ((Chg.of_below HB0.out).trans HC1.out).trans (Chg.wide HC2.out ?_ ?_)⟩
  · refine (HC2.out).block B hlB ?_
    rcases HZB.out with ⟨_, e1, e2⟩ | ⟨Y, _, e1, e2, _, _, hne, _⟩ <;> omega
  · refine (HC2.out).block g ((LW.lt2 HLW1.out hi hz ha).1) ?_
    rcases HZB.out with ⟨_, e1, e2⟩ | ⟨Y, _, e1, e2, _, _, hne, hA⟩
    · omega
    · have : g ≠ Y := fun e => hA i hi hz (by rw [ha, e])
      omega
  · rcases HZB.out with ⟨e, _, _⟩ | ⟨Y, ha, e1, e2, hg, hlt, hne, hA⟩
    · exact .inl e
    · rcases HZ2.out with e | ⟨Y', ha', _, _, ho⟩
      · exact .inl e
      · rw [ha] at ha'; cases ha'
        exact .inr ⟨Y, ha, hg, hne, hA, ho⟩
  · rcases HZB.out with ⟨_, e1, e2⟩ | ⟨Y, _, e1, e2, hg, hlt, _, _⟩ <;> omega
  · have hbB := (HLW.out).lo
    have hBu := (HLW.out).lt
    rcases HZB.out with ⟨_, e1, e2⟩ | ⟨Y, _, e1, e2, hg, hlt, _, _⟩ <;> omega

set_option maxHeartbeats 1000000 in
/-- heldShape, whatever its lists. -/
theorem heldShape_mk (s : Sh) (a : Option Addr) (N ca : Nat) (y : Option Addr) (n cy : Nat) (L : Nat → Ln) (k0 : Int) (w : World) (hP : LR w.heap.size w a N (upL L k0)) (hR : Row .i64 w y n (fun i => upAt L k0 N + i)) (hN : N ≤ 1048576) (hcn : cntF L N ≤ 1048576) (hn : n ≤ 1048576) (h0 : 0 ≤ k0) (h1 : k0 ≤ 1000000000) :
    Calls Try.prog 13 #[shVal s a N ca y n cy, .int .i64 k0] w fun e w' => e = .returned (.int .i64 (upAt L k0 N + n)) ∧ Below w.heap.size w w' := by
  have HP : Hid (LR w.heap.size w a N (upL L k0)) := hP
  have HC : Hid (cntF L N ≤ 1048576) := hcn
  have HN : Hid (N ≤ 1048576) := hN
  have HNN : Hid (n ≤ 1048576) := hn
  obtain ⟨Q, hQ⟩ : ∃ q, upAt L k0 N = q := ⟨_, rfl⟩
  have hb : 0 ≤ Q ∧ Q ≤ 1099511627776 := by rw [← hQ]; unfold upAt; omega
  obtain ⟨q0, q1⟩ := hb
  rw [hQ] at hR ⊢
  have HR : Hid (Row .i64 w y n (fun i => Q + i)) := hR
  have HQ : Hid (upAt L k0 N = Q) := hQ
  have qn : ¬ Q < 0 := by omega
  have qm : ¬ Q + (n : Int) < 0 := by omega
  clear hP hcn hN hQ hR hn
  obtain ⟨W0, hW0⟩ : ∃ W, w.alloc (.cells (shCells s a N ca y n cy) 29) = W := ⟨_, rfl⟩
  have s0 : Sits W0 w.heap.size (shCells s a N ca y n cy) 29 := by rw [← hW0]; exact Sits.new _ _ _
  have b0 : Below w.heap.size w W0 := by rw [← hW0]; exact (Below.refl _ w).alloc (Nat.le_refl _) _
  have HW0 : Hid (w.alloc (.cells (shCells s a N ca y n cy) 29) = W0) := hW0
  have HB0 : Hid (Below w.heap.size w W0) := b0
  have HS0 : Hid (Sits W0 w.heap.size (shCells s a N ca y n cy) 29) := s0
  have x2 := s0.cell 5
  have x3 := s0.cell 6
  clear s0 b0 hW0
  go_enter Try.func13, Try.ntmps13
  go_upto_region 1 with fail
  rw [HW0.out]
  clear HW0
  go_upto_region 4 with (go_at_call 40; refine (heldLineS_any a N ca L k0 _ (LR.go HP.out HB0.out (HB0.out).size) HN.out HC.out h0 h1).mono ?_; rintro e w1 ⟨rfl, hw1⟩; replace hw1 := hw1.symm; subst hw1; rw [HQ.out])
  go_wp2_with (go_at_call 41; refine (heldIntS_any y n cy Q _ (Row.below HR.out HB0.out) HNN.out q0 q1).mono ?_; rintro e w2 ⟨rfl, b2⟩; have HB2 : Hid (Below w.heap.size w w2) := (HB0.out).trans (b2.mono (HB0.out).size); clear b2)
  go_ret
  exact ⟨rfl, HB2.out⟩

end Go.Proofs.Ytmjggolllijamaa
