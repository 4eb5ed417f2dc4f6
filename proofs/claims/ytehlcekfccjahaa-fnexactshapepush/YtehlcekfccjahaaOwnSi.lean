/-
  A SHAPE COPIED BY THE PROGRAM: ownShape: all its memory is new, and no two lists share any.
-/
import Derived.Test.YtehlcekfccjahaaOwnSh
import Derived.Test.YtehlcekfccjahaaSortI
import Derived.Test.YtehlcekfccjahaaShapeT
import Derived.Deep.Slices
namespace Go.Proofs.Ytehlcekfccjahaa
open Go.RowKit
set_option linter.unusedVariables false

/-- Where the lines of a list and their packets lie. -/
theorem LR.pick {n₀ : Nat} {w : World} {a : Option Addr} {N : Nat} {L : Nat → Ln} (h : LR n₀ w a N L) (hN : N ≠ 0) : ∃ (b off : Nat) (A : Nat → Option Addr) (C : Nat → Nat), a = some ⟨b, off, none⟩ ∧ b < n₀ ∧ ∀ i, i < N → LAt w b (off + i * 9) (A i) (C i) (L i) ∧ (L i).n ≤ C i ∧ PR n₀ w (A i) (L i).n (L i).f := by
  obtain ⟨b, off, ha, hb, hc⟩ := LR.at h (j := 0) (by omega)
  obtain ⟨A, hA⟩ := Go.Deep.choose_lt hc
  obtain ⟨C, hC⟩ := Go.Deep.choose_lt hA
  exact ⟨b, off, A, C, ha, hb, hC⟩

/-- Lines onto none. -/
theorem wp_append_lnN {w : World} {o : Oper} {a : Act} {K : Act → World → Prop} {Q : Exit → Act → World → Prop} (s x : Operand)
    (ho : o.op = .call { callee := .builtin .append, args := #[s, x], argTypes := #[29, 29] })
    (base : Nat) (hs : a.eval s = .slice none 0 0)
    (b off m c : Nat) (A : Nat → Option Addr) (C : Nat → Nat) (L : Nat → Ln) (hx : a.eval x = .slice (some ⟨b, off, none⟩) m c) (hr : ∀ i, i < m → LAt w b (off + i * 9) (A i) (C i) (L i)) (hm : m ≤ 1048576) (h0 : m ≠ 0) (hbase : base ≤ w.heap.size)
    (h : ∀ g cap w', LP base w' (some ⟨g, 0, none⟩) m cap A C L → w.grownBy w' none → K (a.put o.dst (.slice (some ⟨g, 0, none⟩) m cap)) w') : o.wp Try.prog a w K Q := by
  obtain ⟨i0, hi0, hz0, hz1, hz2⟩ := infoLine_parts
  refine wp_append_lies w s x 29 ho base 54 i0 _ 9 88 Try.underlying29 hi0 hz0 hz1 hz2 rfl (by omega) (.slice none 0 0) 0 [] hs (World.ownsRow_nil _ _ _ _) ⟨b, off, none⟩ m c (lnL A C L m) hx (lnL_len A C L m) ?_ ?_ (by omega) (by unfold maxLen; omega) (by omega) hbase _ rfl ?_
  · intro j u hu
    have hj : j < m * 9 := by
      have := (List.getElem?_eq_some_iff.1 hu).1
      rw [lnL_len] at this
      exact this
    have e : j = j / 9 * 9 + j % 9 := by omega
    rw [e, lnL_get A C L (j / 9) (j % 9) (Nat.mod_lt _ (by omega)) m (by omega)] at hu
    rw [WideShapes.add_plain]
    obtain ⟨c0, c1, c2, c3, c4, c5, c6, c7, c8⟩ := hr (j / 9) (by omega)
    have e2 : off + j = off + j / 9 * 9 + j % 9 := by omega
    rw [e2]
    have ht : j % 9 < 9 := Nat.mod_lt _ (by omega)
    generalize j % 9 = t at hu ht
    have hc : t = 0 ∨ t = 1 ∨ t = 2 ∨ t = 3 ∨ t = 4 ∨ t = 5 ∨ t = 6 ∨ t = 7 ∨ t = 8 := by omega
    rcases hc with rfl | rfl | rfl | rfl | rfl | rfl | rfl | rfl | rfl <;> (simp at hu; subst hu; simpa using ‹_›)
  · intro u hu
    unfold lnL at hu
    obtain ⟨l, hl, hul⟩ := List.mem_flatten.1 hu
    obtain ⟨i, _, rfl⟩ := List.mem_map.1 hl
    simp at hul
    rcases hul with rfl | rfl | rfl | rfl | rfl | rfl | rfl | rfl | rfl <;> rfl
  · intro g cp w' h1 h2 h3 h4
    rw [Nat.zero_add] at h1 ⊢
    exact h g cp w' (by simpa [LP] using h1) h2
theorem wpList_append_lnN {w : World} {ops : Array Oper} {rest : List Oper} {o : Oper} {a : Act} {Q : Exit → Act → World → Prop} (hgd : o.guard = none) (s x : Operand)
    (ho : o.op = .call { callee := .builtin .append, args := #[s, x], argTypes := #[29, 29] })
    (base : Nat) (hs : a.eval s = .slice none 0 0)
    (b off m c : Nat) (A : Nat → Option Addr) (C : Nat → Nat) (L : Nat → Ln) (hx : a.eval x = .slice (some ⟨b, off, none⟩) m c) (hr : ∀ i, i < m → LAt w b (off + i * 9) (A i) (C i) (L i)) (hm : m ≤ 1048576) (h0 : m ≠ 0) (hbase : base ≤ w.heap.size)
    (h : ∀ g cap w', LP base w' (some ⟨g, 0, none⟩) m cap A C L → w.grownBy w' none → wpList Try.prog ops Q rest (a.put o.dst (.slice (some ⟨g, 0, none⟩) m cap)) w') : wpList Try.prog ops Q (o :: rest) a w :=
  wpList_plain hgd fun _ hK => wp_append_lnN s x ho base hs b off m c A C L hx hr hm h0 hbase fun g cap w' h2 h3 => hK _ _ (h g cap w' h2 h3)

/-- Half copied: the first k lines have packets of their own. -/
structure OwnK (b2 : Nat) (wr : World) (X k : Nat) (A A0 : Nat → Option Addr) (C C0 : Nat → Nat) (L : Nat → Ln) (y : Option Addr) (n cy : Nat) (tn : Nat → Int) : Prop where
  lo : b2 ≤ X
  sits : ∃ vs t, Sits wr X vs t ∧ 4 * 9 ≤ vs.size ∧ ∀ i, i < 4 → LV vs (i * 9) (if i < k then A i else A0 i) (if i < k then C i else C0 i) (L i)
  po : ∀ i, i < k → PO b2 wr (A i) (L i).n (C i) (L i).f
  ox : ∀ i, i < k → ∀ g, A i = some g → g.block ≠ X
  oo : ∀ i j, i < k → j < k → i ≠ j → Off (A i) (A j)
  jo : JO b2 wr y n cy tn
  xy : ∀ g, y = some g → g.block ≠ X
  oy : ∀ i, i < k → Off (A i) y

/-- Where lines of one's own lie. -/
theorem LP.sv {base : Nat} {w : World} {X : Nat} {N cap : Nat} {A : Nat → Option Addr} {C : Nat → Nat} {L : Nat → Ln} (h : LP base w (some ⟨X, 0, none⟩) N cap A C L) (hN : N ≠ 0) :
    base ≤ X ∧ ∃ vs t, Sits w X vs t ∧ N * 9 ≤ vs.size ∧ ∀ i, i < N → LV vs (i * 9) (A i) (C i) (L i) := by
  obtain ⟨hl, ⟨hv, h0⟩ | ⟨g, cp, cur, hv, hbs, hh, e1, e2, e3, e4⟩⟩ := h
  · exact absurd h0 hN
  · simp only [Value.slice.injEq] at hv
    obtain ⟨ha, _, rfl⟩ := hv
    cases ha
    refine ⟨hbs, cur, _, hh, by rw [e3]; omega, fun i hi => ?_⟩
    have c : ∀ t, t < 9 → cur[i * 9 + t]? = (lnCells (A i) (C i) (L i))[t]? := fun t ht => by
      rw [← lnL_get A C L i t ht N hi, ← e4, List.getElem?_take_of_lt (by omega), Array.getElem?_toList]
    exact ⟨c 0 (by omega), c 1 (by omega), c 2 (by omega), c 3 (by omega), c 4 (by omega), c 5 (by omega), c 6 (by omega), c 7 (by omega), c 8 (by omega)⟩

theorem OwnK.lt {b2 : Nat} {wr : World} {X k : Nat} {A A0 : Nat → Option Addr} {C C0 : Nat → Nat} {L : Nat → Ln} {y : Option Addr} {n cy : Nat} {tn : Nat → Int} (h : OwnK b2 wr X k A A0 C C0 L y n cy tn) : X < wr.heap.size := by
  obtain ⟨vs, t, hs, _⟩ := h.sits
  exact hs.lt
/-- One more has its own. -/
theorem OwnK.next {b2 : Nat} {wr w1 : World} {X k : Nat} {A A0 : Nat → Option Addr} {C C0 : Nat → Nat} {L : Nat → Ln} {y : Option Addr} {n cy : Nat} {tn : Nat → Int} (h : OwnK b2 wr X k A A0 C C0 L y n cy tn) (hk : k < 4)
    (hb : Below wr.heap.size wr w1) {x' : Option Addr} {c' : Nat} (hp : PO wr.heap.size w1 x' (L k).n c' (L k).f) (h2 : b2 ≤ wr.heap.size) :
    OwnK b2 (w1.setCell ⟨X, k * 9, none⟩ (.slice x' (L k).n c')) X (k + 1) (fun i => if i = k then x' else A i) A0 (fun i => if i = k then c' else C i) C0 L y n cy tn := by
  have hX := h.lt
  have hab : Above wr.heap.size x' := hp.above
  obtain ⟨vs, t, hs, h1, hv⟩ := h.sits
  have hs1 : Sits w1 X vs t := hs.below hb hX
  have hxX : ∀ g, x' = some g → g.block ≠ X := fun g hg => by have := hab g hg; omega
  refine ⟨h.lo, ⟨_, t, hs1.set (k * 9) _, by simpa using h1, fun i hi => ?_⟩, fun i hi => ?_, fun i hi g hg => ?_, fun i j hi hj hne => ?_, (h.jo.keep (below_keep hb h.jo.undr)).keep (set_keep _ _ h.xy), h.xy, fun i hi => ?_⟩ <;> (try dsimp only at *)
  · have := lv_set0 h1 hk hv x' c' (L k).n (L k).f i hi
    by_cases e : i = k
    · subst e
      simp only [if_true] at this
      rw [if_pos (by omega), if_pos rfl, if_pos (by omega), if_pos rfl]
      exact this
    · rw [if_neg e, if_neg e, if_neg e] at this
      by_cases e2 : i < k
      · rw [if_pos e2, if_pos e2] at this
        rw [if_pos (by omega), if_neg e, if_pos (by omega), if_neg e]; exact this
      · rw [if_neg e2, if_neg e2] at this
        rw [if_neg (by omega), if_neg (by omega)]; exact this
  · by_cases e : i = k
    · subst e; simp only [if_true]; exact (hp.mono h2).keep (set_keep _ _ hxX)
    · rw [if_neg e, if_neg e]
      exact ((h.po i (by omega)).keep (below_keep hb (h.po i (by omega)).under)).keep (set_keep _ _ (h.ox i (by omega)))
  · by_cases e : i = k
    · rw [if_pos e] at hg; exact hxX g hg
    · rw [if_neg e] at hg; exact h.ox i (by omega) g hg
  · have an : ∀ i, i < k → Off (A i) x' := fun i hi => off_of (h.po i hi).under hab
    by_cases e1 : i = k
    · by_cases e2 : j = k
      · omega
      · rw [if_pos e1, if_neg e2]; exact (an j (by omega)).symm
    · by_cases e2 : j = k
      · rw [if_neg e1, if_pos e2]; exact an i (by omega)
      · rw [if_neg e1, if_neg e2]; exact h.oo i j (by omega) (by omega) hne
  · by_cases e : i = k
    · rw [if_pos e]; exact (off_of h.jo.undr hab).symm
    · rw [if_neg e]; exact h.oy i (by omega)
theorem OwnK.done {b2 : Nat} {wr : World} {X : Nat} {A A0 : Nat → Option Addr} {C C0 : Nat → Nat} {L : Nat → Ln} {y : Option Addr} {n cy : Nat} {tn : Nat → Int} (h : OwnK b2 wr X 4 A A0 C C0 L y n cy tn) : LQ b2 wr X 4 A C L ∧ TQ b2 wr y n cy tn X 4 A := by
  obtain ⟨vs, t, hs, h1, hv⟩ := h.sits
  exact ⟨⟨h.lo, ⟨vs, t, hs, h1, fun i hi => by have := hv i hi; rw [if_pos hi, if_pos hi] at this; exact this⟩, h.po, h.ox, h.oo⟩, h.jo, h.xy, h.oy⟩

set_option maxRecDepth 100000 in
set_option maxHeartbeats 4000000 in
theorem iownShape_any (s : Sh) (a : Option Addr) (ca : Nat) (b : Option Addr) (n c : Nat) (L : Nat → Ln) (tn : Nat → Int) (w : World)
    (hcn : cntF L 4 ≤ 1048576) (hnn : n ≤ 1048576) (hP : LR w.heap.size w a 4 L) (hb : Row .i64 w b n tn) :
    Calls Try.prog 22 #[shVal s a 4 ca b n c] w fun e w' => ∃ (B : Nat) (A : Nat → Option Addr) (C : Nat → Nat) (cl : Nat) (y : Option Addr) (cy : Nat), e = .returned (shVal s (some ⟨B, 0, none⟩) 4 cl y n cy) ∧ LQ w.heap.size w' B 4 A C L ∧ TQ w.heap.size w' y n cy tn B 4 A ∧ Below w.heap.size w w' := by
  obtain ⟨b1, off, A0, C0, rfl, hbl, hat0⟩ := LR.pick hP (by omega)
  have HAT : Hid (∀ i, i < 4 → LAt w b1 (off + i * 9) (A0 i) (C0 i) (L i) ∧ (L i).n ≤ C0 i ∧ PR w.heap.size w (A0 i) (L i).n (L i).f) := hat0
  have HRB : Hid (Row .i64 w b n tn) := hb
  have HCN : Hid (cntF L 4 ≤ 1048576) := hcn
  have HNN : Hid (n ≤ 1048576) := hnn
  clear hP hb hcn hnn hat0
  obtain ⟨W0, hW0⟩ : ∃ W, (w.alloc (.cells (shCells s (some ⟨b1, off, none⟩) 4 ca b n c) 31)).alloc (.cells shZero 31) = W := ⟨_, rfl⟩
  have s0 : Sits W0 w.heap.size (shCells s (some ⟨b1, off, none⟩) 4 ca b n c) 31 := by rw [← hW0]; exact (Sits.new _ _ _).alloc _
  have s1 : Sits W0 (w.heap.size + 1) shZero 31 := by rw [← hW0]; exact Sits.new' (by simp)
  have b0 : Below w.heap.size w W0 := by rw [← hW0]; exact ((Below.refl _ w).alloc (Nat.le_refl _) _).alloc (by simp) _
  have z0 : W0.heap.size = w.heap.size + 1 + 1 := by rw [← hW0]; simp
  have HW0 : Hid ((w.alloc (.cells (shCells s (some ⟨b1, off, none⟩) 4 ca b n c) 31)).alloc (.cells shZero 31) = W0) := hW0
  have HS0 : Hid (Sits _ _ _ _) := s0
  have HS1 : Hid (Sits _ _ _ _) := s1
  have HB0 : Hid (Below w.heap.size w W0) := b0
  have HZ0 : Hid (W0.heap.size = w.heap.size + 1 + 1) := z0
  have x6 := s0.cell 6
  clear s0 s1 b0 z0 hW0
  have hfl := field_list
  go_enter Try.func22, Try.ntmps22
  go_upto_region 1 with fail
  rw [HW0.out]
  clear HW0
  go_upto_region 2 with (go_at_call 44; refine (ilistOf_any b n c tn _ HNN.out (Row.below HRB.out HB0.out)).mono ?_; rintro e w1 ⟨y, cy, rfl, hj1, hb1⟩; have t0 := Sits.below HS0.out hb1 (Sits.lt HS0.out); have y6 := t0.cell 6; have yf := t0.frozen; have HJ1 : Hid (JO W0.heap.size w1 y n cy tn) := hj1; have HB1 : Hid (Below W0.heap.size W0 w1) := hb1; clear hj1 hb1 t0)
  obtain ⟨v1, hv1⟩ : ∃ v, w1.setCell ⟨w.heap.size, 6, none⟩ (.slice y n cy) = v := ⟨_, rfl⟩
  have t0 : Sits v1 w.heap.size (shCells s (some ⟨b1, off, none⟩) 4 ca y n cy) 31 := by rw [← hv1]; exact (Sits.below HS0.out HB1.out (Sits.lt HS0.out)).set 6 _
  have t1 : Sits v1 (w.heap.size + 1) shZero 31 := by rw [← hv1]; exact (Sits.below HS1.out HB1.out (Sits.lt HS1.out)).other (by omega) _
  have j1 : JO W0.heap.size v1 y n cy tn := by rw [← hv1]; exact JO.far HJ1.out (by have := HZ0.out; omega) _ _
  have bv1 : Below w.heap.size w v1 := by rw [← hv1]; exact ((HB0.out).trans (Below.mono HB1.out (HB0.out).size)).setCell (Nat.le_refl _) _
  have zv1 : W0.heap.size ≤ v1.heap.size := by rw [← hv1, size_set]; exact (HB1.out).size
  rw [hv1]
  clear hv1 HS0 HS1 HJ1 HB1 y6 yf x6
  have HT0 : Hid (Sits v1 w.heap.size (shCells s (some ⟨b1, off, none⟩) 4 ca y n cy) 31) := t0
  have HT1 : Hid (Sits v1 (w.heap.size + 1) shZero 31) := t1
  have HJ1 : Hid (JO W0.heap.size v1 y n cy tn) := j1
  have HBV : Hid (Below w.heap.size w v1) := bv1
  have x5 := t0.cell 5
  have HLA : Hid (∀ i, i < 4 → LAt v1 b1 (off + i * 9) (A0 i) (C0 i) (L i)) := fun i hi => (HAT.out i hi).1.below bv1 hbl
  clear t0 t1 j1 bv1
  go_upto_region 3 with (at_builtin; refine wpList_append_lnN rfl _ _ rfl v1.heap.size rfl b1 off 4 ca A0 C0 L rfl HLA.out (by omega) (by omega) (Nat.le_refl _) ?_; intro X cl w2 hlp hgr; have B2 : Below v1.heap.size v1 w2 := (Below.refl _ _).grown hgr (Nat.le_refl _) (fun k e => by cases e); have u0 := Sits.below HT0.out B2 (Sits.lt HT0.out); have y5 := u0.cell 5; have yf := u0.frozen; have HLP : Hid (LP v1.heap.size w2 (some ⟨X, 0, none⟩) 4 cl A0 C0 L) := hlp; have HB2 : Hid (Below v1.heap.size v1 w2) := B2; have HGR : Hid (v1.grownBy w2 none) := hgr; clear hlp hgr B2 u0)
  obtain ⟨v2, hv2⟩ : ∃ v, w2.setCell ⟨w.heap.size, 5, none⟩ (.slice (some ⟨X, 0, none⟩) 4 cl) = v := ⟨_, rfl⟩
  obtain ⟨hX, vs, t, hsX, hX1, hX2⟩ := LP.sv HLP.out (by omega)
  have u0 : Sits v2 w.heap.size (shCells s (some ⟨X, 0, none⟩) 4 cl y n cy) 31 := by rw [← hv2]; exact (Sits.below HT0.out HB2.out (Sits.lt HT0.out)).set 5 _
  have u1 : Sits v2 (w.heap.size + 1) shZero 31 := by rw [← hv2]; exact (Sits.below HT1.out HB2.out (Sits.lt HT1.out)).other (by omega) _
  have bv2 : Below w.heap.size w v2 := by rw [← hv2]; exact ((HBV.out).trans ((HB2.out).mono (HBV.out).size)).setCell (Nat.le_refl _) _
  have hz0 := HZ0.out
  have ok0 : OwnK W0.heap.size v2 X 0 (fun _ => none) A0 (fun _ => 0) C0 L y n cy tn := by
    refine ⟨Nat.le_trans zv1 hX, ⟨vs, t, ?_, hX1, fun i hi => by rw [if_neg (Nat.not_lt_zero i), if_neg (Nat.not_lt_zero i)]; exact hX2 i hi⟩, fun i hi => absurd hi (Nat.not_lt_zero _), fun i hi => absurd hi (Nat.not_lt_zero _), fun i j hi => absurd hi (Nat.not_lt_zero _), ?_, fun g hg => ?_, fun i hi => absurd hi (Nat.not_lt_zero _)⟩
    · rw [← hv2]; exact hsX.other (by omega) _
    · rw [← hv2]; exact JO.far (JO.below HJ1.out HB2.out) (by omega) _ _
    · have := JO.undr HJ1.out g hg; omega
  rw [hv2]
  clear hv2 HT0 HT1 HJ1 HBV HLA HLP HB2 HGR hsX hX2 hX1 y5 yf x5
  have x5 := u0.cell 5
  have OK0 : Hid (OwnK W0.heap.size v2 X 0 (fun _ => none) A0 (fun _ => 0) C0 L y n cy tn) := ok0
  have HU0 : Hid (Sits v2 w.heap.size (shCells s (some ⟨X, 0, none⟩) 4 cl y n cy) 31) := u0
  have HU1 : Hid (Sits v2 (w.heap.size + 1) shZero 31) := u1
  have HBV : Hid (Below w.heap.size w v2) := bv2
  clear ok0 u0 u1 bv2
  go_wp2
  go_loopw [16] (fun i wr => ∃ (k : Nat) (A : Nat → Option Addr) (C : Nat → Nat), k ≤ 4 ∧ i = .int .i64 (k : Int) ∧ OwnK W0.heap.size wr X k A A0 C C0 L y n cy tn ∧ Sits wr w.heap.size (shCells s (some ⟨X, 0, none⟩) 4 cl y n cy) 31 ∧ Sits wr (w.heap.size + 1) shZero 31 ∧ Below w.heap.size w wr) (fun i _ => 4 - (intOf i).toNat)
  case atStart => exact ⟨0, _, _, Nat.zero_le _, rfl, OK0.out, HU0.out, HU1.out, HBV.out⟩
  case round =>
    clear OK0 HU0 HU1 HBV x5
    obtain ⟨k, A, C, hk, rfl, hok, hs0, hs1, hB⟩ := hrel
    have HOK : Hid (OwnK W0.heap.size wr X k A A0 C C0 L y n cy tn) := hok
    have HS0 : Hid (Sits wr w.heap.size (shCells s (some ⟨X, 0, none⟩) 4 cl y n cy) 31) := hs0
    have HS1 : Hid (Sits wr (w.heap.size + 1) shZero 31) := hs1
    have HB : Hid (Below w.heap.size w wr) := hB
    have x5 := hs0.cell 5
    clear hok hs0 hs1
    by_cases hlt : k < 4
    · have hlti : (k : Int) < 4 := by omega
      have hk0 : (0 : Int) ≤ (k : Int) := by omega
      obtain ⟨ws, t2, hsw, hsz, hlv⟩ := (HOK.out).sits
      have hlk := hlv k hlt
      rw [if_neg (Nat.lt_irrefl k), if_neg (Nat.lt_irrefl k)] at hlk
      have c0 := (hlk.at hsw).1
      have fX := hsw.frozen
      have hnk : (L k).n ≤ 1048576 := Nat.le_trans (cntF_le L hlt) HCN.out
      have HPR : Hid (PR wr.drew.heap.size wr.drew (A0 k) (L k).n (L k).f) := ((HAT.out k hlt).2.2.below hB).mono hB.size
      have HSW : Hid (Sits wr X ws t2) := hsw
      have HLK : Hid (LV ws (k * 9) (A0 k) (C0 k) (L k)) := hlk
      clear hlv hlk hsw hB
      go_upto_region 6 with fail
      go_region_with (go_at_call 45; refine (copied_any (A0 k) (L k).n (C0 k) (L k).f _ HPR.out hnk).mono ?_; rintro e w3 ⟨x', c', rfl, hpo, b3⟩; have b3' : Below wr.heap.size wr w3 := Below.trans (Below.drew (Below.refl wr.heap.size wr)) b3; have z0 := Sits.below HS0.out b3' (Sits.lt HS0.out); have z5 := z0.cell 5; have zX := Sits.below HSW.out b3' (Sits.lt HSW.out); have zf := zX.frozen; have zc := (LV.at HLK.out zX).1; have HPO : Hid (PO wr.heap.size w3 x' (L k).n c' (L k).f) := hpo; have HB3 : Hid (Below wr.heap.size wr w3) := b3'; clear hpo b3 b3' z0 zX)
      all_goals
        go_wp2
        go_roundw
        case rel => exact ⟨k + 1, _, _, by omega, by go_num, OwnK.next HOK.out hlt HB3.out HPO.out (by have := (HOK.out).lt; have := (HOK.out).lo; omega), (Sits.below HS0.out HB3.out (Sits.lt HS0.out)).other (by have := (HOK.out).lo; omega) _, (Sits.below HS1.out HB3.out (Sits.lt HS1.out)).other (by have := (HOK.out).lo; omega) _, ((HB.out).trans ((HB3.out).mono (HB.out).size)).setCell (by have := (HOK.out).lo; show w.heap.size ≤ X; omega) _⟩
        case measure => simp [intOf]; omega
    · obtain rfl : k = 4 := by omega
      obtain ⟨hlq, htq⟩ := (HOK.out).done
      have HLQ : Hid (LQ W0.heap.size wr X 4 A C L) := hlq
      have HTQ : Hid (TQ W0.heap.size wr y n cy tn X 4 A) := htq
      have x0 := Sits.cell HS0.out 0
      have x1 := Sits.cell HS0.out 1
      have x2 := Sits.cell HS0.out 2
      have x3 := Sits.cell HS0.out 3
      have x4 := Sits.cell HS0.out 4
      have z5 := Sits.cell HS0.out 5
      have x6 := Sits.cell HS0.out 6
      have y0 := Sits.cell HS1.out 0
      have y1 := Sits.cell HS1.out 1
      have y2 := Sits.cell HS1.out 2
      have y3 := Sits.cell HS1.out 3
      have y4 := Sits.cell HS1.out 4
      have y5 := Sits.cell HS1.out 5
      have y6 := Sits.cell HS1.out 6
      have yf := Sits.frozen HS1.out
      have R : Hid (Sits _ _ _ _) := (((((((Sits.set HS1.out 0 (.int .i64 s.rt)).set 1 (.int .i64 s.ov)).set 2 (.int .i64 s.nx)).set 3 (.int .i64 s.qt)).set 4 (.int .i64 s.lim)).set 5 (.slice (some ⟨X, 0, none⟩) 4 cl)).set 6 (.slice y n cy))
      clear hlq htq hB
      go_wp2
      refine bodyPost_ret (ret_sh Try.results22 rfl R.out) rfl ?_
      have h0 : w.heap.size + 1 ≤ w.heap.size + 1 := Nat.le_refl _
      have h1 : w.heap.size + 1 < w.heap.size + 1 + 1 := Nat.lt_succ_self _
      have c9 : Chg (w.heap.size + 1) (w.heap.size + 1 + 1) wr _ := (chg_set (chg_set (chg_set (chg_set (chg_set (chg_set (chg_set (Chg.refl _ _ wr) h0 h1 0 (.int .i64 s.rt)) h0 h1 1 (.int .i64 s.ov)) h0 h1 2 (.int .i64 s.nx)) h0 h1 3 (.int .i64 s.qt)) h0 h1 4 (.int .i64 s.lim)) h0 h1 5 (.slice (some ⟨X, 0, none⟩) 4 cl)) h0 h1 6 (.slice y n cy))
      exact ⟨X, A, C, cl, y, cy, rfl, (LQ.chg HLQ.out c9 (by omega)).mono (by omega), (TQ.chg HTQ.out c9 (by omega)).mono (by omega), c9.bel HB.out (by omega)⟩

end Go.Proofs.Ytehlcekfccjahaa
