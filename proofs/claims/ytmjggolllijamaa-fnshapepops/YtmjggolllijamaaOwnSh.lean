/-
  A SHAPE COPIED BY THE SPECIFICATION: l8own: all its memory is new, and no two lists share any.
-/
import Derived.Test.YtmjggolllijamaaOwnL
import Derived.Test.YtmjggolllijamaaShape0
import Derived.Deep.Cut
namespace Go.Proofs.Ytmjggolllijamaa
open Go.RowKit
set_option linter.unusedVariables false

theorem jo_empty (w : World) (base : Nat) (f : Nat → Int) (B : Nat) (hB : w.heap.size = B) (hb : base ≤ B) : JO base (w.alloc (.cells #[] 3)) (some ⟨B, 0, none⟩) 0 0 f := by
  subst hB
  exact ⟨rfl, .inr ⟨w.heap.size, 0, #[], rfl, hb, World.alloc_heap_new w _, Nat.le_refl _, by simp, rfl, by simp [inL]⟩⟩

/-- What is copied so far. -/
structure OwnI (b3 : Nat) (wr : World) (x : Option Addr) (k cap : Nat) (A : Nat → Option Addr) (C : Nat → Nat) (L : Nat → Ln) (y : Option Addr) (n cy : Nat) (tn : Nat → Int) : Prop where
  lp : LP b3 wr x k cap A C L
  po : ∀ i, i < k → PO b3 wr (A i) (L i).n (C i) (L i).f
  ox : ∀ i, i < k → Off (A i) x
  oo : ∀ i j, i < k → j < k → i ≠ j → Off (A i) (A j)
  jo : JO b3 wr y n cy tn
  xy : Off x y
  oy : ∀ i, i < k → Off (A i) y

/-- One line more. -/
theorem OwnI.next {b3 : Nat} {wr v4 w1 : World} {x : Option Addr} {k cap : Nat} {A : Nat → Option Addr} {C : Nat → Nat} {L : Nat → Ln} {y : Option Addr} {n cy : Nat} {tn : Nat → Int} (h : OwnI b3 wr x k cap A C L y n cy tn)
    (hk : ∀ j, b3 ≤ j → j < wr.heap.size → (∀ g, x = some g → j ≠ g.block) → v4.heap[j]? = wr.heap[j]?) {a' : Option Addr} {c' : Nat} (ha : Above wr.heap.size a') (hu : Undr w1.heap.size a') (hpo : PO b3 v4 a' (L k).n c' (L k).f)
    {g cap' : Nat} (hlp : LP b3 v4 (some ⟨g, 0, none⟩) (k + 1) cap' (fun i => if i = k then a' else A i) (fun i => if i = k then c' else C i) L) (hg : (∃ h, x = some h ∧ h.block = g) ∨ w1.heap.size ≤ g) (hs : wr.heap.size ≤ w1.heap.size) :
    OwnI b3 v4 (some ⟨g, 0, none⟩) (k + 1) cap' (fun i => if i = k then a' else A i) (fun i => if i = k then c' else C i) L y n cy tn := by
  have ux := h.lp.undr
  have noff : ∀ u, Undr wr.heap.size u → Off u x → Off u (some ⟨g, 0, none⟩) := fun u hu' ho a b e1 e2 e => by
    cases e2
    rcases hg with ⟨h', e3, e4⟩ | e3
    · exact ho a h' e1 e3 (by simpa using e.trans e4.symm)
    · have h7 := hu' a e1; have h8 : a.block = g := e; omega
  have an : ∀ i, i < k → Off (A i) a' := fun i hi => off_of (h.po i hi).under ha
  have ay : Off a' y := (off_of h.jo.undr ha).symm
  have ax : Off a' (some ⟨g, 0, none⟩) := fun a b e1 e2 e => by
    cases e2
    have h8 : a.block = g := e
    rcases hg with ⟨h', e3, e4⟩ | e3
    · have := ha a e1; have := ux h' e3; omega
    · have := hu a e1; omega
  refine ⟨hlp, fun i hi => ?_, fun i hi => ?_, fun i j hi hj hne => ?_, h.jo.keep fun a e => hk a.block (h.jo.abov a e) (h.jo.undr a e) fun b eb e2 => h.xy b a eb e e2.symm, (noff y h.jo.undr h.xy.symm).symm, fun i hi => ?_⟩ <;> (try dsimp only)
  · by_cases e : i = k
    · subst e; simp only [if_true]; exact hpo
    · rw [if_neg e, if_neg e]
      have hi' : i < k := by omega
      exact (h.po i hi').keep fun a ea => hk a.block ((h.po i hi').above a ea) ((h.po i hi').under a ea) fun b eb e2 => h.ox i hi' a b ea eb e2
  · by_cases e : i = k
    · rw [if_pos e]; exact ax
    · rw [if_neg e]; exact noff _ (h.po i (by omega)).under (h.ox i (by omega))
  · by_cases e1 : i = k
    · by_cases e2 : j = k
      · omega
      · rw [if_pos e1, if_neg e2]; exact (an j (by omega)).symm
    · by_cases e2 : j = k
      · rw [if_neg e1, if_pos e2]; exact an i (by omega)
      · rw [if_neg e1, if_neg e2]; exact h.oo i j (by omega) (by omega) hne
  · by_cases e : i = k
    · rw [if_pos e]; exact ay
    · rw [if_neg e]; exact h.oy i (by omega)

set_option maxRecDepth 100000 in
set_option maxHeartbeats 4000000 in
theorem l8own_any (s : Sh) (a : Option Addr) (ca : Nat) (b : Option Addr) (n c : Nat) (L : Nat → Ln) (tn : Nat → Int) (w : World)
    (hcn : cntF L 4 ≤ 1048576) (hnn : n ≤ 1048576) (hP : LR w.heap.size w a 4 L) (hb : Row .i64 w b n tn) :
    Calls Try.prog 27 #[shVal s a 4 ca b n c] w fun e w' => ∃ (B : Nat) (A : Nat → Option Addr) (C : Nat → Nat) (cl : Nat) (y : Option Addr) (cy : Nat), e = .returned (shVal s (some ⟨B, 0, none⟩) 4 cl y n cy) ∧ LQ w.heap.size w' B 4 A C L ∧ TQ w.heap.size w' y n cy tn B 4 A ∧ Below w.heap.size w w' := by
  have HP : Hid (LR w.heap.size w a 4 L) := hP
  have HRB : Hid (Row .i64 w b n tn) := hb
  have HCN : Hid (cntF L 4 ≤ 1048576) := hcn
  have HNN : Hid (n ≤ 1048576) := hnn
  clear hP hb hcn hnn
  obtain ⟨W0, hW0⟩ : ∃ W, ((w.alloc (.cells (shCells s a 4 ca b n c) 29)).alloc (.cells shZero 29)).alloc (.cells (shCells s none 0 0 b n c) 29) = W := ⟨_, rfl⟩
  have s0 : Sits W0 w.heap.size (shCells s a 4 ca b n c) 29 := by rw [← hW0]; exact ((Sits.new _ _ _).alloc _).alloc _
  have s1 : Sits W0 (w.heap.size + 1) shZero 29 := by rw [← hW0]; exact (Sits.new' (by simp)).alloc _
  have s2 : Sits W0 (w.heap.size + 1 + 1) (shCells s none 0 0 b n c) 29 := by rw [← hW0]; exact Sits.new' (by simp)
  have b0 : Below w.heap.size w W0 := by rw [← hW0]; exact (((Below.refl _ w).alloc (Nat.le_refl _) _).alloc (by simp) _).alloc (by simp; omega) _
  have z0 : W0.heap.size = w.heap.size + 1 + 1 + 1 := by rw [← hW0]; simp
  have HW0 : Hid (((w.alloc (.cells (shCells s a 4 ca b n c) 29)).alloc (.cells shZero 29)).alloc (.cells (shCells s none 0 0 b n c) 29) = W0) := hW0
  have HS0 : Hid (Sits _ _ _ _) := s0
  have HS1 : Hid (Sits _ _ _ _) := s1
  have HS2 : Hid (Sits _ _ _ _) := s2
  have HB0 : Hid (Below w.heap.size w W0) := b0
  have HZ0 : Hid (W0.heap.size = w.heap.size + 1 + 1 + 1) := z0
  clear s0 s1 s2 b0 hW0 z0
  go_enter Try.func27, Try.ntmps27
  go_upto_region 3 with fail
  rw [HW0.out]
  clear HW0
  have x6 := Sits.cell HS0.out 6
  have l0 := Sits.lt HS0.out
  go_upto_region 4 with (at_builtin; refine wpList_append_inN rfl _ _ rfl W0.heap.size (some ⟨W0.heap.size, 0, none⟩) 0 0 tn rfl (jo_empty _ _ _ _ rfl (Nat.le_refl _)) b n c tn rfl (Row.below HRB.out ((HB0.out).alloc (HB0.out).size _)) (by have := HNN.out; omega) (by simp) ?_; intro y cy w1 hjo hgr; have hj1 : JO W0.heap.size w1 y n cy tn := JO.congr (f := joinI tn 0 tn) (by simpa using hjo) (fun i _ => by simp [joinI]); have B1 : Below W0.heap.size W0 w1 := Below.grown (B := W0.heap.size) (a := W0) ((Below.refl _ _).alloc (Nat.le_refl _) _) hgr (by simp) (fun k e => by simp [Value.ownBlock] at e; omega); have t2 := Sits.below HS2.out B1 (Sits.lt HS2.out); have y6 := t2.cell 6; have yf := t2.frozen; have HJ1 : Hid (JO W0.heap.size w1 y n cy tn) := hj1; have HB1 : Hid (Below W0.heap.size W0 w1) := B1; clear hjo hgr hj1 B1 t2)
  obtain ⟨v1, hv1⟩ : ∃ v, w1.setCell ⟨w.heap.size + 1 + 1, 6, none⟩ (.slice y n cy) = v := ⟨_, rfl⟩
  have c1 : Chg (w.heap.size + 1 + 1) (w.heap.size + 1 + 1 + 1) w1 v1 := by rw [← hv1]; exact chg_set (Chg.refl _ _ _) (Nat.le_refl _) (Nat.lt_succ_self _) _ _
  have s0 : Sits v1 w.heap.size (shCells s a 4 ca b n c) 29 := (Sits.below HS0.out HB1.out (Sits.lt HS0.out)).chg c1 (.inl (by omega))
  have s1 : Sits v1 (w.heap.size + 1) shZero 29 := (Sits.below HS1.out HB1.out (Sits.lt HS1.out)).chg c1 (.inl (by omega))
  have s2 : Sits v1 (w.heap.size + 1 + 1) (shCells s none 0 0 y n cy) 29 := by rw [← hv1]; exact (Sits.below HS2.out HB1.out (Sits.lt HS2.out)).set 6 _
  have j1 : JO W0.heap.size v1 y n cy tn := by rw [← hv1]; exact JO.far HJ1.out (by have := HZ0.out; omega) _ _
  have bb1 : Below w.heap.size w v1 := c1.bel ((HB0.out).trans (Below.mono HB1.out (HB0.out).size)) (by omega)
  rw [hv1]
  clear hv1 c1 HS0 HS1 HS2 HJ1 HB1 y6 yf x6 l0
  have HS0 : Hid (Sits _ _ _ _) := s0
  have HS1 : Hid (Sits _ _ _ _) := s1
  have HS2 : Hid (Sits _ _ _ _) := s2
  have HJ1 : Hid (JO W0.heap.size v1 y n cy tn) := j1
  have HBV : Hid (Below w.heap.size w v1) := bb1
  obtain ⟨b3, hb3⟩ : ∃ b3, W0.heap.size = b3 := ⟨_, rfl⟩
  rw [hb3] at HJ1
  have HZ3 : Hid (b3 = w.heap.size + 1 + 1 + 1) := by show _ = _; rw [← hb3]; exact HZ0.out
  clear s0 s1 s2 j1 bb1 hb3 HB0 HZ0
  have x5 := Sits.cell HS0.out 5
  go_wp2
  go_loopw [4] (fun i wr => ∃ (k : Nat) (x : Option Addr) (cap : Nat) (A : Nat → Option Addr) (C : Nat → Nat), k ≤ 4 ∧ i = .int .i64 (k : Int) ∧ OwnI b3 wr x k cap A C L y n cy tn ∧ Sits wr w.heap.size (shCells s a 4 ca b n c) 29 ∧ Sits wr (w.heap.size + 1) shZero 29 ∧ Sits wr (w.heap.size + 1 + 1) (shCells s x k cap y n cy) 29 ∧ Below w.heap.size w wr) (fun i _ => 4 - (intOf i).toNat)
  case atStart => exact ⟨0, none, 0, fun _ => none, fun _ => 0, Nat.zero_le _, rfl, ⟨LP.nil _ _ _ _ _, fun i hi => absurd hi (Nat.not_lt_zero _), fun i hi => absurd hi (Nat.not_lt_zero _), fun i j hi => absurd hi (Nat.not_lt_zero _), HJ1.out, Off.none_left _, fun i hi => absurd hi (Nat.not_lt_zero _)⟩, HS0.out, HS1.out, HS2.out, HBV.out⟩
  case round =>
    clear HS0 HS1 HS2 HJ1 HBV x5
    obtain ⟨k, x, cap, A, C, hk, rfl, hoi, hs0, hs1, hs2, hB⟩ := hrel
    have HOI : Hid (OwnI b3 wr x k cap A C L y n cy tn) := hoi
    have HS0 : Hid (Sits wr w.heap.size (shCells s a 4 ca b n c) 29) := hs0
    have HS1 : Hid (Sits wr (w.heap.size + 1) shZero 29) := hs1
    have HS2 : Hid (Sits wr (w.heap.size + 1 + 1) (shCells s x k cap y n cy) 29) := hs2
    have HB : Hid (Below w.heap.size w wr) := hB
    have x5 := hs0.cell 5
    clear hoi hs0 hs1 hs2
    by_cases hlt : k < 4
    · obtain ⟨b1, off, rfl, hbl, hcs⟩ := LR.at HP.out hlt
      obtain ⟨p, cp, hat, hnc, hpr⟩ := hcs k hlt
      obtain ⟨c0, c1, c2, c3, c4, c5, c6, c7, c8⟩ := hat.below hB hbl
      have HPR : Hid (PR w.heap.size w p (L k).n (L k).f) := hpr
      have hnk : (L k).n ≤ 1048576 := Nat.le_trans (cntF_le L hlt) HCN.out
      have HNK : Hid ((L k).n ≤ 1048576) := hnk
      have hlti : (k : Int) < 4 := by omega
      have hws := (Sits.lt HS2.out)
      clear hcs hat hpr hnc hB
      go_upto_region 8 with fail
      obtain ⟨v, hv⟩ : ∃ v, wr.alloc (.cells (lnCells p cp (L k)) 53) = v := ⟨_, rfl⟩
      obtain ⟨q, hq⟩ : ∃ q, wr.heap.size = q := ⟨_, rfl⟩
      have sv : Sits v q (lnCells p cp (L k)) 53 := by rw [← hv, ← hq]; exact Sits.new _ _ _
      have zv : v.heap.size = q + 1 := by rw [← hv, ← hq]; simp
      have bv : Below q wr v := by rw [← hv, ← hq]; exact (Below.refl _ _).alloc (Nat.le_refl _) _
      rw [hv, hq]
      have HV : Hid (Sits v q (lnCells p cp (L k)) 53) := sv
      have HZV : Hid (v.heap.size = q + 1) := zv
      have HBV : Hid (Below q wr v) := bv
      have HQ : Hid (wr.heap.size = q) := hq
      have y0 := sv.cell 0
      have lq := sv.lt
      clear hv sv zv bv c0 c1 c2 c3 c4 c5 c6 c7 c8 x5
      have HPV : Hid (PR (v.alloc (.cells #[] 31)).heap.size (v.alloc (.cells #[] 31)) p (L k).n (L k).f) := by
        have bw : Below w.heap.size w (v.alloc (.cells #[] 31)) := ((HB.out).trans ((HBV.out).mono (by rw [← HQ.out]; exact (HB.out).size))).alloc (by have := HZV.out; have := HQ.out; have := (HB.out).size; omega) _
        exact (PR.below HPR.out bw).mono bw.size
      go_upto_region 9 with (at_builtin; refine wpList_append_pk rfl _ _ rfl v.heap.size (.slice (some ⟨v.heap.size, 0, none⟩) 0 0) rfl (pk_empty (v.alloc (.cells #[] 31)) v.heap.size v.heap.size (Nat.le_refl _) (World.alloc_heap_new v _)) p (L k).n cp (L k).f rfl HPV.out HNK.out (by simp) ?_; intro a' c' w1 hpo hgr; have B1 : Below v.heap.size v w1 := Below.grown (B := v.heap.size) (a := v) ((Below.refl _ _).alloc (Nat.le_refl _) _) hgr (by simp) (fun k e => by simp [Value.ownBlock] at e; omega); have t2 := Sits.below HV.out B1 (Sits.lt HV.out); have u0 := t2.cell 0; have uf := t2.frozen; have HPO : Hid (PO v.heap.size w1 a' (L k).n c' (L k).f) := hpo; have HB1 : Hid (Below v.heap.size v w1) := B1; have HV1 : Hid (Sits w1 q (lnCells p cp (L k)) 53) := t2; clear hpo hgr B1 t2)
      obtain ⟨v2, hv2⟩ : ∃ v2, w1.setCell ⟨q, 0, none⟩ (.slice a' (L k).n c') = v2 := ⟨_, rfl⟩
      have sl : Sits v2 q (lnCells a' c' (L k)) 53 := by rw [← hv2]; exact Sits.set HV1.out 0 _
      have po2 : PO v.heap.size v2 a' (L k).n c' (L k).f := by rw [← hv2]; exact PO.far HPO.out (by have := HZV.out; omega) _ _
      have b2 : Below q wr v2 := by rw [← hv2]; exact ((HBV.out).trans ((HB1.out).mono (by have := HZV.out; omega))).setCell (Nat.le_refl q) _
      rw [hv2]
      clear hv2 u0 uf y0 HV1 HPO HB1 HBV HV HPV
      have b2' : Below wr.heap.size wr v2 := by rw [HQ.out]; exact b2
      have t2 := Sits.below HS2.out b2' (Sits.lt HS2.out)
      have o5 := t2.cell 5
      have y0 := sl.cell 0
      have y1 := sl.cell 1
      have y2 := sl.cell 2
      have y3 := sl.cell 3
      have y4 := sl.cell 4
      have y5 := sl.cell 5
      have y6 := sl.cell 6
      have y7 := sl.cell 7
      have y8 := sl.cell 8
      obtain ⟨A', hA'⟩ : ∃ A', (fun i => if i = k then a' else A i) = A' := ⟨_, rfl⟩
      obtain ⟨C', hC'⟩ : ∃ C', (fun i => if i = k then c' else C i) = C' := ⟨_, rfl⟩
      have HA' : Hid ((fun i => if i = k then a' else A i) = A') := hA'
      have HC' : Hid ((fun i => if i = k then c' else C i) = C') := hC'
      have eA : A' k = a' := by rw [← hA']; simp
      have eC : C' k = c' := by rw [← hC']; simp
      have HLP : Hid (LP b3 (v2.alloc (.cells (lnCells a' c' (L k)) 53)) x k cap A' C' L) := by
        have h0 : LP b3 wr x k cap A' C' L := by
          have := (HOI.out).lp
          unfold LP at this ⊢
          rw [lnL_congr (A' := A') (C' := C') (L' := L) (fun i hi => ⟨by rw [← hA']; simp [Nat.ne_of_lt hi], by rw [← hC']; simp [Nat.ne_of_lt hi], rfl⟩)] at this
          exact this
        exact LP.below (LP.below h0 b2') ((Below.refl _ _).alloc (Nat.le_refl _) _)
      have HLA : Hid (LAt (v2.alloc (.cells (lnCells a' c' (L k)) 53)) v2.heap.size 0 (A' k) (C' k) (L k)) := by rw [eA, eC]; exact Sits.ln (Sits.new v2 (lnCells a' c' (L k)) 53)
      have HPO2 : Hid (PO v.heap.size v2 a' (L k).n c' (L k).f) := po2
      have HB2 : Hid (Below wr.heap.size wr v2) := b2'
      have HT2 : Hid (Sits v2 (w.heap.size + 1 + 1) (shCells s x k cap y n cy) 29) := t2
      have hb3z : b3 ≤ v2.heap.size := by have := HZ3.out; have := b2'.size; omega
      clear hA' hC' eA eC po2 b2 b2' t2 sl
      go_wp2_with (at_builtin; refine wpList_append_ln1 rfl _ _ rfl b3 x k cap A' C' L rfl HLP.out v2.heap.size rfl HLA.out (by omega) (by simp; omega) ?_; intro g cap' w3 hlp hgr hown hg; have B3 : Below b3 v2 w3 := Below.grown (B := b3) (a := v2) ((Below.refl _ v2).alloc hb3z _) hgr (by simp; omega) (fun j e => (World.ownsRow.lt HLP.out j e).1); have t3 := Sits.below HT2.out B3 (by have := HZ3.out; omega); have u5 := t3.cell 5; have uf := t3.frozen; have HT3 : Hid (Sits w3 (w.heap.size + 1 + 1) (shCells s x k cap y n cy) 29) := t3; have HB3 : Hid (Below b3 v2 w3) := B3; have HLP3 : Hid (LP b3 w3 (some ⟨g, 0, none⟩) (k + 1) cap' A' C' L) := hlp; have HGR : Hid ((v2.alloc (.cells (lnCells a' c' (L k)) 53)).grownBy w3 (Value.slice x k cap).ownBlock) := hgr; have HON : Hid ((Value.slice x k cap).ownBlock = some g ∨ g = (v2.alloc (.cells (lnCells a' c' (L k)) 53)).heap.size) := hown; clear t3 B3 hlp hgr hown)
      go_roundw
      case rel =>
        have e3 := HZ3.out
        have eq := HQ.out
        have ev := HZV.out
        have hsz := (HB2.out).size
        have keyx : ∀ j, (Value.slice x k cap).ownBlock = some j → ∃ h, x = some h ∧ h.block = j := fun j hj => by
          cases x with
          | none => cases hj
          | some h => exact ⟨h, rfl, by simpa [Value.ownBlock] using hj⟩
        have ux := (HOI.out).lp.undr
        have ab : Above wr.heap.size a' := fun u hu => by have := (HPO2.out).above u hu; omega
        have un : Undr v2.heap.size a' := (HPO2.out).under
        have po3 : PO b3 (w3.setCell ⟨w.heap.size + 1 + 1, 5, none⟩ (.slice (some ⟨g, 0, none⟩) (k + 1) cap')) a' (L k).n c' (L k).f := by
          have p1 : PO v.heap.size (v2.alloc (.cells (lnCells a' c' (L k)) 53)) a' (L k).n c' (L k).f := PO.below HPO2.out ((Below.refl _ _).alloc (Nat.le_refl _) _)
          have p2 : PO v.heap.size w3 a' (L k).n c' (L k).f := p1.keep (grown_keep HGR.out keyx p1.under (off_of ux ab).symm)
          exact (PO.far p2 (by omega) _ _).mono (by omega)
        refine ⟨k + 1, some ⟨g, 0, none⟩, cap', A', C', by omega, by go_num, ?_, ?_, ?_, Sits.set HT3.out 5 _, ?_⟩
        · rw [← HA'.out, ← HC'.out]
          refine OwnI.next (w1 := v2) HOI.out (fun j h1 h2 h3 => ?_) ab un po3 ?_ ?_ hsz
          · rw [Below.heap_setCell _ _ _ j (by show j ≠ w.heap.size + 1 + 1; omega)]
            refine ((HGR.out).block j (by simp; omega) (fun e => ?_)).trans ?_
            · obtain ⟨h, e1, e2⟩ := keyx j e.symm
              exact h3 h e1 e2.symm
            · have := ((Below.refl v2.heap.size v2).alloc (Nat.le_refl _) (.cells (lnCells a' c' (L k)) 53)).block j (by omega)
              exact this.trans ((HB2.out).block j h2)
          · rw [HA'.out, HC'.out]
            exact LP.far HLP3.out (by omega) _ _
          · rcases HON.out with e | e
            · exact .inl (keyx g e)
            · right; rw [e]; simp
        · exact ((Sits.below HS0.out HB2.out (Sits.lt HS0.out)).below HB3.out (by omega)).other (by omega) _
        · exact ((Sits.below HS1.out HB2.out (Sits.lt HS1.out)).below HB3.out (by omega)).other (by omega) _
        · exact (((HB.out).trans ((HB2.out).mono (HB.out).size)).trans ((HB3.out).mono (by omega))).setCell (show w.heap.size ≤ w.heap.size + 1 + 1 by omega) _
      case measure => simp [intOf]; omega
    · obtain rfl : k = 4 := by omega
      obtain ⟨B, rfl, hlq⟩ := LP.lq (HOI.out).lp (by omega) (HOI.out).po (HOI.out).ox (HOI.out).oo
      have HLQ : Hid (LQ b3 wr B 4 A C L) := hlq
      have HTQ : Hid (TQ b3 wr y n cy tn B 4 A) := ⟨(HOI.out).jo, fun g hg e => (HOI.out).xy _ g rfl hg e.symm, (HOI.out).oy⟩
      have x0 := Sits.cell HS2.out 0
      have x1 := Sits.cell HS2.out 1
      have x2 := Sits.cell HS2.out 2
      have x3 := Sits.cell HS2.out 3
      have x4 := Sits.cell HS2.out 4
      have z5 := Sits.cell HS2.out 5
      have x6 := Sits.cell HS2.out 6
      have y0 := Sits.cell HS1.out 0
      have y1 := Sits.cell HS1.out 1
      have y2 := Sits.cell HS1.out 2
      have y3 := Sits.cell HS1.out 3
      have y4 := Sits.cell HS1.out 4
      have y5 := Sits.cell HS1.out 5
      have y6 := Sits.cell HS1.out 6
      have yf := Sits.frozen HS1.out
      have R : Hid (Sits _ _ _ _) := (((((((Sits.set HS1.out 0 (.int .i64 s.rt)).set 1 (.int .i64 s.ov)).set 2 (.int .i64 s.nx)).set 3 (.int .i64 s.qt)).set 4 (.int .i64 s.lim)).set 5 (.slice (some ⟨B, 0, none⟩) 4 cap)).set 6 (.slice y n cy))
      clear hlq
      go_wp2
      refine bodyPost_ret (ret_sh Try.results27 rfl R.out) rfl ?_
      have e3 := HZ3.out
      have h0 : w.heap.size + 1 ≤ w.heap.size + 1 := Nat.le_refl _
      have h1 : w.heap.size + 1 < w.heap.size + 1 + 1 := Nat.lt_succ_self _
      have c9 : Chg (w.heap.size + 1) (w.heap.size + 1 + 1) wr _ := (chg_set (chg_set (chg_set (chg_set (chg_set (chg_set (chg_set (Chg.refl _ _ wr) h0 h1 0 (.int .i64 s.rt)) h0 h1 1 (.int .i64 s.ov)) h0 h1 2 (.int .i64 s.nx)) h0 h1 3 (.int .i64 s.qt)) h0 h1 4 (.int .i64 s.lim)) h0 h1 5 (.slice (some ⟨B, 0, none⟩) 4 cap)) h0 h1 6 (.slice y n cy))
      exact ⟨B, A, C, cap, y, cy, rfl, (LQ.chg HLQ.out c9 (by omega)).mono (by omega), (TQ.chg HTQ.out c9 (by omega)).mono (by omega), c9.bel HB.out (by omega)⟩

end Go.Proofs.Ytmjggolllijamaa
