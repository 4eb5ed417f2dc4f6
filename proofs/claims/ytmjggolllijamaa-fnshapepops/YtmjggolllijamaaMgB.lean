/-
  SEVERAL TEXTS IN ONE (a claim may hold 60 files): OwnSp, PopIs, LnMark, LnMarkQ, LnHeld, ShapeM, ShapeMo, PopShU, Draw, Draw1, DrawR0, DrawR1, DrawPk, DrawQ, BentSh0, ShapeK, Conc, PassI, PopQ.
-/
import Derived.Test.YtmjggolllijamaaOwnSh
import Derived.Test.YtmjggolllijamaaPassN
import Derived.Test.YtmjggolllijamaaCostF
import Derived.Test.YtmjggolllijamaaFair0
import Derived.Test.YtmjggolllijamaaOwnL
import Derived.Test.YtmjggolllijamaaShape0
import Derived.Test.YtmjggolllijamaaPassS
import Derived.Test.YtmjggolllijamaaShapeS
import Derived.Test.YtmjggolllijamaaBase
import Derived.Deep.OwnShut
import Derived.Deep.RegionHeld
import Derived.Test.YtmjggolllijamaaSits
import Derived.Test.YtmjggolllijamaaPk
import Derived.Test.YtmjggolllijamaaAppPk
import Derived.Deep.RegionLaw
import Derived.Test.YtmjggolllijamaaAppLn
import Derived.Test.YtmjggolllijamaaPushShU
import Derived.Test.YtmjggolllijamaaTailA
import Derived.Lib.AppendZeros
import Derived.Deep.Cut
import Derived.Test.YtmjggolllijamaaShapeW
/-
  A SHAPE COPIED: all that the copy owns (made by tools/mkownsp.py out of OwnSh).
-/
namespace Go.Proofs.Ytmjggolllijamaa
open Go.RowKit
set_option linter.unusedVariables false

theorem OwnI.keep {base : Nat} {w w' : World} {x : Option Addr} {k cap : Nat} {A : Nat → Option Addr} {C : Nat → Nat} {L : Nat → Ln} {y : Option Addr} {n cy : Nat} {tn : Nat → Int} (h : OwnI base w x k cap A C L y n cy tn)
    (hk : ∀ j, base ≤ j → j < w.heap.size → w'.heap[j]? = w.heap[j]?) : OwnI base w' x k cap A C L y n cy tn :=
  ⟨h.lp.keep fun g e => hk _ (h.lp.abov g e) (h.lp.undr g e), fun i hi => (h.po i hi).keep fun g e => hk _ ((h.po i hi).above g e) ((h.po i hi).under g e), h.ox, h.oo, h.jo.keep fun g e => hk _ (h.jo.abov g e) (h.jo.undr g e), h.xy, h.oy⟩
theorem OwnI.mono {base base' : Nat} {w : World} {x : Option Addr} {k cap : Nat} {A : Nat → Option Addr} {C : Nat → Nat} {L : Nat → Ln} {y : Option Addr} {n cy : Nat} {tn : Nat → Int} (h : OwnI base w x k cap A C L y n cy tn)
    (hb : base' ≤ base) : OwnI base' w x k cap A C L y n cy tn :=
  ⟨h.lp.mono hb, fun i hi => (h.po i hi).mono hb, h.ox, h.oo, h.jo.mono hb, h.xy, h.oy⟩
theorem OwnI.chg {base lo up : Nat} {w w' : World} {x : Option Addr} {k cap : Nat} {A : Nat → Option Addr} {C : Nat → Nat} {L : Nat → Ln} {y : Option Addr} {n cy : Nat} {tn : Nat → Int} (h : OwnI base w x k cap A C L y n cy tn)
    (hc : Chg lo up w w') (hd : up ≤ base) : OwnI base w' x k cap A C L y n cy tn := h.keep fun j h1 h2 => hc.block j h2 (by omega)
theorem OwnI.below {base : Nat} {w w' : World} {x : Option Addr} {k cap : Nat} {A : Nat → Option Addr} {C : Nat → Nat} {L : Nat → Ln} {y : Option Addr} {n cy : Nat} {tn : Nat → Int} (h : OwnI base w x k cap A C L y n cy tn)
    (hb : Below w.heap.size w w') : OwnI base w' x k cap A C L y n cy tn := h.keep fun j _ h2 => hb.block j h2
theorem OwnI.far {base : Nat} {w : World} {x : Option Addr} {k cap : Nat} {A : Nat → Option Addr} {C : Nat → Nat} {L : Nat → Ln} {y : Option Addr} {n cy : Nat} {tn : Nat → Int} (h : OwnI base w x k cap A C L y n cy tn)
    {V : Nat} (hV : V < base) (o : Nat) (v : Value) : OwnI base (w.setCell ⟨V, o, none⟩ v) x k cap A C L y n cy tn := h.keep fun j h1 _ => Below.heap_setCell w ⟨V, o, none⟩ v j (by show j ≠ V; omega)
theorem OwnI.lr {base : Nat} {w : World} {x : Option Addr} {k cap : Nat} {A : Nat → Option Addr} {C : Nat → Nat} {L : Nat → Ln} {y : Option Addr} {n cy : Nat} {tn : Nat → Int} (h : OwnI base w x k cap A C L y n cy tn) (hk : k ≠ 0) : LR w.heap.size w x k L := by
  obtain ⟨B, rfl, hlq⟩ := LP.lq h.lp hk h.po h.ox h.oo
  exact hlq.lr
theorem OwnI.row {base : Nat} {w : World} {x : Option Addr} {k cap : Nat} {A : Nat → Option Addr} {C : Nat → Nat} {L : Nat → Ln} {y : Option Addr} {n cy : Nat} {tn : Nat → Int} (h : OwnI base w x k cap A C L y n cy tn) : Row .i64 w y n tn := h.jo.row

set_option maxRecDepth 100000 in
set_option maxHeartbeats 4000000 in
theorem l8own_oi (s : Sh) (a : Option Addr) (ca : Nat) (b : Option Addr) (n c : Nat) (L : Nat → Ln) (tn : Nat → Int) (w : World)
    (hcn : cntF L 4 ≤ 1048576) (hnn : n ≤ 1048576) (hP : LR w.heap.size w a 4 L) (hb : Row .i64 w b n tn) :
    Calls Try.prog 27 #[shVal s a 4 ca b n c] w fun e w' => ∃ (B : Nat) (A : Nat → Option Addr) (C : Nat → Nat) (cl : Nat) (y : Option Addr) (cy : Nat), e = .returned (shVal s (some ⟨B, 0, none⟩) 4 cl y n cy) ∧ OwnI w.heap.size w' (some ⟨B, 0, none⟩) 4 cl A C L y n cy tn ∧ Below w.heap.size w w' := by
  have HP : Hid (LR w.heap.size w a 4 L) := hP
  have HRB : Hid (Row .i64 w b n tn) := hb
  have HCN : Hid (cntF L 4 ≤ 1048576) := hcn
  have HNN : Hid (n ≤ 1048576) := hnn
  clear hP hb hcn hnn
  obtain ⟨W0, hW0⟩ : ∃ W, ((w.alloc (.cells (shCells s a 4 ca b n c) 29)).alloc (.cells shZero 29)).alloc (.cells (shCells s none 0 0 b n c) 29) = W := ⟨_, rfl⟩
  have s0 : Sits W0 w.heap.size (shCells s a 4 ca b n c) 29 := by rw [← hW0]; exact ((Sits.new _ _ _).alloc _).alloc _
  have s1 : Sits W0 (w.heap.size + 1) shZero 29 := by rw [← hW0]; exact (Sits.new' (by simp)).alloc _
  have s2 : Sits W0 (w.heap.size + 1 + 1) (shCells s none 0 0 b n c) 29 := by rw [← hW0]; exact Sits.new' (by simp)
  have b0 : Below w.heap.size w W0 := by rw [← hW0]; exact (((Below.refl _ w).alloc (Nat.le_refl _) _).alloc (by simp) _).alloc (by simp; omega) _
  have z0 : W0.heap.size = w.heap.size + 1 + 1 + 1 := by rw [← hW0]; simp
  have HW0 : Hid (((w.alloc (.cells (shCells s a 4 ca b n c) 29)).alloc (.cells shZero 29)).alloc (.cells (shCells s none 0 0 b n c) 29) = W0) := hW0
  have HS0 : Hid (Sits _ _ _ _) := s0
  have HS1 : Hid (Sits _ _ _ _) := s1
  have HS2 : Hid (Sits _ _ _ _) := s2
  have HB0 : Hid (Below w.heap.size w W0) := b0
  have HZ0 : Hid (W0.heap.size = w.heap.size + 1 + 1 + 1) := z0
  clear s0 s1 s2 b0 hW0 z0
  go_enter Try.func27, Try.ntmps27
  go_upto_region 3 with fail
  rw [HW0.out]
  clear HW0
  have x6 := Sits.cell HS0.out 6
  have l0 := Sits.lt HS0.out
  go_upto_region 4 with (at_builtin; refine wpList_append_inN rfl _ _ rfl W0.heap.size (some ⟨W0.heap.size, 0, none⟩) 0 0 tn rfl (jo_empty _ _ _ _ rfl (Nat.le_refl _)) b n c tn rfl (Row.below HRB.out ((HB0.out).alloc (HB0.out).size _)) (by have := HNN.out; omega) (by simp) ?_; intro y cy w1 hjo hgr; have hj1 : JO W0.heap.size w1 y n cy tn := JO.congr (f := joinI tn 0 tn) (by simpa using hjo) (fun i _ => by simp [joinI]); have B1 : Below W0.heap.size W0 w1 := Below.grown (B := W0.heap.size) (a := W0) ((Below.refl _ _).alloc (Nat.le_refl _) _) hgr (by simp) (fun k e => by simp [Value.ownBlock] at e; omega); have t2 := Sits.below HS2.out B1 (Sits.lt HS2.out); have y6 := t2.cell 6; have yf := t2.frozen; have HJ1 : Hid (JO W0.heap.size w1 y n cy tn) := hj1; have HB1 : Hid (Below W0.heap.size W0 w1) := B1; clear hjo hgr hj1 B1 t2)
  obtain ⟨v1, hv1⟩ : ∃ v, w1.setCell ⟨w.heap.size + 1 + 1, 6, none⟩ (.slice y n cy) = v := ⟨_, rfl⟩
  have c1 : Chg (w.heap.size + 1 + 1) (w.heap.size + 1 + 1 + 1) w1 v1 := by rw [← hv1]; exact chg_set (Chg.refl _ _ _) (Nat.le_refl _) (Nat.lt_succ_self _) _ _
  have s0 : Sits v1 w.heap.size (shCells s a 4 ca b n c) 29 := (Sits.below HS0.out HB1.out (Sits.lt HS0.out)).chg c1 (.inl (by omega))
  have s1 : Sits v1 (w.heap.size + 1) shZero 29 := (Sits.below HS1.out HB1.out (Sits.lt HS1.out)).chg c1 (.inl (by omega))
  have s2 : Sits v1 (w.heap.size + 1 + 1) (shCells s none 0 0 y n cy) 29 := by rw [← hv1]; exact (Sits.below HS2.out HB1.out (Sits.lt HS2.out)).set 6 _
  have j1 : JO W0.heap.size v1 y n cy tn := by rw [← hv1]; exact JO.far HJ1.out (by have := HZ0.out; omega) _ _
  have bb1 : Below w.heap.size w v1 := c1.bel ((HB0.out).trans (Below.mono HB1.out (HB0.out).size)) (by omega)
  rw [hv1]
  clear hv1 c1 HS0 HS1 HS2 HJ1 HB1 y6 yf x6 l0
  have HS0 : Hid (Sits _ _ _ _) := s0
  have HS1 : Hid (Sits _ _ _ _) := s1
  have HS2 : Hid (Sits _ _ _ _) := s2
  have HJ1 : Hid (JO W0.heap.size v1 y n cy tn) := j1
  have HBV : Hid (Below w.heap.size w v1) := bb1
  obtain ⟨b3, hb3⟩ : ∃ b3, W0.heap.size = b3 := ⟨_, rfl⟩
  rw [hb3] at HJ1
  have HZ3 : Hid (b3 = w.heap.size + 1 + 1 + 1) := by show _ = _; rw [← hb3]; exact HZ0.out
  clear s0 s1 s2 j1 bb1 hb3 HB0 HZ0
  have x5 := Sits.cell HS0.out 5
  go_wp2
  go_loopw [4] (fun i wr => ∃ (k : Nat) (x : Option Addr) (cap : Nat) (A : Nat → Option Addr) (C : Nat → Nat), k ≤ 4 ∧ i = .int .i64 (k : Int) ∧ OwnI b3 wr x k cap A C L y n cy tn ∧ Sits wr w.heap.size (shCells s a 4 ca b n c) 29 ∧ Sits wr (w.heap.size + 1) shZero 29 ∧ Sits wr (w.heap.size + 1 + 1) (shCells s x k cap y n cy) 29 ∧ Below w.heap.size w wr) (fun i _ => 4 - (intOf i).toNat)
  case atStart => exact ⟨0, none, 0, fun _ => none, fun _ => 0, Nat.zero_le _, rfl, ⟨LP.nil _ _ _ _ _, fun i hi => absurd hi (Nat.not_lt_zero _), fun i hi => absurd hi (Nat.not_lt_zero _), fun i j hi => absurd hi (Nat.not_lt_zero _), HJ1.out, Off.none_left _, fun i hi => absurd hi (Nat.not_lt_zero _)⟩, HS0.out, HS1.out, HS2.out, HBV.out⟩
  case round =>
    clear HS0 HS1 HS2 HJ1 HBV x5
    obtain ⟨k, x, cap, A, C, hk, rfl, hoi, hs0, hs1, hs2, hB⟩ := hrel
    have HOI : Hid (OwnI b3 wr x k cap A C L y n cy tn) := hoi
    have HS0 : Hid (Sits wr w.heap.size (shCells s a 4 ca b n c) 29) := hs0
    have HS1 : Hid (Sits wr (w.heap.size + 1) shZero 29) := hs1
    have HS2 : Hid (Sits wr (w.heap.size + 1 + 1) (shCells s x k cap y n cy) 29) := hs2
    have HB : Hid (Below w.heap.size w wr) := hB
    have x5 := hs0.cell 5
    clear hoi hs0 hs1 hs2
    by_cases hlt : k < 4
    · obtain ⟨b1, off, rfl, hbl, hcs⟩ := LR.at HP.out hlt
      obtain ⟨p, cp, hat, hnc, hpr⟩ := hcs k hlt
      obtain ⟨c0, c1, c2, c3, c4, c5, c6, c7, c8⟩ := hat.below hB hbl
      have HPR : Hid (PR w.heap.size w p (L k).n (L k).f) := hpr
      have hnk : (L k).n ≤ 1048576 := Nat.le_trans (cntF_le L hlt) HCN.out
      have HNK : Hid ((L k).n ≤ 1048576) := hnk
      have hlti : (k : Int) < 4 := by omega
      have hws := (Sits.lt HS2.out)
      clear hcs hat hpr hnc hB
      go_upto_region 8 with fail
      obtain ⟨v, hv⟩ : ∃ v, wr.alloc (.cells (lnCells p cp (L k)) 53) = v := ⟨_, rfl⟩
      obtain ⟨q, hq⟩ : ∃ q, wr.heap.size = q := ⟨_, rfl⟩
      have sv : Sits v q (lnCells p cp (L k)) 53 := by rw [← hv, ← hq]; exact Sits.new _ _ _
      have zv : v.heap.size = q + 1 := by rw [← hv, ← hq]; simp
      have bv : Below q wr v := by rw [← hv, ← hq]; exact (Below.refl _ _).alloc (Nat.le_refl _) _
      rw [hv, hq]
      have HV : Hid (Sits v q (lnCells p cp (L k)) 53) := sv
      have HZV : Hid (v.heap.size = q + 1) := zv
      have HBV : Hid (Below q wr v) := bv
      have HQ : Hid (wr.heap.size = q) := hq
      have y0 := sv.cell 0
      have lq := sv.lt
      clear hv sv zv bv c0 c1 c2 c3 c4 c5 c6 c7 c8 x5
      have HPV : Hid (PR (v.alloc (.cells #[] 31)).heap.size (v.alloc (.cells #[] 31)) p (L k).n (L k).f) := by
        have bw : Below w.heap.size w (v.alloc (.cells #[] 31)) := ((HB.out).trans ((HBV.out).mono (by rw [← HQ.out]; exact (HB.out).size))).alloc (by have := HZV.out; have := HQ.out; have := (HB.out).size; omega) _
        exact (PR.below HPR.out bw).mono bw.size
      go_upto_region 9 with (at_builtin; refine wpList_append_pk rfl _ _ rfl v.heap.size (.slice (some ⟨v.heap.size, 0, none⟩) 0 0) rfl (pk_empty (v.alloc (.cells #[] 31)) v.heap.size v.heap.size (Nat.le_refl _) (World.alloc_heap_new v _)) p (L k).n cp (L k).f rfl HPV.out HNK.out (by simp) ?_; intro a' c' w1 hpo hgr; have B1 : Below v.heap.size v w1 := Below.grown (B := v.heap.size) (a := v) ((Below.refl _ _).alloc (Nat.le_refl _) _) hgr (by simp) (fun k e => by simp [Value.ownBlock] at e; omega); have t2 := Sits.below HV.out B1 (Sits.lt HV.out); have u0 := t2.cell 0; have uf := t2.frozen; have HPO : Hid (PO v.heap.size w1 a' (L k).n c' (L k).f) := hpo; have HB1 : Hid (Below v.heap.size v w1) := B1; have HV1 : Hid (Sits w1 q (lnCells p cp (L k)) 53) := t2; clear hpo hgr B1 t2)
      obtain ⟨v2, hv2⟩ : ∃ v2, w1.setCell ⟨q, 0, none⟩ (.slice a' (L k).n c') = v2 := ⟨_, rfl⟩
      have sl : Sits v2 q (lnCells a' c' (L k)) 53 := by rw [← hv2]; exact Sits.set HV1.out 0 _
      have po2 : PO v.heap.size v2 a' (L k).n c' (L k).f := by rw [← hv2]; exact PO.far HPO.out (by have := HZV.out; omega) _ _
      have b2 : Below q wr v2 := by rw [← hv2]; exact ((HBV.out).trans ((HB1.out).mono (by have := HZV.out; omega))).setCell (Nat.le_refl q) _
      rw [hv2]
      clear hv2 u0 uf y0 HV1 HPO HB1 HBV HV HPV
      have b2' : Below wr.heap.size wr v2 := by rw [HQ.out]; exact b2
      have t2 := Sits.below HS2.out b2' (Sits.lt HS2.out)
      have o5 := t2.cell 5
      have y0 := sl.cell 0
      have y1 := sl.cell 1
      have y2 := sl.cell 2
      have y3 := sl.cell 3
      have y4 := sl.cell 4
      have y5 := sl.cell 5
      have y6 := sl.cell 6
      have y7 := sl.cell 7
      have y8 := sl.cell 8
      obtain ⟨A', hA'⟩ : ∃ A', (fun i => if i = k then a' else A i) = A' := ⟨_, rfl⟩
      obtain ⟨C', hC'⟩ : ∃ C', (fun i => if i = k then c' else C i) = C' := ⟨_, rfl⟩
      have HA' : Hid ((fun i => if i = k then a' else A i) = A') := hA'
      have HC' : Hid ((fun i => if i = k then c' else C i) = C') := hC'
      have eA : A' k = a' := by rw [← hA']; simp
      have eC : C' k = c' := by rw [← hC']; simp
      have HLP : Hid (LP b3 (v2.alloc (.cells (lnCells a' c' (L k)) 53)) x k cap A' C' L) := by
        have h0 : LP b3 wr x k cap A' C' L := by
          have := (HOI.out).lp
          unfold LP at this ⊢
          rw [lnL_congr (A' := A') (C' := C') (L' := L) (fun i hi => ⟨by rw [← hA']; simp [Nat.ne_of_lt hi], by rw [← hC']; simp [Nat.ne_of_lt hi], rfl⟩)] at this
          exact this
        exact LP.below (LP.below h0 b2') ((Below.refl _ _).alloc (Nat.le_refl _) _)
      have HLA : Hid (LAt (v2.alloc (.cells (lnCells a' c' (L k)) 53)) v2.heap.size 0 (A' k) (C' k) (L k)) := by rw [eA, eC]; exact Sits.ln (Sits.new v2 (lnCells a' c' (L k)) 53)
      have HPO2 : Hid (PO v.heap.size v2 a' (L k).n c' (L k).f) := po2
      have HB2 : Hid (Below wr.heap.size wr v2) := b2'
      have HT2 : Hid (Sits v2 (w.heap.size + 1 + 1) (shCells s x k cap y n cy) 29) := t2
      have hb3z : b3 ≤ v2.heap.size := by have := HZ3.out; have := b2'.size; omega
      clear hA' hC' eA eC po2 b2 b2' t2 sl
      go_wp2_with (at_builtin; refine wpList_append_ln1 rfl _ _ rfl b3 x k cap A' C' L rfl HLP.out v2.heap.size rfl HLA.out (by omega) (by simp; omega) ?_; intro g cap' w3 hlp hgr hown hg; have B3 : Below b3 v2 w3 := Below.grown (B := b3) (a := v2) ((Below.refl _ v2).alloc hb3z _) hgr (by simp; omega) (fun j e => (World.ownsRow.lt HLP.out j e).1); have t3 := Sits.below HT2.out B3 (by have := HZ3.out; omega); have u5 := t3.cell 5; have uf := t3.frozen; have HT3 : Hid (Sits w3 (w.heap.size + 1 + 1) (shCells s x k cap y n cy) 29) := t3; have HB3 : Hid (Below b3 v2 w3) := B3; have HLP3 : Hid (LP b3 w3 (some ⟨g, 0, none⟩) (k + 1) cap' A' C' L) := hlp; have HGR : Hid ((v2.alloc (.cells (lnCells a' c' (L k)) 53)).grownBy w3 (Value.slice x k cap).ownBlock) := hgr; have HON : Hid ((Value.slice x k cap).ownBlock = some g ∨ g = (v2.alloc (.cells (lnCells a' c' (L k)) 53)).heap.size) := hown; clear t3 B3 hlp hgr hown)
      go_roundw
      case rel =>
        have e3 := HZ3.out
        have eq := HQ.out
        have ev := HZV.out
        have hsz := (HB2.out).size
        have keyx : ∀ j, (Value.slice x k cap).ownBlock = some j → ∃ h, x = some h ∧ h.block = j := fun j hj => by
          cases x with
          | none => cases hj
          | some h => exact ⟨h, rfl, by simpa [Value.ownBlock] using hj⟩
        have ux := (HOI.out).lp.undr
        have ab : Above wr.heap.size a' := fun u hu => by have := (HPO2.out).above u hu; omega
        have un : Undr v2.heap.size a' := (HPO2.out).under
        have po3 : PO b3 (w3.setCell ⟨w.heap.size + 1 + 1, 5, none⟩ (.slice (some ⟨g, 0, none⟩) (k + 1) cap')) a' (L k).n c' (L k).f := by
          have p1 : PO v.heap.size (v2.alloc (.cells (lnCells a' c' (L k)) 53)) a' (L k).n c' (L k).f := PO.below HPO2.out ((Below.refl _ _).alloc (Nat.le_refl _) _)
          have p2 : PO v.heap.size w3 a' (L k).n c' (L k).f := p1.keep (grown_keep HGR.out keyx p1.under (off_of ux ab).symm)
          exact (PO.far p2 (by omega) _ _).mono (by omega)
        refine ⟨k + 1, some ⟨g, 0, none⟩, cap', A', C', by omega, by go_num, ?_, ?_, ?_, Sits.set HT3.out 5 _, ?_⟩
        · rw [← HA'.out, ← HC'.out]
          refine OwnI.next (w1 := v2) HOI.out (fun j h1 h2 h3 => ?_) ab un po3 ?_ ?_ hsz
          · rw [Below.heap_setCell _ _ _ j (by show j ≠ w.heap.size + 1 + 1; omega)]
            refine ((HGR.out).block j (by simp; omega) (fun e => ?_)).trans ?_
            · obtain ⟨h, e1, e2⟩ := keyx j e.symm
              exact h3 h e1 e2.symm
            · have := ((Below.refl v2.heap.size v2).alloc (Nat.le_refl _) (.cells (lnCells a' c' (L k)) 53)).block j (by omega)
              exact this.trans ((HB2.out).block j h2)
          · rw [HA'.out, HC'.out]
            exact LP.far HLP3.out (by omega) _ _
          · rcases HON.out with e | e
            · exact .inl (keyx g e)
            · right; rw [e]; simp
        · exact ((Sits.below HS0.out HB2.out (Sits.lt HS0.out)).below HB3.out (by omega)).other (by omega) _
        · exact ((Sits.below HS1.out HB2.out (Sits.lt HS1.out)).below HB3.out (by omega)).other (by omega) _
        · exact (((HB.out).trans ((HB2.out).mono (HB.out).size)).trans ((HB3.out).mono (by omega))).setCell (show w.heap.size ≤ w.heap.size + 1 + 1 by omega) _
      case measure => simp [intOf]; omega
    · obtain rfl : k = 4 := by omega
      obtain ⟨B, rfl, hlq⟩ := LP.lq (HOI.out).lp (by omega) (HOI.out).po (HOI.out).ox (HOI.out).oo
      have x0 := Sits.cell HS2.out 0
      have x1 := Sits.cell HS2.out 1
      have x2 := Sits.cell HS2.out 2
      have x3 := Sits.cell HS2.out 3
      have x4 := Sits.cell HS2.out 4
      have z5 := Sits.cell HS2.out 5
      have x6 := Sits.cell HS2.out 6
      have y0 := Sits.cell HS1.out 0
      have y1 := Sits.cell HS1.out 1
      have y2 := Sits.cell HS1.out 2
      have y3 := Sits.cell HS1.out 3
      have y4 := Sits.cell HS1.out 4
      have y5 := Sits.cell HS1.out 5
      have y6 := Sits.cell HS1.out 6
      have yf := Sits.frozen HS1.out
      have R : Hid (Sits _ _ _ _) := (((((((Sits.set HS1.out 0 (.int .i64 s.rt)).set 1 (.int .i64 s.ov)).set 2 (.int .i64 s.nx)).set 3 (.int .i64 s.qt)).set 4 (.int .i64 s.lim)).set 5 (.slice (some ⟨B, 0, none⟩) 4 cap)).set 6 (.slice y n cy))
      clear hlq
      go_wp2
      refine bodyPost_ret (ret_sh Try.results27 rfl R.out) rfl ?_
      have e3 := HZ3.out
      have h0 : w.heap.size + 1 ≤ w.heap.size + 1 := Nat.le_refl _
      have h1 : w.heap.size + 1 < w.heap.size + 1 + 1 := Nat.lt_succ_self _
      have c9 : Chg (w.heap.size + 1) (w.heap.size + 1 + 1) wr _ := (chg_set (chg_set (chg_set (chg_set (chg_set (chg_set (chg_set (Chg.refl _ _ wr) h0 h1 0 (.int .i64 s.rt)) h0 h1 1 (.int .i64 s.ov)) h0 h1 2 (.int .i64 s.nx)) h0 h1 3 (.int .i64 s.qt)) h0 h1 4 (.int .i64 s.lim)) h0 h1 5 (.slice (some ⟨B, 0, none⟩) 4 cap)) h0 h1 6 (.slice y n cy))
      exact ⟨B, A, C, cap, y, cy, rfl, (OwnI.chg HOI.out c9 (by omega)).mono (by omega), c9.bel HB.out (by omega)⟩

end Go.Proofs.Ytmjggolllijamaa

/-
  WHAT ShapePop ANSWERS, BY NUMBERS: it is one answer, and there is one.
-/
namespace Go.Proofs.Ytmjggolllijamaa
open Go.RowKit
set_option linter.unusedVariables false

/-- May ShapePop be asked at all? -/
def mayP (s : Sh) (N : Nat) (L : Nat → Ln) (ts : List Int) (now : Int) : Bool := shB s N L ts && decide (0 ≤ now ∧ now ≤ 1000000000000)
theorem mayP_parts {s : Sh} {N : Nat} {L : Nat → Ln} {ts : List Int} {now : Int} (h : mayP s N L ts now = true) : shP s N L ts ∧ 0 ≤ now ∧ now ≤ 1000000000000 := by
  unfold mayP shB at h
  simp only [Bool.and_eq_true, decide_eq_true_eq] at h
  exact h
/-- What ShapePop answers. -/
def PopIs (s : Sh) (N : Nat) (L : Nat → Ln) (ts : List Int) (now : Int) (S1 : Sh) (N1 : Nat) (L1 : Nat → Ln) (T1 : List Int) (p1 : Pk) (ok : Bool) : Prop :=
  (mayP s N L ts now = false ∧ S1 = ⟨0, 0, 0, 0, 0⟩ ∧ N1 = 0 ∧ L1 = L ∧ T1 = [] ∧ p1 = pk0 ∧ ok = false) ∨
  (mayP s N L ts now = true ∧ noneB ts s.nx now = true ∧ S1 = s ∧ N1 = 4 ∧ L1 = L ∧ T1 = ts ∧ p1 = pk0 ∧ ok = false) ∨
  (mayP s N L ts now = true ∧ noneB ts s.nx now = false ∧ ∃ K, StopK ts s.qt (fun i => (L i).sh) K ∧ S1 = ⟨s.rt, s.ov, now + costF s ((L (popHost ts K)).f 0).size, s.qt, s.lim⟩ ∧ N1 = 4 ∧ L1 = popLn L (shK ts s.qt (fun i => (L i).sh) K) (popHost ts K) ∧ T1 = popTs L ts K ∧ p1 = (L (popHost ts K)).f 0 ∧ ok = true)
theorem PopIs.uniq {s : Sh} {N : Nat} {L : Nat → Ln} {ts : List Int} {now : Int} {S1 S2 : Sh} {N1 N2 : Nat} {L1 L2 : Nat → Ln} {T1 T2 : List Int} {p1 p2 : Pk} {ok ok' : Bool} (h : PopIs s N L ts now S1 N1 L1 T1 p1 ok) (h' : PopIs s N L ts now S2 N2 L2 T2 p2 ok') :
    S2 = S1 ∧ N2 = N1 ∧ L2 = L1 ∧ T2 = T1 ∧ p2 = p1 ∧ ok' = ok := by
  rcases h with ⟨a, rfl, rfl, rfl, rfl, rfl, rfl⟩ | ⟨a, b, rfl, rfl, rfl, rfl, rfl, rfl⟩ | ⟨a, b, K, hK, rfl, rfl, rfl, rfl, rfl, rfl⟩
  · rcases h' with ⟨c, rfl, rfl, rfl, rfl, rfl, rfl⟩ | ⟨c, _⟩ | ⟨c, _⟩
    · exact ⟨rfl, rfl, rfl, rfl, rfl, rfl⟩
    · rw [a] at c; cases c
    · rw [a] at c; cases c
  · rcases h' with ⟨c, _⟩ | ⟨c, d, rfl, rfl, rfl, rfl, rfl, rfl⟩ | ⟨c, d, _⟩
    · rw [a] at c; cases c
    · exact ⟨rfl, rfl, rfl, rfl, rfl, rfl⟩
    · rw [b] at d; cases d
  · rcases h' with ⟨c, _⟩ | ⟨c, d, _⟩ | ⟨c, d, K', hK', rfl, rfl, rfl, rfl, rfl, rfl⟩
    · rw [a] at c; cases c
    · rw [b] at d; cases d
    · obtain rfl := hK.uniq hK'
      exact ⟨rfl, rfl, rfl, rfl, rfl, rfl⟩
theorem none_no {ts : List Int} {nx now : Int} (h : noneB ts nx now = false) : ts ≠ [] ∧ ¬ now < nx := by
  unfold noneB at h
  have := of_decide_eq_false h
  exact ⟨fun e => this (.inl e), fun e => this (.inr e)⟩
theorem stop_ex {s : Sh} {L : Nat → Ln} {ts : List Int} (hs : shP s 4 L ts) (hne : ts ≠ []) : ∃ K, StopK ts s.qt (fun i => (L i).sh) K := by
  have key : ∀ m k, lackM (shK ts s.qt (fun i => (L i).sh) k) ≤ m → Past ts s.qt (fun i => (L i).sh) k → ∃ K, StopK ts s.qt (fun i => (L i).sh) K := by
    intro m
    induction m with
    | zero =>
      intro k hm hp
      obtain ⟨h, hh, h4, _⟩ := tAt_bd hs.2.2.2.1 hne k
      refine ⟨k, ?_, hp⟩
      rw [hh, Int.toNat_natCast]
      unfold lackM at hm
      have hc : h = 0 ∨ h = 1 ∨ h = 2 ∨ h = 3 := by omega
      rcases hc with rfl | rfl | rfl | rfl <;> omega
    | succ m ih =>
      intro k hm hp
      obtain ⟨h, hh, h4, _⟩ := tAt_bd hs.2.2.2.1 hne k
      by_cases hle : shK ts s.qt (fun i => (L i).sh) k h ≤ 0
      · have hl := lack_less hs.1.2.2.2.1.1 hh h4 hle
        exact ih (k + 1) (by omega) (hp.next (by rw [hh, Int.toNat_natCast]; exact hle))
      · exact ⟨k, by rw [hh, Int.toNat_natCast]; omega, hp⟩
  exact key _ 0 (Nat.le_refl _) (Past.zero _ _ _)
theorem PopIs.total (s : Sh) (N : Nat) (L : Nat → Ln) (ts : List Int) (now : Int) : ∃ (S1 : Sh) (N1 : Nat) (L1 : Nat → Ln) (T1 : List Int) (p1 : Pk) (ok : Bool), PopIs s N L ts now S1 N1 L1 T1 p1 ok := by
  cases h : mayP s N L ts now
  · exact ⟨_, _, _, _, _, _, .inl ⟨h, rfl, rfl, rfl, rfl, rfl, rfl⟩⟩
  · cases h2 : noneB ts s.nx now
    · obtain ⟨hs, _, _⟩ := mayP_parts h
      obtain rfl : N = 4 := hs.2.1
      obtain ⟨K, hK⟩ := stop_ex hs (none_no h2).1
      exact ⟨_, _, _, _, _, _, .inr (.inr ⟨h, h2, K, hK, rfl, rfl, rfl, rfl, rfl, rfl⟩)⟩
    · exact ⟨_, _, _, _, _, _, .inr (.inl ⟨h, h2, rfl, rfl, rfl, rfl, rfl, rfl⟩)⟩
theorem popLn_n (L : Nat → Ln) (sh : Nat → Int) (h i : Nat) : (popLn L sh h i).n ≤ (L i).n := by
  unfold popLn
  by_cases e : i = h
  · rw [if_pos e, e]; exact Nat.sub_le _ _
  · rw [if_neg e]; exact Nat.le_refl _
theorem popLn_cnt (L : Nat → Ln) (sh : Nat → Int) (h : Nat) : ∀ N, cntF (popLn L sh h) N ≤ cntF L N
  | 0 => Nat.le_refl _
  | N + 1 => by rw [cntF_succ, cntF_succ]; have := popLn_cnt L sh h N; have := popLn_n L sh h N; omega
theorem popTs_len (L : Nat → Ln) (ts : List Int) (K : Nat) : (popTs L ts K).length ≤ ts.length := by
  unfold popTs
  split
  · rw [List.length_drop, rotT_len]; omega
  · rw [rotT_len]; exact Nat.le_refl _
theorem PopIs.bd {s : Sh} {N : Nat} {L : Nat → Ln} {ts : List Int} {now : Int} {S1 : Sh} {N1 : Nat} {L1 : Nat → Ln} {T1 : List Int} {p1 : Pk} {ok : Bool} (h : PopIs s N L ts now S1 N1 L1 T1 p1 ok) : N1 ≤ 4 ∧ cntF L1 N1 ≤ 1048576 ∧ T1.length ≤ 1048576 := by
  have len4 : shP s 4 L ts → ts.length ≤ 4 := fun hs => by
    have h1 := (show List.Perm _ _ from hs.2.2.2.1).length_eq
    have h2 := wl_len L 4
    omega
  have cnt : shP s 4 L ts → cntF L 4 ≤ 40 := fun hs => by
    have := hs.2.2.1
    have := hs.1.2.2.2.2.2
    omega
  rcases h with ⟨a, rfl, rfl, rfl, rfl, rfl, rfl⟩ | ⟨a, b, rfl, rfl, rfl, rfl, rfl, rfl⟩ | ⟨a, b, K, hK, rfl, rfl, rfl, rfl, rfl, rfl⟩
  · exact ⟨by omega, Nat.zero_le _, Nat.zero_le _⟩
  · obtain ⟨hs, _⟩ := mayP_parts a
    obtain rfl : N = 4 := hs.2.1
    have := len4 hs
    have := cnt hs
    exact ⟨by omega, by omega, by omega⟩
  · obtain ⟨hs, _⟩ := mayP_parts a
    obtain rfl : N = 4 := hs.2.1
    have := len4 hs
    have := cnt hs
    have := popTs_len L ts K
    have := popLn_cnt L (shK ts s.qt (fun i => (L i).sh) K) (popHost ts K) 4
    exact ⟨by omega, by omega, by omega⟩

/-- A list as a sequence. -/
def seqT (l : List Int) : Nat → Int := fun i => l.getD i 0
theorem seqT_of {n : Nat} {f : Nat → Int} {l : List Int} (h : (List.range n).map f = l) : n = l.length ∧ ∀ i, i < n → f i = seqT l i := by
  subst h
  refine ⟨by simp, fun i hi => ?_⟩
  simp [seqT, List.getD, hi]

end Go.Proofs.Ytmjggolllijamaa

/-
  WHAT THE LAWS WRITE INTO LINES AND READ AGAIN: markLineS, heldLineS, markFair, heldFair.
-/
namespace Go.Proofs.Ytmjggolllijamaa
open Go.RowKit
set_option linter.unusedVariables false

/-- Packets whose numbers go up from k. -/
def upPk (k : Int) (i : Nat) : Pk := ⟨k + (i : Int) * 6, k + (i : Int) * 6 + 1, k + (i : Int) * 6 + 2, k + (i : Int) * 6 + 3, k + (i : Int) * 6 + 4, k + (i : Int) * 6 + 5⟩
theorem flat_up (k : Int) (o : Nat) : flat (upPk k) o = k + o := by
  unfold flat upPk Pk.nth
  have hm : o % 6 < 6 := Nat.mod_lt _ (by omega)
  dsimp only
  split
  · omega
  · split
    · omega
    · split
      · omega
      · split
        · omega
        · split <;> omega
/-- A line that was written from k on. -/
def upLn (k : Int) (n : Nat) : Ln := ⟨n, upPk k, k + (n : Int) * 6, ⟨k + (n : Int) * 6 + 1, k + (n : Int) * 6 + 1 + 1, k + (n : Int) * 6 + 1 + 1 + 1, k + (n : Int) * 6 + 1 + 1 + 1 + 1, k + (n : Int) * 6 + 1 + 1 + 1 + 1 + 1, k + (n : Int) * 6 + 1 + 1 + 1 + 1 + 1 + 1, ((k + (n : Int) * 6 + 1 + 1 + 1 + 1 + 1 + 1 + 1) % 3 == 0)⟩⟩
/-- Where the i-th line's numbers begin. -/
def upAt (L : Nat → Ln) (k0 : Int) (i : Nat) : Int := k0 + (cntF L i : Int) * 6 + (i : Int) * 8
def upL (L : Nat → Ln) (k0 : Int) (i : Nat) : Ln := upLn (upAt L k0 i) (L i).n
theorem upAt_succ (L : Nat → Ln) (k0 : Int) (i : Nat) : upAt L k0 (i + 1) = upAt L k0 i + ((L i).n : Int) * 6 + 8 := by unfold upAt; rw [cntF_succ]; omega

theorem setIf_same {vs : Array Value} {k : Nat} {v : Value} (hk : vs[k]? = some v) : vs.setIfInBounds k v = vs := by
  apply Array.ext
  · simp
  · intro i h1 h2
    rw [Array.getElem_setIfInBounds]
    split
    · rename_i e
      subst e
      exact ((Array.getElem?_eq_some_iff.1 hk).2).symm
    · rfl
/-- Eight cells behind a line's slice are stored. -/
theorem Sits.set8 {w : World} {B : Nat} {vs : Array Value} {t : TypeId} (h : Sits w B vs t) (o : Nat) (x : Option Addr) (c : Nat) (l : Ln) (h0 : vs[o]? = some (.slice x l.n c)) :
    Sits ((((((((w.setCell ⟨B, o + 1, none⟩ (.int .i64 l.sh)).setCell ⟨B, o + 2, none⟩ (.int .i64 l.cd.tg)).setCell ⟨B, o + 3, none⟩ (.int .i64 l.cd.iv)).setCell ⟨B, o + 4, none⟩ (.int .i64 l.cd.fi)).setCell ⟨B, o + 5, none⟩ (.int .i64 l.cd.nx)).setCell ⟨B, o + 6, none⟩ (.int .i64 l.cd.ct)).setCell ⟨B, o + 7, none⟩ (.int .i64 l.cd.la)).setCell ⟨B, o + 8, none⟩ (.bool l.cd.dr)) B (Go.Proofs.Ytmjggolllijamaa.set9 vs o x c l) t := by
  have := (((((((h.set (o + 1) (.int .i64 l.sh)).set (o + 2) (.int .i64 l.cd.tg)).set (o + 3) (.int .i64 l.cd.iv)).set (o + 4) (.int .i64 l.cd.fi)).set (o + 5) (.int .i64 l.cd.nx)).set (o + 6) (.int .i64 l.cd.ct)).set (o + 7) (.int .i64 l.cd.la)).set (o + 8) (.bool l.cd.dr)
  unfold Go.Proofs.Ytmjggolllijamaa.set9
  rw [setIf_same h0]
  exact this

/-- One line's packets were turned, and then its eight cells. -/
theorem LO.upd {base : Nat} {w w1 : World} {B N : Nat} {A : Nat → Option Addr} {C : Nat → Nat} {L : Nat → Ln} (h : LO base w B N A C L) {j : Nat} (hj : j < N) (l : Ln) (hn : l.n = (L j).n)
    (hs : w.heap.size ≤ w1.heap.size) (hblk : ∀ k, k < w.heap.size → ((L j).n = 0 ∨ ∀ g, A j = some ⟨g, 0, none⟩ → k ≠ g) → w1.heap[k]? = w.heap[k]?)
    (how : (L j).n = 0 ∨ ∃ g : Nat, A j = some ⟨g, 0, none⟩ ∧ Own .i64 w1 g (l.n * 6) (flat l.f)) :
    LO base ((((((((w1.setCell ⟨B, j * 9 + 1, none⟩ (.int .i64 l.sh)).setCell ⟨B, j * 9 + 2, none⟩ (.int .i64 l.cd.tg)).setCell ⟨B, j * 9 + 3, none⟩ (.int .i64 l.cd.iv)).setCell ⟨B, j * 9 + 4, none⟩ (.int .i64 l.cd.fi)).setCell ⟨B, j * 9 + 5, none⟩ (.int .i64 l.cd.nx)).setCell ⟨B, j * 9 + 6, none⟩ (.int .i64 l.cd.ct)).setCell ⟨B, j * 9 + 7, none⟩ (.int .i64 l.cd.la)).setCell ⟨B, j * 9 + 8, none⟩ (.bool l.cd.dr)) B N A C (fun i => if i = j then l else L i) := by
  obtain ⟨h0, ⟨vs, t, hS, h1, h2⟩, h3, h4, h5⟩ := h
  have hBne : (L j).n = 0 ∨ ∀ g, A j = some ⟨g, 0, none⟩ → B ≠ g := by
    rcases h4 j hj with e | ⟨g, ha, _, hne, _⟩
    · exact .inl e
    · refine .inr fun g' hg' => ?_
      rw [ha] at hg'
      cases hg'
      exact fun e => hne e.symm
  have hS1 : Sits w1 B vs t := (hblk B hS.lt hBne).trans hS
  have hS2 := hS1.set8 (j * 9) (A j) (C j) l (by rw [hn]; exact (h2 j hj).1)
  have c8 : ∀ k, k ≠ B → ((((((((w1.setCell ⟨B, j * 9 + 1, none⟩ (.int .i64 l.sh)).setCell ⟨B, j * 9 + 2, none⟩ (.int .i64 l.cd.tg)).setCell ⟨B, j * 9 + 3, none⟩ (.int .i64 l.cd.iv)).setCell ⟨B, j * 9 + 4, none⟩ (.int .i64 l.cd.fi)).setCell ⟨B, j * 9 + 5, none⟩ (.int .i64 l.cd.nx)).setCell ⟨B, j * 9 + 6, none⟩ (.int .i64 l.cd.ct)).setCell ⟨B, j * 9 + 7, none⟩ (.int .i64 l.cd.la)).setCell ⟨B, j * 9 + 8, none⟩ (.bool l.cd.dr)).heap[k]? = w1.heap[k]? := fun k hk => by
    rw [Below.heap_setCell _ _ _ _ hk, Below.heap_setCell _ _ _ _ hk, Below.heap_setCell _ _ _ _ hk, Below.heap_setCell _ _ _ _ hk, Below.heap_setCell _ _ _ _ hk, Below.heap_setCell _ _ _ _ hk, Below.heap_setCell _ _ _ _ hk, Below.heap_setCell _ _ _ _ hk]
  have s8 : w1.heap.size ≤ ((((((((w1.setCell ⟨B, j * 9 + 1, none⟩ (.int .i64 l.sh)).setCell ⟨B, j * 9 + 2, none⟩ (.int .i64 l.cd.tg)).setCell ⟨B, j * 9 + 3, none⟩ (.int .i64 l.cd.iv)).setCell ⟨B, j * 9 + 4, none⟩ (.int .i64 l.cd.fi)).setCell ⟨B, j * 9 + 5, none⟩ (.int .i64 l.cd.nx)).setCell ⟨B, j * 9 + 6, none⟩ (.int .i64 l.cd.ct)).setCell ⟨B, j * 9 + 7, none⟩ (.int .i64 l.cd.la)).setCell ⟨B, j * 9 + 8, none⟩ (.bool l.cd.dr)).heap.size := by simp
  refine ⟨h0, ⟨_, t, hS2, (set9_size _ _ _ _ _).trans h1, fun i hi => ?_⟩, fun i hi => ?_, fun i hi => ?_, fun i k hi hk hne e1 e2 => ?_⟩ <;> (try dsimp only at *)
  · by_cases e : i = j
    · subst e
      rw [if_pos rfl]
      exact set9_lv _ _ _ _ _ (by omega)
    · rw [if_neg e]
      exact (h2 i hi).set9 (by omega)
  · by_cases e : i = j
    · subst e
      rw [if_pos rfl, hn]
      exact h3 i hi
    · rw [if_neg e]
      exact h3 i hi
  · by_cases e : i = j
    · subst e
      rw [if_pos rfl]
      rcases how with e0 | ⟨g, ha, ho⟩
      · exact .inl (by omega)
      · rcases h4 i hi with e0 | ⟨g', ha', hg', hne', _⟩
        · exact .inl (by omega)
        · rw [ha] at ha'
          cases ha'
          exact .inr ⟨g, ha, hg', hne', own_same ho (c8 g hne') s8⟩
    · rw [if_neg e]
      rcases h4 i hi with e0 | ⟨g, ha, hg, hne, ho⟩
      · exact .inl e0
      · by_cases hz : (L i).n = 0
        · exact .inl hz
        · have hb1 : w1.heap[g]? = w.heap[g]? := hblk g ho.1 (by
            by_cases hz' : (L j).n = 0
            · exact .inl hz'
            · refine .inr fun g' hg' eg => ?_
              subst eg
              exact h5 i j hi hj e hz hz' (ha.trans hg'.symm))
          exact .inr ⟨g, ha, hg, hne, own_same (own_same ho hb1 hs) (c8 g hne) s8⟩
  · have f1 : (L i).n ≠ 0 := by by_cases e : i = j; · rw [if_pos e] at e1; rw [e, ← hn]; exact e1
                                · rw [if_neg e] at e1; exact e1
    have f2 : (L k).n ≠ 0 := by by_cases e : k = j; · rw [if_pos e] at e2; rw [e, ← hn]; exact e2
                                · rw [if_neg e] at e2; exact e2
    exact h5 i k hi hk hne f1 f2

theorem LO.at {base : Nat} {w : World} {B N : Nat} {A : Nat → Option Addr} {C : Nat → Nat} {L : Nat → Ln} (h : LO base w B N A C L) {j : Nat} (hj : j < N) : LAt w B (j * 9) (A j) (C j) (L j) := by
  obtain ⟨vs, t, hS, _, h2⟩ := h.sits
  exact (h2 j hj).at hS
theorem LO.frozen {base : Nat} {w : World} {B N : Nat} {A : Nat → Option Addr} {C : Nat → Nat} {L : Nat → Ln} (h : LO base w B N A C L) (k : Nat) : w.frozen? ⟨B, k, none⟩ = false := by
  obtain ⟨vs, t, hS, _, _⟩ := h.sits
  exact hS.frozen k
theorem LO.congr {base : Nat} {w : World} {B N : Nat} {A : Nat → Option Addr} {C : Nat → Nat} {L L' : Nat → Ln} (h : LO base w B N A C L) (e : ∀ i, i < N → L i = L' i) : LO base w B N A C L' := by
  obtain ⟨h0, ⟨vs, t, hS, h1, h2⟩, h3, h4, h5⟩ := h
  refine ⟨h0, ⟨vs, t, hS, h1, fun i hi => by rw [← e i hi]; exact h2 i hi⟩, fun i hi => by rw [← e i hi]; exact h3 i hi, fun i hi => by rw [← e i hi]; exact h4 i hi, fun i j hi hj hne h6 h7 => h5 i j hi hj hne (by rw [e i hi]; exact h6) (by rw [e j hj]; exact h7)⟩

theorem Chg.wide {L U L' U' : Nat} {w w' : World} (h : Chg L U w w') (h1 : L' ≤ L) (h2 : U ≤ U') : Chg L' U' w w' := ⟨h.os, h.tape, h.output, h.size, fun k hk hn => h.block k hk (by omega)⟩

set_option maxRecDepth 100000 in
set_option maxHeartbeats 4000000 in
theorem markLineS_lo (base up : Nat) (B N ca : Nat) (A : Nat → Option Addr) (C : Nat → Nat) (L : Nat → Ln) (k0 : Int) (w : World) (hlo : LO base w B N A C L) (hun : Under up B N A L) (hN : N ≤ 1048576) (hcn : cntF L N ≤ 1048576) (h0 : 0 ≤ k0) (h1 : k0 ≤ 1000000000) :
    Calls Try.prog 38 #[.slice (some ⟨B, 0, none⟩) N ca, .int .i64 k0] w fun e w' => e = .returned (.int .i64 (upAt L k0 N)) ∧ LO base w' B N A C (upL L k0) ∧ Chg base up w w' := by
  have HLO : Hid (LO base w B N A C L) := hlo
  have HUN : Hid (Under up B N A L) := hun
  have HC : Hid (cntF L N ≤ 1048576) := hcn
  have hNi : (N : Int) ≤ 1048576 := by omega
  clear hlo hun hN hcn
  go_enter Try.func38, Try.ntmps38
  go_wp2
  go_loopw [1, 5] (fun c i wr => ∃ j : Nat, j ≤ N ∧ i = .int .i64 j ∧ c = .int .i64 (upAt L k0 j) ∧ LO base wr B N A C (fun i => if i < j then upL L k0 i else L i) ∧ Chg base up w wr) (fun _ i _ => N - (intOf i).toNat)
  case atStart => exact ⟨0, Nat.zero_le _, rfl, by simp [upAt, cntF], LO.congr HLO.out (fun i _ => by simp), Chg.refl _ _ _⟩
  case round =>
    obtain ⟨j, hj, rfl, rfl, hlo, hch⟩ := hrel
    have HLW : Hid (LO base wr B N A C (fun i => if i < j then upL L k0 i else L i)) := hlo
    have HCH : Hid (Chg base up w wr) := hch
    clear hlo hch
    by_cases hlt : j < N
    · obtain ⟨Q, hQ⟩ : ∃ q, upAt L k0 j = q := ⟨_, rfl⟩
      have HQ : Hid (upAt L k0 j = Q) := hQ
      have hb : 0 ≤ Q ∧ Q + ((L j).n : Int) * 6 ≤ 1100000000 := by
        have e1 := cntF_mono L (show j + 1 ≤ N from hlt)
        rw [cntF_succ] at e1
        have e2 := HC.out
        rw [← hQ]; unfold upAt; omega
      obtain ⟨q0, q1⟩ := hb
      rw [hQ]
      have at0 := LO.at HLW.out hlt
      rw [if_neg (Nat.lt_irrefl j)] at at0
      obtain ⟨l, hl⟩ : ∃ l, L j = l := ⟨_, rfl⟩
      have HL : Hid (L j = l) := hl
      rw [hl] at at0 q1
      have hnl : (l.n : Int) ≤ 1048576 := by have := cntF_le L hlt; have := HC.out; rw [hl] at *; omega
      have HNL : Hid (l.n ≤ 1048576) := by show _ ≤ _; omega
      have c0 := at0.1
      obtain ⟨zl, zu, hzi, hzb⟩ : ∃ zl zu : Nat, ZI zl zu wr (A j) (l.n * 6) (flat l.f) ∧ ((l.n = 0 ∧ zl = base ∧ zu = base) ∨ (∃ g, l.n ≠ 0 ∧ A j = some ⟨g, 0, none⟩ ∧ zl = g ∧ zu = g + 1 ∧ base ≤ g ∧ g < up ∧ g ≠ B)) := by
        have how := (HLW.out).own j hlt
        rw [if_neg (Nat.lt_irrefl j), hl] at how
        by_cases hz : l.n = 0
        · exact ⟨base, base, .inl (by omega), .inl ⟨hz, rfl, rfl⟩⟩
        · rcases how with e | ⟨g, ha, hg, hne, ho⟩
          · exact absurd e hz
          · exact ⟨g, g + 1, .inr ⟨g, ha, Nat.le_refl _, Nat.lt_succ_self _, ho⟩, .inr ⟨g, hz, ha, rfl, rfl, hg, (HUN.out).2 j hlt (by rw [hl]; exact hz) _ ha, hne⟩⟩
      have HZI : Hid (ZI zl zu wr (A j) (l.n * 6) (flat l.f)) := hzi
      have HZB : Hid ((l.n = 0 ∧ zl = base ∧ zu = base) ∨ (∃ g, l.n ≠ 0 ∧ A j = some ⟨g, 0, none⟩ ∧ zl = g ∧ zu = g + 1 ∧ base ≤ g ∧ g < up ∧ g ≠ B)) := hzb
      have HAT : Hid (∀ w1, Chg zl zu wr w1 → LAt w1 B (j * 9) (A j) (C j) l ∧ ∀ k, w1.frozen? ⟨B, k, none⟩ = false) := fun w1 hc1 => by
        obtain ⟨vs, t, hS, _, h2⟩ := (HLW.out).sits
        have h2j := h2 j hlt
        rw [if_neg (Nat.lt_irrefl j), hl] at h2j
        have hS1 : Sits w1 B vs t := hS.chg hc1 (by
          have hl0 := (HLW.out).lo
          rcases HZB.out with ⟨_, e1, e2⟩ | ⟨g, _, _, e1, e2, _, _, hne⟩
          · omega
          · omega)
        exact ⟨h2j.at hS1, hS1.frozen⟩
      clear hzi hzb at0 hl hQ
      go_wp2_with (go_at_call 69; refine (markPktS_zi zl zu (A j) l.n (C j) (flat l.f) Q _ HZI.out HNL.out q0 (by omega)).mono ?_; rintro e w1 ⟨rfl, hz1, hc1⟩; obtain ⟨at1, gf⟩ := HAT.out w1 hc1; have g1 := (at1).2.1; have g2 := (at1).2.2.1; have g3 := (at1).2.2.2.1; have g4 := (at1).2.2.2.2.1; have g5 := (at1).2.2.2.2.2.1; have g6 := (at1).2.2.2.2.2.2.1; have g7 := (at1).2.2.2.2.2.2.2.1; have g8 := (at1).2.2.2.2.2.2.2.2; have HZ1 : Hid (ZI zl zu w1 (A j) (l.n * 6) (fun o => Q + o)) := hz1; have HC1 : Hid (Chg zl zu wr w1) := hc1; clear hz1 hc1 at1)
      go_roundw
      case rel =>
        have hl := HL.out
        have hsz : wr.heap.size ≤ w1.heap.size := (HC1.out).size
        have hblk : ∀ k, k < wr.heap.size → (l.n = 0 ∨ ∀ g, A j = some ⟨g, 0, none⟩ → k ≠ g) → w1.heap[k]? = wr.heap[k]? := fun k hk hor => (HC1.out).block k hk (by
          rcases HZB.out with ⟨_, e1, e2⟩ | ⟨g, hnz, ha, e1, e2, hg1, hg2, hne⟩
          · omega
          · rcases hor with e | e
            · exact absurd e hnz
            · have := e g ha
              omega)
        have hBl := (HLW.out).lo
        have hBu := (HUN.out).1
        have cz : Chg base up wr w1 := Chg.wide HC1.out (by rcases HZB.out with ⟨_, e1, e2⟩ | ⟨g, hnz, ha, e1, e2, hg1, hg2, hne⟩ <;> omega) (by rcases HZB.out with ⟨_, e1, e2⟩ | ⟨g, hnz, ha, e1, e2, hg1, hg2, hne⟩ <;> omega)
        have how : l.n = 0 ∨ ∃ g : Nat, A j = some ⟨g, 0, none⟩ ∧ Own .i64 w1 g ((upLn Q l.n).n * 6) (flat (upLn Q l.n).f) := by
          rcases HZB.out with ⟨e, _, _⟩ | ⟨g, hnz, ha, e1, e2, hg1, hg2, hne⟩
          · exact .inl e
          · rcases HZ1.out with hh | ⟨g', ha', _, _, ho⟩
            · exact .inl (by omega)
            · exact .inr ⟨g', ha', ho.congr fun o _ => (flat_up Q o).symm⟩
        have hLj : (if j < j then upL L k0 j else L j) = l := by rw [if_neg (Nat.lt_irrefl j), hl]
        have lu := LO.upd HLW.out hlt (upLn Q l.n) (show l.n = (if j < j then upL L k0 j else L j).n by rw [hLj]) hsz (show ∀ k, k < wr.heap.size → ((if j < j then upL L k0 j else L j).n = 0 ∨ ∀ g, A j = some ⟨g, 0, none⟩ → k ≠ g) → w1.heap[k]? = wr.heap[k]? by rw [hLj]; exact hblk) (show (if j < j then upL L k0 j else L j).n = 0 ∨ ∃ g : Nat, A j = some ⟨g, 0, none⟩ ∧ Own .i64 w1 g ((upLn Q l.n).n * 6) (flat (upLn Q l.n).f) by rw [hLj]; exact how)
        have hup : upL L k0 j = upLn Q l.n := by unfold upL; rw [HQ.out, hl]
        have lu2 := lu.congr (L' := fun i => if i < j + 1 then upL L k0 i else L i) (fun i hi => by
          by_cases e : i = j
          · subst e
            rw [if_pos rfl, if_pos (Nat.lt_succ_self _), hup]
          · rw [if_neg e]
            by_cases e2 : i < j
            · rw [if_pos e2, if_pos (by omega)]
            · rw [if_neg e2, if_neg (by omega)])
        have key : ∀ W, LO base W B N A C (fun i => if i < j + 1 then upL L k0 i else L i) → Chg base up wr W → ∃ j' : Nat, j' ≤ N ∧ Value.int .i64 ((j : Int) + 1) = .int .i64 (j' : Int) ∧ Value.int .i64 (Q + (l.n : Int) * 6 + 1 + 1 + 1 + 1 + 1 + 1 + 1 + 1) = .int .i64 (upAt L k0 j') ∧ LO base W B N A C (fun i => if i < j' then upL L k0 i else L i) ∧ Chg base up w W := fun W h1 h2 => ⟨j + 1, by omega, by go_num, by rw [upAt_succ, HQ.out, hl]; go_num, h1, (HCH.out).trans h2⟩
        dsimp only [upLn] at lu2
        simp only [Nat.add_assoc, Nat.reduceAdd]
        refine key _ lu2 (cz.trans ?_)
        exact chg_set (chg_set (chg_set (chg_set (chg_set (chg_set (chg_set (chg_set (Chg.refl _ _ _) hBl hBu _ _) hBl hBu _ _) hBl hBu _ _) hBl hBu _ _) hBl hBu _ _) hBl hBu _ _) hBl hBu _ _) hBl hBu _ _
      case measure => simp [intOf]; omega
    · obtain rfl : j = N := by omega
      go_wp2
      go_ret
      exact ⟨rfl, LO.congr HLW.out (fun i hi => by rw [if_pos hi]), HCH.out⟩

end Go.Proofs.Ytmjggolllijamaa

/-
  A LIST OF LINES MARKED THAT WAS APPENDED TO: as LnMark, the block may be longer than the list; and which blocks stay.
-/
namespace Go.Proofs.Ytmjggolllijamaa
open Go.RowKit
set_option linter.unusedVariables false

/-- N lines in block B that are one's own, each one's packets, too, all apart; the block may be longer. -/
structure LW (base : Nat) (w : World) (B N : Nat) (A : Nat → Option Addr) (C : Nat → Nat) (L : Nat → Ln) : Prop where
  lo : base ≤ B
  sits : ∃ vs t, Sits w B vs t ∧ N * 9 ≤ vs.size ∧ ∀ i, i < N → LV vs (i * 9) (A i) (C i) (L i)
  cap : ∀ i, i < N → (L i).n ≤ C i
  own : ∀ i, i < N → (L i).n = 0 ∨ ∃ g : Nat, A i = some ⟨g, 0, none⟩ ∧ base ≤ g ∧ g ≠ B ∧ Own .i64 w g ((L i).n * 6) (flat (L i).f)
  apart : ∀ i j, i < N → j < N → i ≠ j → (L i).n ≠ 0 → (L j).n ≠ 0 → A i ≠ A j
theorem LQ.lw {base : Nat} {w : World} {B N : Nat} {A : Nat → Option Addr} {C : Nat → Nat} {L : Nat → Ln} (h : LQ base w B N A C L) : LW base w B N A C L := by
  refine ⟨h.lo, h.sits, fun i hi => (h.own i hi).cap, fun i hi => ?_, fun i j hi hj hne h1 h2 e => ?_⟩
  · rcases (h.own i hi).zi with e | ⟨g, ha, h1, _, ho⟩
    · exact .inl (by omega)
    · exact .inr ⟨g, ha, h1, fun e => h.off i hi _ ha e, ho⟩
  · rcases (h.own i hi).zi with e0 | ⟨g, ha, _, _, _⟩
    · exact absurd e0 (by omega)
    · exact h.apart i j hi hj hne _ _ ha (e ▸ ha) rfl
theorem LW.lr {base : Nat} {w : World} {B N : Nat} {A : Nat → Option Addr} {C : Nat → Nat} {L : Nat → Ln} (h : LW base w B N A C L) : LR w.heap.size w (some ⟨B, 0, none⟩) N L := by
  obtain ⟨vs, t, hs, _, hv⟩ := h.sits
  refine .inr ⟨B, 0, rfl, hs.lt, fun i hi => ⟨A i, C i, by rw [Nat.zero_add]; exact (hv i hi).at hs, h.cap i hi, ?_⟩⟩
  rcases h.own i hi with e | ⟨g, ha, _, _, ho⟩
  · exact .inl e
  · exact .inr ⟨g, 0, ha, ho.1, fun k hk => by rw [Nat.zero_add]; exact pat_of ho hk⟩

/-- One line's packets were turned, and then its eight cells. -/
theorem LW.upd {base : Nat} {w w1 : World} {B N : Nat} {A : Nat → Option Addr} {C : Nat → Nat} {L : Nat → Ln} (h : LW base w B N A C L) {j : Nat} (hj : j < N) (l : Ln) (hn : l.n = (L j).n)
    (hs : w.heap.size ≤ w1.heap.size) (hblk : ∀ k, k < w.heap.size → ((L j).n = 0 ∨ ∀ g, A j = some ⟨g, 0, none⟩ → k ≠ g) → w1.heap[k]? = w.heap[k]?)
    (how : (L j).n = 0 ∨ ∃ g : Nat, A j = some ⟨g, 0, none⟩ ∧ Own .i64 w1 g (l.n * 6) (flat l.f)) :
    LW base ((((((((w1.setCell ⟨B, j * 9 + 1, none⟩ (.int .i64 l.sh)).setCell ⟨B, j * 9 + 2, none⟩ (.int .i64 l.cd.tg)).setCell ⟨B, j * 9 + 3, none⟩ (.int .i64 l.cd.iv)).setCell ⟨B, j * 9 + 4, none⟩ (.int .i64 l.cd.fi)).setCell ⟨B, j * 9 + 5, none⟩ (.int .i64 l.cd.nx)).setCell ⟨B, j * 9 + 6, none⟩ (.int .i64 l.cd.ct)).setCell ⟨B, j * 9 + 7, none⟩ (.int .i64 l.cd.la)).setCell ⟨B, j * 9 + 8, none⟩ (.bool l.cd.dr)) B N A C (fun i => if i = j then l else L i) := by
  obtain ⟨h0, ⟨vs, t, hS, h1, h2⟩, h3, h4, h5⟩ := h
  have hBne : (L j).n = 0 ∨ ∀ g, A j = some ⟨g, 0, none⟩ → B ≠ g := by
    rcases h4 j hj with e | ⟨g, ha, _, hne, _⟩
    · exact .inl e
    · refine .inr fun g' hg' => ?_
      rw [ha] at hg'
      cases hg'
      exact fun e => hne e.symm
  have hS1 : Sits w1 B vs t := (hblk B hS.lt hBne).trans hS
  have hS2 := hS1.set8 (j * 9) (A j) (C j) l (by rw [hn]; exact (h2 j hj).1)
  have c8 : ∀ k, k ≠ B → ((((((((w1.setCell ⟨B, j * 9 + 1, none⟩ (.int .i64 l.sh)).setCell ⟨B, j * 9 + 2, none⟩ (.int .i64 l.cd.tg)).setCell ⟨B, j * 9 + 3, none⟩ (.int .i64 l.cd.iv)).setCell ⟨B, j * 9 + 4, none⟩ (.int .i64 l.cd.fi)).setCell ⟨B, j * 9 + 5, none⟩ (.int .i64 l.cd.nx)).setCell ⟨B, j * 9 + 6, none⟩ (.int .i64 l.cd.ct)).setCell ⟨B, j * 9 + 7, none⟩ (.int .i64 l.cd.la)).setCell ⟨B, j * 9 + 8, none⟩ (.bool l.cd.dr)).heap[k]? = w1.heap[k]? := fun k hk => by
    rw [Below.heap_setCell _ _ _ _ hk, Below.heap_setCell _ _ _ _ hk, Below.heap_setCell _ _ _ _ hk, Below.heap_setCell _ _ _ _ hk, Below.heap_setCell _ _ _ _ hk, Below.heap_setCell _ _ _ _ hk, Below.heap_setCell _ _ _ _ hk, Below.heap_setCell _ _ _ _ hk]
  have s8 : w1.heap.size ≤ ((((((((w1.setCell ⟨B, j * 9 + 1, none⟩ (.int .i64 l.sh)).setCell ⟨B, j * 9 + 2, none⟩ (.int .i64 l.cd.tg)).setCell ⟨B, j * 9 + 3, none⟩ (.int .i64 l.cd.iv)).setCell ⟨B, j * 9 + 4, none⟩ (.int .i64 l.cd.fi)).setCell ⟨B, j * 9 + 5, none⟩ (.int .i64 l.cd.nx)).setCell ⟨B, j * 9 + 6, none⟩ (.int .i64 l.cd.ct)).setCell ⟨B, j * 9 + 7, none⟩ (.int .i64 l.cd.la)).setCell ⟨B, j * 9 + 8, none⟩ (.bool l.cd.dr)).heap.size := by simp
  refine ⟨h0, ⟨_, t, hS2, by rw [set9_size]; exact h1, fun i hi => ?_⟩, fun i hi => ?_, fun i hi => ?_, fun i k hi hk hne e1 e2 => ?_⟩ <;> (try dsimp only at *)
  · by_cases e : i = j
    · subst e
      rw [if_pos rfl]
      exact set9_lv _ _ _ _ _ (by omega)
    · rw [if_neg e]
      exact (h2 i hi).set9 (by omega)
  · by_cases e : i = j
    · subst e
      rw [if_pos rfl, hn]
      exact h3 i hi
    · rw [if_neg e]
      exact h3 i hi
  · by_cases e : i = j
    · subst e
      rw [if_pos rfl]
      rcases how with e0 | ⟨g, ha, ho⟩
      · exact .inl (by omega)
      · rcases h4 i hi with e0 | ⟨g', ha', hg', hne', _⟩
        · exact .inl (by omega)
        · rw [ha] at ha'
          cases ha'
          exact .inr ⟨g, ha, hg', hne', own_same ho (c8 g hne') s8⟩
    · rw [if_neg e]
      rcases h4 i hi with e0 | ⟨g, ha, hg, hne, ho⟩
      · exact .inl e0
      · by_cases hz : (L i).n = 0
        · exact .inl hz
        · have hb1 : w1.heap[g]? = w.heap[g]? := hblk g ho.1 (by
            by_cases hz' : (L j).n = 0
            · exact .inl hz'
            · refine .inr fun g' hg' eg => ?_
              subst eg
              exact h5 i j hi hj e hz hz' (ha.trans hg'.symm))
          exact .inr ⟨g, ha, hg, hne, own_same (own_same ho hb1 hs) (c8 g hne) s8⟩
  · have f1 : (L i).n ≠ 0 := by by_cases e : i = j; · rw [if_pos e] at e1; rw [e, ← hn]; exact e1
                                · rw [if_neg e] at e1; exact e1
    have f2 : (L k).n ≠ 0 := by by_cases e : k = j; · rw [if_pos e] at e2; rw [e, ← hn]; exact e2
                                · rw [if_neg e] at e2; exact e2
    exact h5 i k hi hk hne f1 f2

theorem LW.at {base : Nat} {w : World} {B N : Nat} {A : Nat → Option Addr} {C : Nat → Nat} {L : Nat → Ln} (h : LW base w B N A C L) {j : Nat} (hj : j < N) : LAt w B (j * 9) (A j) (C j) (L j) := by
  obtain ⟨vs, t, hS, _, h2⟩ := h.sits
  exact (h2 j hj).at hS
theorem LW.frozen {base : Nat} {w : World} {B N : Nat} {A : Nat → Option Addr} {C : Nat → Nat} {L : Nat → Ln} (h : LW base w B N A C L) (k : Nat) : w.frozen? ⟨B, k, none⟩ = false := by
  obtain ⟨vs, t, hS, _, _⟩ := h.sits
  exact hS.frozen k
theorem LW.congr {base : Nat} {w : World} {B N : Nat} {A : Nat → Option Addr} {C : Nat → Nat} {L L' : Nat → Ln} (h : LW base w B N A C L) (e : ∀ i, i < N → L i = L' i) : LW base w B N A C L' := by
  obtain ⟨h0, ⟨vs, t, hS, h1, h2⟩, h3, h4, h5⟩ := h
  refine ⟨h0, ⟨vs, t, hS, h1, fun i hi => by rw [← e i hi]; exact h2 i hi⟩, fun i hi => by rw [← e i hi]; exact h3 i hi, fun i hi => by rw [← e i hi]; exact h4 i hi, fun i j hi hj hne h6 h7 => h5 i j hi hj hne (by rw [e i hi]; exact h6) (by rw [e j hj]; exact h7)⟩

set_option maxRecDepth 100000 in
set_option maxHeartbeats 4000000 in
theorem markLineS_lw (base up : Nat) (B N ca : Nat) (A : Nat → Option Addr) (C : Nat → Nat) (L : Nat → Ln) (k0 : Int) (w : World) (hlo : LW base w B N A C L) (hun : Under up B N A L) (hN : N ≤ 1048576) (hcn : cntF L N ≤ 1048576) (h0 : 0 ≤ k0) (h1 : k0 ≤ 1000000000) :
    Calls Try.prog 38 #[.slice (some ⟨B, 0, none⟩) N ca, .int .i64 k0] w fun e w' => e = .returned (.int .i64 (upAt L k0 N)) ∧ LW base w' B N A C (upL L k0) ∧ Chg base up w w' ∧ (∀ k, k < w.heap.size → k ≠ B → (∀ i, i < N → (L i).n ≠ 0 → A i ≠ some ⟨k, 0, none⟩) → w'.heap[k]? = w.heap[k]?) := by
  have HLO : Hid (LW base w B N A C L) := hlo
  have HUN : Hid (Under up B N A L) := hun
  have HC : Hid (cntF L N ≤ 1048576) := hcn
  have hNi : (N : Int) ≤ 1048576 := by omega
  clear hlo hun hN hcn
  go_enter Try.func38, Try.ntmps38
  go_wp2
  go_loopw [1, 5] (fun c i wr => ∃ j : Nat, j ≤ N ∧ i = .int .i64 j ∧ c = .int .i64 (upAt L k0 j) ∧ LW base wr B N A C (fun i => if i < j then upL L k0 i else L i) ∧ Chg base up w wr ∧ (∀ k, k < w.heap.size → k ≠ B → (∀ i, i < N → (L i).n ≠ 0 → A i ≠ some ⟨k, 0, none⟩) → wr.heap[k]? = w.heap[k]?)) (fun _ i _ => N - (intOf i).toNat)
  case atStart => exact ⟨0, Nat.zero_le _, rfl, by simp [upAt, cntF], LW.congr HLO.out (fun i _ => by simp), Chg.refl _ _ _, fun _ _ _ _ => rfl⟩
  case round =>
    obtain ⟨j, hj, rfl, rfl, hlo, hch, hkp⟩ := hrel
    have HKP : Hid (∀ k, k < w.heap.size → k ≠ B → (∀ i, i < N → (L i).n ≠ 0 → A i ≠ some ⟨k, 0, none⟩) → wr.heap[k]? = w.heap[k]?) := hkp
    have HLW : Hid (LW base wr B N A C (fun i => if i < j then upL L k0 i else L i)) := hlo
    have HCH : Hid (Chg base up w wr) := hch
    clear hlo hch hkp
    by_cases hlt : j < N
    · obtain ⟨Q, hQ⟩ : ∃ q, upAt L k0 j = q := ⟨_, rfl⟩
      have HQ : Hid (upAt L k0 j = Q) := hQ
      have hb : 0 ≤ Q ∧ Q + ((L j).n : Int) * 6 ≤ 1100000000 := by
        have e1 := cntF_mono L (show j + 1 ≤ N from hlt)
        rw [cntF_succ] at e1
        have e2 := HC.out
        rw [← hQ]; unfold upAt; omega
      obtain ⟨q0, q1⟩ := hb
      rw [hQ]
      have at0 := LW.at HLW.out hlt
      rw [if_neg (Nat.lt_irrefl j)] at at0
      obtain ⟨l, hl⟩ : ∃ l, L j = l := ⟨_, rfl⟩
      have HL : Hid (L j = l) := hl
      rw [hl] at at0 q1
      have hnl : (l.n : Int) ≤ 1048576 := by have := cntF_le L hlt; have := HC.out; rw [hl] at *; omega
      have HNL : Hid (l.n ≤ 1048576) := by show _ ≤ _; omega
      have c0 := at0.1
      obtain ⟨zl, zu, hzi, hzb⟩ : ∃ zl zu : Nat, ZI zl zu wr (A j) (l.n * 6) (flat l.f) ∧ ((l.n = 0 ∧ zl = base ∧ zu = base) ∨ (∃ g, l.n ≠ 0 ∧ A j = some ⟨g, 0, none⟩ ∧ zl = g ∧ zu = g + 1 ∧ base ≤ g ∧ g < up ∧ g ≠ B)) := by
        have how := (HLW.out).own j hlt
        rw [if_neg (Nat.lt_irrefl j), hl] at how
        by_cases hz : l.n = 0
        · exact ⟨base, base, .inl (by omega), .inl ⟨hz, rfl, rfl⟩⟩
        · rcases how with e | ⟨g, ha, hg, hne, ho⟩
          · exact absurd e hz
          · exact ⟨g, g + 1, .inr ⟨g, ha, Nat.le_refl _, Nat.lt_succ_self _, ho⟩, .inr ⟨g, hz, ha, rfl, rfl, hg, (HUN.out).2 j hlt (by rw [hl]; exact hz) _ ha, hne⟩⟩
      have HZI : Hid (ZI zl zu wr (A j) (l.n * 6) (flat l.f)) := hzi
      have HZB : Hid ((l.n = 0 ∧ zl = base ∧ zu = base) ∨ (∃ g, l.n ≠ 0 ∧ A j = some ⟨g, 0, none⟩ ∧ zl = g ∧ zu = g + 1 ∧ base ≤ g ∧ g < up ∧ g ≠ B)) := hzb
      have HAT : Hid (∀ w1, Chg zl zu wr w1 → LAt w1 B (j * 9) (A j) (C j) l ∧ ∀ k, w1.frozen? ⟨B, k, none⟩ = false) := fun w1 hc1 => by
        obtain ⟨vs, t, hS, _, h2⟩ := (HLW.out).sits
        have h2j := h2 j hlt
        rw [if_neg (Nat.lt_irrefl j), hl] at h2j
        have hS1 : Sits w1 B vs t := hS.chg hc1 (by
          have hl0 := (HLW.out).lo
          rcases HZB.out with ⟨_, e1, e2⟩ | ⟨g, _, _, e1, e2, _, _, hne⟩
          · omega
          · omega)
        exact ⟨h2j.at hS1, hS1.frozen⟩
      clear hzi hzb at0 hl hQ
      go_wp2_with (go_at_call 69; refine (markPktS_zi zl zu (A j) l.n (C j) (flat l.f) Q _ HZI.out HNL.out q0 (by omega)).mono ?_; rintro e w1 ⟨rfl, hz1, hc1⟩; obtain ⟨at1, gf⟩ := HAT.out w1 hc1; have g1 := (at1).2.1; have g2 := (at1).2.2.1; have g3 := (at1).2.2.2.1; have g4 := (at1).2.2.2.2.1; have g5 := (at1).2.2.2.2.2.1; have g6 := (at1).2.2.2.2.2.2.1; have g7 := (at1).2.2.2.2.2.2.2.1; have g8 := (at1).2.2.2.2.2.2.2.2; have HZ1 : Hid (ZI zl zu w1 (A j) (l.n * 6) (fun o => Q + o)) := hz1; have HC1 : Hid (Chg zl zu wr w1) := hc1; clear hz1 hc1 at1)
      go_roundw
      case rel =>
        have hl := HL.out
        have hsz : wr.heap.size ≤ w1.heap.size := (HC1.out).size
        have hblk : ∀ k, k < wr.heap.size → (l.n = 0 ∨ ∀ g, A j = some ⟨g, 0, none⟩ → k ≠ g) → w1.heap[k]? = wr.heap[k]? := fun k hk hor => (HC1.out).block k hk (by
          rcases HZB.out with ⟨_, e1, e2⟩ | ⟨g, hnz, ha, e1, e2, hg1, hg2, hne⟩
          · omega
          · rcases hor with e | e
            · exact absurd e hnz
            · have := e g ha
              omega)
        have hBl := (HLW.out).lo
        have hBu := (HUN.out).1
        have cz : Chg base up wr w1 := Chg.wide HC1.out (by rcases HZB.out with ⟨_, e1, e2⟩ | ⟨g, hnz, ha, e1, e2, hg1, hg2, hne⟩ <;> omega) (by rcases HZB.out with ⟨_, e1, e2⟩ | ⟨g, hnz, ha, e1, e2, hg1, hg2, hne⟩ <;> omega)
        have how : l.n = 0 ∨ ∃ g : Nat, A j = some ⟨g, 0, none⟩ ∧ Own .i64 w1 g ((upLn Q l.n).n * 6) (flat (upLn Q l.n).f) := by
          rcases HZB.out with ⟨e, _, _⟩ | ⟨g, hnz, ha, e1, e2, hg1, hg2, hne⟩
          · exact .inl e
          · rcases HZ1.out with hh | ⟨g', ha', _, _, ho⟩
            · exact .inl (by omega)
            · exact .inr ⟨g', ha', ho.congr fun o _ => (flat_up Q o).symm⟩
        have hLj : (if j < j then upL L k0 j else L j) = l := by rw [if_neg (Nat.lt_irrefl j), hl]
        have lu := LW.upd HLW.out hlt (upLn Q l.n) (show l.n = (if j < j then upL L k0 j else L j).n by rw [hLj]) hsz (show ∀ k, k < wr.heap.size → ((if j < j then upL L k0 j else L j).n = 0 ∨ ∀ g, A j = some ⟨g, 0, none⟩ → k ≠ g) → w1.heap[k]? = wr.heap[k]? by rw [hLj]; exact hblk) (show (if j < j then upL L k0 j else L j).n = 0 ∨ ∃ g : Nat, A j = some ⟨g, 0, none⟩ ∧ Own .i64 w1 g ((upLn Q l.n).n * 6) (flat (upLn Q l.n).f) by rw [hLj]; exact how)
        have hup : upL L k0 j = upLn Q l.n := by unfold upL; rw [HQ.out, hl]
        have lu2 := lu.congr (L' := fun i => if i < j + 1 then upL L k0 i else L i) (fun i hi => by
          by_cases e : i = j
          · subst e
            rw [if_pos rfl, if_pos (Nat.lt_succ_self _), hup]
          · rw [if_neg e]
            by_cases e2 : i < j
            · rw [if_pos e2, if_pos (by omega)]
            · rw [if_neg e2, if_neg (by omega)])
        have key : ∀ W, LW base W B N A C (fun i => if i < j + 1 then upL L k0 i else L i) → Chg base up wr W → (∀ k, k ≠ B → W.heap[k]? = w1.heap[k]?) → ∃ j' : Nat, j' ≤ N ∧ Value.int .i64 ((j : Int) + 1) = .int .i64 (j' : Int) ∧ Value.int .i64 (Q + (l.n : Int) * 6 + 1 + 1 + 1 + 1 + 1 + 1 + 1 + 1) = .int .i64 (upAt L k0 j') ∧ LW base W B N A C (fun i => if i < j' then upL L k0 i else L i) ∧ Chg base up w W ∧ (∀ k, k < w.heap.size → k ≠ B → (∀ i, i < N → (L i).n ≠ 0 → A i ≠ some ⟨k, 0, none⟩) → W.heap[k]? = w.heap[k]?) := fun W h1 h2 h3 => ⟨j + 1, by omega, by go_num, by rw [upAt_succ, HQ.out, hl]; go_num, h1, (HCH.out).trans h2, fun k hk hne hA => ((h3 k hne).trans (hblk k (Nat.lt_of_lt_of_le hk (HCH.out).size) (by
          by_cases hz : l.n = 0
          · exact .inl hz
          · exact .inr fun g hg e => hA j hlt (by rw [hl]; exact hz) (by rw [hg, e])))).trans (HKP.out k hk hne hA)⟩
        dsimp only [upLn] at lu2
        simp only [Nat.add_assoc, Nat.reduceAdd]
        refine key _ lu2 (cz.trans ?_) (fun k hk => by rw [Below.heap_setCell _ _ _ _ hk, Below.heap_setCell _ _ _ _ hk, Below.heap_setCell _ _ _ _ hk, Below.heap_setCell _ _ _ _ hk, Below.heap_setCell _ _ _ _ hk, Below.heap_setCell _ _ _ _ hk, Below.heap_setCell _ _ _ _ hk, Below.heap_setCell _ _ _ _ hk])
        exact chg_set (chg_set (chg_set (chg_set (chg_set (chg_set (chg_set (chg_set (Chg.refl _ _ _) hBl hBu _ _) hBl hBu _ _) hBl hBu _ _) hBl hBu _ _) hBl hBu _ _) hBl hBu _ _) hBl hBu _ _) hBl hBu _ _
      case measure => simp [intOf]; omega
    · obtain rfl : j = N := by omega
      go_wp2
      go_ret
      exact ⟨rfl, LW.congr HLW.out (fun i hi => by rw [if_pos hi]), HCH.out, HKP.out⟩

end Go.Proofs.Ytmjggolllijamaa

/-
  WHAT THE LAWS READ AGAIN OF LINES: heldLineS, heldFair; markFair.
-/
namespace Go.Proofs.Ytmjggolllijamaa
open Go.RowKit
set_option linter.unusedVariables false

set_option maxRecDepth 100000 in
set_option maxHeartbeats 4000000 in
theorem heldLineS_any (a : Option Addr) (N ca : Nat) (L : Nat → Ln) (k0 : Int) (w : World) (hP : LR w.heap.size w a N (upL L k0)) (hN : N ≤ 1048576) (hcn : cntF L N ≤ 1048576) (h0 : 0 ≤ k0) (h1 : k0 ≤ 1000000000) :
    Calls Try.prog 40 #[.slice a N ca, .int .i64 k0] w fun e w' => e = .returned (.int .i64 (upAt L k0 N)) ∧ w' = w := by
  have HP : Hid (LR w.heap.size w a N (upL L k0)) := hP
  have HC : Hid (cntF L N ≤ 1048576) := hcn
  have hNi : (N : Int) ≤ 1048576 := by omega
  clear hP hN hcn
  go_enter Try.func40, Try.ntmps40
  go_wp2
  go_loop [1, 5] (fun c i => ∃ j : Nat, j ≤ N ∧ i = .int .i64 j ∧ c = .int .i64 (upAt L k0 j)) (fun _ i => N - (intOf i).toNat)
  case atStart => exact ⟨0, Nat.zero_le _, rfl, by simp [upAt, cntF]⟩
  case round =>
    obtain ⟨j, hj, rfl, rfl⟩ := hrel
    by_cases hlt : j < N
    · obtain ⟨b, off, rfl, hbl, hcs⟩ := LR.at HP.out hlt
      obtain ⟨x, c, hat, hnc, hpr⟩ := hcs j hlt
      obtain ⟨Q, hQ⟩ : ∃ q, upAt L k0 j = q := ⟨_, rfl⟩
      have HQ : Hid (upAt L k0 j = Q) := hQ
      obtain ⟨n, hn⟩ : ∃ n, (L j).n = n := ⟨_, rfl⟩
      have HNN : Hid ((L j).n = n) := hn
      have hb : 0 ≤ Q ∧ Q + (n : Int) * 6 ≤ 1100000000 ∧ n ≤ 1048576 := by
        have e1 := cntF_mono L (show j + 1 ≤ N from hlt)
        rw [cntF_succ] at e1
        have e2 := HC.out
        rw [← hQ, ← hn]; unfold upAt; omega
      obtain ⟨q0, q1, q2⟩ := hb
      unfold upL at hat hpr
      rw [hQ, hn] at hat hpr
      rw [hQ]
      obtain ⟨c0, c1, c2, c3, c4, c5, c6, c7, c8⟩ := hat
      dsimp only [upLn] at c0 c1 c2 c3 c4 c5 c6 c7 c8
      have HRW : Hid (Row .i64 w x (n * 6) (fun o => Q + o)) := by
        rcases hpr with e | ⟨b', off', ha, hlt', hp⟩
        · exact .inl (by have e' : n = 0 := e; omega)
        · refine .inr ⟨b', off', ha, hlt', fun o ho => ?_⟩
          have hp' := hp (o / 6) (show o / 6 < n by omega)
          have hm : o % 6 < 6 := Nat.mod_lt _ (by omega)
          obtain ⟨p0, p1, p2, p3, p4, p5⟩ := hp'
          have ho' : off' + o = off' + o / 6 * 6 + o % 6 := by omega
          have hc : o % 6 = 0 ∨ o % 6 = 1 ∨ o % 6 = 2 ∨ o % 6 = 3 ∨ o % 6 = 4 ∨ o % 6 = 5 := by omega
          have hq : ∀ t : Nat, o % 6 = t → Q + ((o / 6 : Nat) : Int) * 6 + t = Q + o := fun t ht => by omega
          rw [ho']
          show w.cell? _ = some (.int .i64 (Q + o))
          rcases hc with e | e | e | e | e | e <;> rw [e, ← hq _ e]
          · simpa [upLn, upPk] using p0
          · exact p1
          · exact p2
          · exact p3
          · exact p4
          · exact p5
      have HN2 : Hid (n ≤ 1048576) := q2
      clear hcs hpr hQ hn q2
      go_wp2_with (go_at_call 70; refine (heldPktS_any x n c Q _ HRW.out HN2.out q0 (by omega)).mono ?_; rintro e w1 ⟨rfl, hw1⟩; replace hw1 := hw1.symm; subst hw1)
      go_round
      case rel => exact ⟨j + 1, by omega, by go_num, by rw [upAt_succ, HQ.out, HNN.out]; go_num⟩
      case measure => simp [intOf]; omega
    · obtain rfl : j = N := by omega
      go_wp2
      go_ret
      exact ⟨rfl, rfl⟩

theorem markLineS_nil (a : Option Addr) (ca : Nat) (k0 : Int) (w : World) :
    Calls Try.prog 38 #[.slice a 0 ca, .int .i64 k0] w fun e w' => e = .returned (.int .i64 k0) ∧ w' = w := by
  go_enter Try.func38, Try.ntmps38
  go_wp2
  go_loop [1, 5] (fun c i => i = .int .i64 0 ∧ c = .int .i64 k0) (fun _ i => 0)
  case atStart => exact ⟨rfl, rfl⟩
  case round =>
    obtain ⟨rfl, rfl⟩ := hrel
    go_wp2
    go_ret
    exact ⟨rfl, rfl⟩

theorem markIntS_nil (a : Option Addr) (ca : Nat) (k0 : Int) (w : World) (h0 : 0 ≤ k0) (h1 : k0 ≤ 1099511627776) :
    Calls Try.prog 39 #[.slice a 0 ca, .int .i64 k0] w fun e w' => e = .returned (.int .i64 k0) ∧ Chg 0 0 w w' := by
  refine (markIntS_zi 0 0 a 0 ca (fun _ => 0) k0 w (.inl rfl) (by omega) h0 h1).mono ?_
  rintro e w' ⟨rfl, _, hc⟩
  exact ⟨ret_int (by simp), hc⟩
theorem Chg.none {w w' : World} (h : Chg 0 0 w w') : Below w.heap.size w w' := ⟨h.os, h.tape, h.output, h.size, fun k hk => h.block k hk (by omega)⟩

end Go.Proofs.Ytmjggolllijamaa

/-
  MARKS OF A SHAPE WHOSE LISTS ARE NOT EMPTY: markShape, heldShape.
-/
namespace Go.Proofs.Ytmjggolllijamaa
open Go.RowKit
set_option linter.unusedVariables false

theorem LW.keep {base : Nat} {w w' : World} {B N : Nat} {A : Nat → Option Addr} {C : Nat → Nat} {L : Nat → Ln} (h : LW base w B N A C L) (hB : w'.heap[B]? = w.heap[B]?) (hk : ∀ i, i < N → (L i).n ≠ 0 → ∀ g : Nat, A i = some ⟨g, 0, none⟩ → w'.heap[g]? = w.heap[g]?) (hs : w.heap.size ≤ w'.heap.size) : LW base w' B N A C L := by
  obtain ⟨h0, ⟨vs, t, hS, h1, h2⟩, h3, h4, h5⟩ := h
  refine ⟨h0, ⟨vs, t, hB.trans hS, h1, h2⟩, h3, fun i hi => ?_, h5⟩
  by_cases hz : (L i).n = 0
  · exact .inl hz
  · rcases h4 i hi with e | ⟨g, ha, hg, hne, ho⟩
    · exact .inl e
    · exact .inr ⟨g, ha, hg, hne, own_same ho (hk i hi hz g ha) hs⟩
theorem LW.lt {base : Nat} {w : World} {B N : Nat} {A : Nat → Option Addr} {C : Nat → Nat} {L : Nat → Ln} (h : LW base w B N A C L) : B < w.heap.size := by
  obtain ⟨vs, t, hs, _⟩ := h.sits
  exact hs.lt
theorem LW.lt2 {base : Nat} {w : World} {B N : Nat} {A : Nat → Option Addr} {C : Nat → Nat} {L : Nat → Ln} (h : LW base w B N A C L) {i : Nat} (hi : i < N) (hz : (L i).n ≠ 0) {g : Nat} (ha : A i = some ⟨g, 0, none⟩) : g < w.heap.size ∧ base ≤ g := by
  rcases h.own i hi with e | ⟨g', ha', hg, _, ho⟩
  · exact absurd e hz
  · rw [ha] at ha'; cases ha'; exact ⟨ho.1, hg⟩
theorem LW.under {base : Nat} {w : World} {B N : Nat} {A : Nat → Option Addr} {C : Nat → Nat} {L : Nat → Ln} (h : LW base w B N A C L) : Under w.heap.size B N A L := by
  refine ⟨h.lt, fun i hi hn p hp => ?_⟩
  rcases h.own i hi with e | ⟨g, ha, _, _, ho⟩
  · exact absurd e hn
  · rw [ha] at hp; cases hp; exact ho.1
theorem LW.below {base : Nat} {w w' : World} {B N : Nat} {A : Nat → Option Addr} {C : Nat → Nat} {L : Nat → Ln} (h : LW base w B N A C L) (hb : Below w.heap.size w w') : LW base w' B N A C L :=
  h.keep (hb.block B h.lt) (fun i hi hz g ha => hb.block g (h.lt2 hi hz ha).1) hb.size
theorem LO.lw {base : Nat} {w : World} {B N : Nat} {A : Nat → Option Addr} {C : Nat → Nat} {L : Nat → Ln} (h : LO base w B N A C L) : LW base w B N A C L := by
  obtain ⟨h0, ⟨vs, t, hS, h1, h2⟩, h3, h4, h5⟩ := h
  exact ⟨h0, ⟨vs, t, hS, by omega, h2⟩, h3, h4, h5⟩

/-- A Shape's lists, all one's own, all apart. -/
def MK (base : Nat) (w : World) (B N : Nat) (A : Nat → Option Addr) (C : Nat → Nat) (L : Nat → Ln) (y : Option Addr) (n : Nat) (tn : Nat → Int) : Prop :=
  LW base w B N A C L ∧ (n = 0 ∨ ∃ Y : Nat, y = some ⟨Y, 0, none⟩ ∧ base ≤ Y ∧ Y ≠ B ∧ (∀ i, i < N → (L i).n ≠ 0 → A i ≠ some ⟨Y, 0, none⟩) ∧ Own .i64 w Y n tn)
theorem MK.of_lq {base : Nat} {w : World} {B N : Nat} {A : Nat → Option Addr} {C : Nat → Nat} {L : Nat → Ln} {y : Option Addr} {n cy : Nat} {tn : Nat → Int} (h : LQ base w B N A C L) (ht : TQ base w y n cy tn B N A) : MK base w B N A C L y n tn := by
  refine ⟨h.lw, ?_⟩
  rcases ht.1.zi with e | ⟨Y, ha, h1, _, ho⟩
  · exact .inl e
  · exact .inr ⟨Y, ha, h1, fun e => ht.2.1 _ ha e, fun i hi _ e => ht.2.2 i hi _ _ e ha rfl, ho⟩
theorem MK.of_so {base : Nat} {w : World} {B N : Nat} {A : Nat → Option Addr} {C : Nat → Nat} {L : Nat → Ln} {y : Option Addr} {n : Nat} {tn : Nat → Int} (h : SO base w B A C N L y n tn) : MK base w B N A C L y n tn := by
  obtain ⟨h0, m1, h1, h2, h3⟩ := h
  refine ⟨h0.lw, ?_⟩
  rcases h3 with e | ⟨Y, ha, h5, _, ho⟩
  · exact .inl e
  · exact .inr ⟨Y, ha, by omega, by have := h2.1; omega, fun i hi hz e => by have := h2.2 i hi hz _ e; simp at this; omega, ho⟩
theorem MK.row {base : Nat} {w : World} {B N : Nat} {A : Nat → Option Addr} {C : Nat → Nat} {L : Nat → Ln} {y : Option Addr} {n : Nat} {tn : Nat → Int} (h : MK base w B N A C L y n tn) : Row .i64 w y n tn := by
  rcases h.2 with e | ⟨Y, ha, h1, _, _, ho⟩
  · exact .inl e
  · exact ZI.row (L := Y) (U := Y + 1) (.inr ⟨Y, ha, Nat.le_refl _, Nat.lt_succ_self _, ho⟩)
theorem MK.below {base : Nat} {w w' : World} {B N : Nat} {A : Nat → Option Addr} {C : Nat → Nat} {L : Nat → Ln} {y : Option Addr} {n : Nat} {tn : Nat → Int} (h : MK base w B N A C L y n tn) (hb : Below w.heap.size w w') : MK base w' B N A C L y n tn := by
  refine ⟨h.1.below hb, ?_⟩
  rcases h.2 with e | ⟨Y, ha, h1, h2, h3, ho⟩
  · exact .inl e
  · exact .inr ⟨Y, ha, h1, h2, h3, own_same ho (hb.block Y ho.1) hb.size⟩

set_option maxHeartbeats 1000000 in
/-- markShape, whatever its lists. -/
theorem markShape_mk (base : Nat) (s : Sh) (B N ca : Nat) (y : Option Addr) (n cy : Nat) (A : Nat → Option Addr) (C : Nat → Nat) (L : Nat → Ln) (tn : Nat → Int) (k0 : Int) (w : World) (hmk : MK base w B N A C L y n tn) (hN : N ≤ 1048576) (hcn : cntF L N ≤ 1048576) (hn : n ≤ 1048576) (h0 : 0 ≤ k0) (h1 : k0 ≤ 1000000000) :
    Calls Try.prog 12 #[shVal s (some ⟨B, 0, none⟩) N ca y n cy, .int .i64 k0] w fun e w' => e = .returned (.int .i64 (upAt L k0 N + n)) ∧ MK base w' B N A C (upL L k0) y n (fun i => upAt L k0 N + i) ∧ Chg base w.heap.size w w' := by
  obtain ⟨hlw, hy⟩ := hmk
  have HLW : Hid (LW base w B N A C L) := hlw
  have HUN : Hid (Under w.heap.size B N A L) := hlw.under
  have HY : Hid (n = 0 ∨ ∃ Y : Nat, y = some ⟨Y, 0, none⟩ ∧ base ≤ Y ∧ Y ≠ B ∧ (∀ i, i < N → (L i).n ≠ 0 → A i ≠ some ⟨Y, 0, none⟩) ∧ Own .i64 w Y n tn) := hy
  have HC : Hid (cntF L N ≤ 1048576) := hcn
  have HN : Hid (N ≤ 1048576) := hN
  have HNN : Hid (n ≤ 1048576) := hn
  obtain ⟨Q, hQ⟩ : ∃ q, upAt L k0 N = q := ⟨_, rfl⟩
  have hb : 0 ≤ Q ∧ Q ≤ 1099511627776 := by rw [← hQ]; unfold upAt; omega
  obtain ⟨q0, q1⟩ := hb
  rw [hQ]
  have HQ : Hid (upAt L k0 N = Q) := hQ
  clear hlw hy hcn hN hn hQ
  obtain ⟨W0, hW0⟩ : ∃ W, w.alloc (.cells (shCells s (some ⟨B, 0, none⟩) N ca y n cy) 29) = W := ⟨_, rfl⟩
  have s0 : Sits W0 w.heap.size (shCells s (some ⟨B, 0, none⟩) N ca y n cy) 29 := by rw [← hW0]; exact Sits.new _ _ _
  have b0 : Below w.heap.size w W0 := by rw [← hW0]; exact (Below.refl _ w).alloc (Nat.le_refl _) _
  have HW0 : Hid (w.alloc (.cells (shCells s (some ⟨B, 0, none⟩) N ca y n cy) 29) = W0) := hW0
  have HB0 : Hid (Below w.heap.size w W0) := b0
  have HS0 : Hid (Sits W0 w.heap.size (shCells s (some ⟨B, 0, none⟩) N ca y n cy) 29) := s0
  have x2 := s0.cell 5
  clear s0 b0 hW0
  go_enter Try.func12, Try.ntmps12
  go_upto_region 1 with fail
  rw [HW0.out]
  clear HW0
  go_upto_region 2 with (go_at_call 38; refine (markLineS_lw base w.heap.size B N ca A C L k0 _ (LW.below HLW.out HB0.out) HUN.out HN.out HC.out h0 h1).mono ?_; rintro e w1 ⟨rfl, lo1, c1, k1⟩; rw [HQ.out]; have HLW1 : Hid (LW base w1 B N A C (upL L k0)) := lo1; have HC1 : Hid (Chg base w.heap.size W0 w1) := c1; have HK1 : Hid (∀ k, k < W0.heap.size → k ≠ B → (∀ i, i < N → (L i).n ≠ 0 → A i ≠ some ⟨k, 0, none⟩) → w1.heap[k]? = W0.heap[k]?) := k1; have s1 := Sits.chg HS0.out c1 (.inr (Nat.le_refl _)); have x3 := s1.cell 6; have HS1 : Hid (Sits w1 w.heap.size (shCells s (some ⟨B, 0, none⟩) N ca y n cy) 29) := s1; clear lo1 c1 s1 k1)
  have HY1 : Hid (n = 0 ∨ ∃ Y : Nat, y = some ⟨Y, 0, none⟩ ∧ base ≤ Y ∧ Y ≠ B ∧ (∀ i, i < N → (L i).n ≠ 0 → A i ≠ some ⟨Y, 0, none⟩) ∧ Y < w.heap.size ∧ Own .i64 w1 Y n tn) := by
    rcases HY.out with e | ⟨Y, ha, hg, hne, hA, ho⟩
    · exact .inl e
    · refine .inr ⟨Y, ha, hg, hne, hA, ho.1, ?_⟩
      exact own_same (own_same ho ((HB0.out).block Y ho.1) (HB0.out).size) (HK1.out Y (Nat.lt_of_lt_of_le ho.1 (HB0.out).size) hne hA) (HC1.out).size
  obtain ⟨zl, zu, hzi, hzb⟩ : ∃ zl zu : Nat, ZI zl zu w1 y n tn ∧ ((n = 0 ∧ zl = base ∧ zu = base) ∨ (∃ Y, y = some ⟨Y, 0, none⟩ ∧ zl = Y ∧ zu = Y + 1 ∧ base ≤ Y ∧ Y < w.heap.size ∧ Y ≠ B ∧ ∀ i, i < N → (L i).n ≠ 0 → A i ≠ some ⟨Y, 0, none⟩)) := by
    rcases HY1.out with e | ⟨Y, ha, hg, hne, hA, hlt, ho⟩
    · exact ⟨base, base, .inl e, .inl ⟨e, rfl, rfl⟩⟩
    · exact ⟨Y, Y + 1, .inr ⟨Y, ha, Nat.le_refl _, Nat.lt_succ_self _, ho⟩, .inr ⟨Y, ha, rfl, rfl, hg, hlt, hne, hA⟩⟩
  have HZI : Hid (ZI zl zu w1 y n tn) := hzi
  have HZB : Hid ((n = 0 ∧ zl = base ∧ zu = base) ∨ (∃ Y, y = some ⟨Y, 0, none⟩ ∧ zl = Y ∧ zu = Y + 1 ∧ base ≤ Y ∧ Y < w.heap.size ∧ Y ≠ B ∧ ∀ i, i < N → (L i).n ≠ 0 → A i ≠ some ⟨Y, 0, none⟩)) := hzb
  clear hzi hzb
  go_wp2_with (go_at_call 39; refine (markIntS_zi zl zu y n cy tn Q _ HZI.out HNN.out q0 q1).mono ?_; rintro e w2 ⟨rfl, z2, c2⟩; have HZ2 : Hid (ZI zl zu w2 y n (fun i => Q + i)) := z2; have HC2 : Hid (Chg zl zu w1 w2) := c2; clear z2 c2)
  go_ret
  have hlB := (LW.lt HLW1.out)
  refine ⟨rfl, ⟨LW.keep HLW1.out ?_ (fun i hi hz g ha => ?_) (HC2.out).size, ?_⟩, ((Chg.of_below HB0.out).trans HC1.out).trans (Chg.wide HC2.out ?_ ?_)⟩
  · refine (HC2.out).block B hlB ?_
    rcases HZB.out with ⟨_, e1, e2⟩ | ⟨Y, _, e1, e2, _, _, hne, _⟩ <;> omega
  · refine (HC2.out).block g ((LW.lt2 HLW1.out hi hz ha).1) ?_
    rcases HZB.out with ⟨_, e1, e2⟩ | ⟨Y, _, e1, e2, _, _, hne, hA⟩
    · omega
    · have : g ≠ Y := fun e => hA i hi hz (by rw [ha, e])
      omega
  · rcases HZB.out with ⟨e, _, _⟩ | ⟨Y, ha, e1, e2, hg, hlt, hne, hA⟩
    · exact .inl e
    · rcases HZ2.out with e | ⟨Y', ha', _, _, ho⟩
      · exact .inl e
      · rw [ha] at ha'; cases ha'
        exact .inr ⟨Y, ha, hg, hne, hA, ho⟩
  · rcases HZB.out with ⟨_, e1, e2⟩ | ⟨Y, _, e1, e2, hg, hlt, _, _⟩ <;> omega
  · have hbB := (HLW.out).lo
    have hBu := (HLW.out).lt
    rcases HZB.out with ⟨_, e1, e2⟩ | ⟨Y, _, e1, e2, hg, hlt, _, _⟩ <;> omega

set_option maxHeartbeats 1000000 in
/-- heldShape, whatever its lists. -/
theorem heldShape_mk (s : Sh) (a : Option Addr) (N ca : Nat) (y : Option Addr) (n cy : Nat) (L : Nat → Ln) (k0 : Int) (w : World) (hP : LR w.heap.size w a N (upL L k0)) (hR : Row .i64 w y n (fun i => upAt L k0 N + i)) (hN : N ≤ 1048576) (hcn : cntF L N ≤ 1048576) (hn : n ≤ 1048576) (h0 : 0 ≤ k0) (h1 : k0 ≤ 1000000000) :
    Calls Try.prog 13 #[shVal s a N ca y n cy, .int .i64 k0] w fun e w' => e = .returned (.int .i64 (upAt L k0 N + n)) ∧ Below w.heap.size w w' := by
  have HP : Hid (LR w.heap.size w a N (upL L k0)) := hP
  have HC : Hid (cntF L N ≤ 1048576) := hcn
  have HN : Hid (N ≤ 1048576) := hN
  have HNN : Hid (n ≤ 1048576) := hn
  obtain ⟨Q, hQ⟩ : ∃ q, upAt L k0 N = q := ⟨_, rfl⟩
  have hb : 0 ≤ Q ∧ Q ≤ 1099511627776 := by rw [← hQ]; unfold upAt; omega
  obtain ⟨q0, q1⟩ := hb
  rw [hQ] at hR ⊢
  have HR : Hid (Row .i64 w y n (fun i => Q + i)) := hR
  have HQ : Hid (upAt L k0 N = Q) := hQ
  have qn : ¬ Q < 0 := by omega
  have qm : ¬ Q + (n : Int) < 0 := by omega
  clear hP hcn hN hQ hR hn
  obtain ⟨W0, hW0⟩ : ∃ W, w.alloc (.cells (shCells s a N ca y n cy) 29) = W := ⟨_, rfl⟩
  have s0 : Sits W0 w.heap.size (shCells s a N ca y n cy) 29 := by rw [← hW0]; exact Sits.new _ _ _
  have b0 : Below w.heap.size w W0 := by rw [← hW0]; exact (Below.refl _ w).alloc (Nat.le_refl _) _
  have HW0 : Hid (w.alloc (.cells (shCells s a N ca y n cy) 29) = W0) := hW0
  have HB0 : Hid (Below w.heap.size w W0) := b0
  have HS0 : Hid (Sits W0 w.heap.size (shCells s a N ca y n cy) 29) := s0
  have x2 := s0.cell 5
  have x3 := s0.cell 6
  clear s0 b0 hW0
  go_enter Try.func13, Try.ntmps13
  go_upto_region 1 with fail
  rw [HW0.out]
  clear HW0
  go_upto_region 4 with (go_at_call 40; refine (heldLineS_any a N ca L k0 _ (LR.go HP.out HB0.out (HB0.out).size) HN.out HC.out h0 h1).mono ?_; rintro e w1 ⟨rfl, hw1⟩; replace hw1 := hw1.symm; subst hw1; rw [HQ.out])
  go_wp2_with (go_at_call 41; refine (heldIntS_any y n cy Q _ (Row.below HR.out HB0.out) HNN.out q0 q1).mono ?_; rintro e w2 ⟨rfl, b2⟩; have HB2 : Hid (Below w.heap.size w w2) := (HB0.out).trans (b2.mono (HB0.out).size); clear b2)
  go_ret
  exact ⟨rfl, HB2.out⟩

end Go.Proofs.Ytmjggolllijamaa

/-
  MARKS OF A SHAPE WHOSE TURNS BEGIN SOMEWHERE WITHIN A BLOCK: markIntS, markShape, heldShape; the lists of an answer between two bounds.
-/
namespace Go.Proofs.Ytmjggolllijamaa
open Go.RowKit
set_option linter.unusedVariables false

/-- n numbers from o on in block B, which may be written. -/
def OwnO (w : World) (B o n : Nat) (f : Nat → Int) : Prop := B < w.heap.size ∧ ∀ i, i < n → w.cell? ⟨B, o + i, none⟩ = some (.int .i64 (f i)) ∧ w.frozen? ⟨B, o + i, none⟩ = false
theorem OwnO.of {w : World} {B n : Nat} {f : Nat → Int} (h : Own .i64 w B n f) : OwnO w B 0 n f := ⟨h.1, fun i hi => by rw [Nat.zero_add]; exact h.2 i hi⟩
theorem OwnO.congr {w : World} {B o n : Nat} {f g : Nat → Int} (h : OwnO w B o n f) (e : ∀ i, i < n → f i = g i) : OwnO w B o n g := ⟨h.1, fun i hi => by rw [← e i hi]; exact h.2 i hi⟩
theorem OwnO.same {w w' : World} {B o n : Nat} {f : Nat → Int} (h : OwnO w B o n f) (hb : w'.heap[B]? = w.heap[B]?) (hs : w.heap.size ≤ w'.heap.size) : OwnO w' B o n f :=
  ⟨Nat.lt_of_lt_of_le h.1 hs, fun i hi => ⟨(World.cell?_of_block (w := w) (a := ⟨B, o + i, none⟩) hb).trans (h.2 i hi).1, (World.frozen?_of_block (w := w) (a := ⟨B, o + i, none⟩) hb).trans (h.2 i hi).2⟩⟩
theorem OwnO.set {w : World} {B o n : Nat} {f : Nat → Int} (h : OwnO w B o n f) (j : Nat) (hj : j < n) (x : Int) : OwnO (w.setCell ⟨B, o + j, none⟩ (.int .i64 x)) B o n (fun i => if i = j then x else f i) := by
  refine ⟨by simpa [World.setCell] using h.1, fun i hi => ⟨?_, ?_⟩⟩
  · by_cases e : i = j
    · subst e
      have := (h.2 i hj).1
      simp [go_sem, this]
    · have := (h.2 i hi).1
      simp [go_sem, e, this]
  · rw [World.frozen?_setCell]; exact (h.2 i hi).2
theorem OwnO.row {w : World} {B o n : Nat} {f : Nat → Int} (h : OwnO w B o n f) : Row .i64 w (some ⟨B, o, none⟩) n f := .inr ⟨B, o, rfl, h.1, fun i hi => (h.2 i hi).1⟩
/-- .. in a zone. -/
def ZO (L U : Nat) (w : World) (a : Option Addr) (m : Nat) (g : Nat → Int) : Prop := m = 0 ∨ ∃ B o : Nat, a = some ⟨B, o, none⟩ ∧ L ≤ B ∧ B < U ∧ OwnO w B o m g

set_option maxHeartbeats 400000 in
theorem markIntS_zo (L U : Nat) (a : Option Addr) (n ca : Nat) (g : Nat → Int) (k0 : Int) (w : World) (ho : ZO L U w a n g) (hn : n ≤ 1048576) (h0 : 0 ≤ k0) (h1 : k0 ≤ 1099511627776) :
    Calls Try.prog 39 #[.slice a n ca, .int .i64 k0] w fun e w' => e = .returned (.int .i64 (k0 + n)) ∧ ZO L U w' a n (fun i => k0 + i) ∧ Chg L U w w' := by
  rcases ho with rfl | ⟨B, o, rfl, hL, hU, ho⟩
  · go_enter Try.func39, Try.ntmps39
    go_wp2
    go_loop [1, 5] (fun c i => i = .int .i64 0 ∧ c = .int .i64 k0) (fun _ i => 0)
    case atStart => exact ⟨rfl, rfl⟩
    case round =>
      obtain ⟨rfl, rfl⟩ := hrel
      go_wp2
      go_ret
      exact ⟨ret_int (by omega), .inl rfl, Chg.refl _ _ _⟩
  · have HO : Hid _ := ho
    clear ho
    go_enter Try.func39, Try.ntmps39
    go_wp2
    go_loopw [1, 5] (fun c i wr => ∃ k : Nat, k ≤ n ∧ i = .int .i64 k ∧ c = .int .i64 (k0 + k) ∧ Chg L U w wr ∧ OwnO wr B o n (fun j => if j < k then k0 + j else g j)) (fun _ i _ => n - (intOf i).toNat)
    case atStart => exact ⟨0, Nat.zero_le _, rfl, by simp, Chg.refl _ _ _, OwnO.congr HO.out fun i _ => by simp⟩
    case round =>
      obtain ⟨k, hk, rfl, rfl, hb, ho⟩ := hrel
      have HO : Hid (OwnO wr B o n (fun j => if j < k then k0 + j else g j)) := ho
      have HB : Hid (Chg L U w wr) := hb
      have hB := ho.1
      by_cases hlt : k < n
      · obtain ⟨c2, c3⟩ := ho.2 k hlt
        clear ho hb
        go_wp2
        go_roundw
        case rel =>
          refine ⟨k + 1, by omega, by go_num, by go_num, chg_set HB.out hL hU _ _, (OwnO.set HO.out k hlt (k0 + k)).congr fun i hi => ?_⟩
          by_cases e : i = k <;> simp [e] <;> split <;> first | rfl | omega
        case measure => simp [intOf]; omega
      · obtain rfl : k = n := by omega
        clear ho hb
        go_wp2
        go_ret
        exact ⟨rfl, .inr ⟨B, o, rfl, hL, hU, OwnO.congr HO.out fun i hi => by simp [hi]⟩, HB.out⟩

/-- A Shape's lists, all one's own, all apart; its turns begin somewhere in their block. -/
def MO (base : Nat) (w : World) (B N : Nat) (A : Nat → Option Addr) (C : Nat → Nat) (L : Nat → Ln) (y : Option Addr) (n : Nat) (tn : Nat → Int) : Prop :=
  LW base w B N A C L ∧ (n = 0 ∨ ∃ Y o : Nat, y = some ⟨Y, o, none⟩ ∧ base ≤ Y ∧ Y ≠ B ∧ (∀ i, i < N → (L i).n ≠ 0 → A i ≠ some ⟨Y, 0, none⟩) ∧ OwnO w Y o n tn)
theorem MO.of_mk {base : Nat} {w : World} {B N : Nat} {A : Nat → Option Addr} {C : Nat → Nat} {L : Nat → Ln} {y : Option Addr} {n : Nat} {tn : Nat → Int} (h : MK base w B N A C L y n tn) : MO base w B N A C L y n tn := by
  refine ⟨h.1, ?_⟩
  rcases h.2 with e | ⟨Y, ha, h1, h2, h3, ho⟩
  · exact .inl e
  · exact .inr ⟨Y, 0, ha, h1, h2, h3, OwnO.of ho⟩
theorem MO.row {base : Nat} {w : World} {B N : Nat} {A : Nat → Option Addr} {C : Nat → Nat} {L : Nat → Ln} {y : Option Addr} {n : Nat} {tn : Nat → Int} (h : MO base w B N A C L y n tn) : Row .i64 w y n tn := by
  rcases h.2 with e | ⟨Y, o, rfl, h1, _, _, ho⟩
  · exact .inl e
  · exact ho.row
theorem MO.congr {base : Nat} {w : World} {B N : Nat} {A : Nat → Option Addr} {C : Nat → Nat} {L : Nat → Ln} {y : Option Addr} {n : Nat} {f g : Nat → Int} (h : MO base w B N A C L y n f) (e : ∀ i, i < n → f i = g i) : MO base w B N A C L y n g := by
  refine ⟨h.1, ?_⟩
  rcases h.2 with e0 | ⟨Y, o, ha, h1, h2, h3, ho⟩
  · exact .inl e0
  · exact .inr ⟨Y, o, ha, h1, h2, h3, ho.congr e⟩
theorem MO.keep {base : Nat} {w w' : World} {B N : Nat} {A : Nat → Option Addr} {C : Nat → Nat} {L : Nat → Ln} {y : Option Addr} {n : Nat} {tn : Nat → Int} (h : MO base w B N A C L y n tn) (hB : w'.heap[B]? = w.heap[B]?) (hk : ∀ i, i < N → (L i).n ≠ 0 → ∀ g : Nat, A i = some ⟨g, 0, none⟩ → w'.heap[g]? = w.heap[g]?) (hy : ∀ Y o : Nat, n ≠ 0 → y = some ⟨Y, o, none⟩ → w'.heap[Y]? = w.heap[Y]?) (hs : w.heap.size ≤ w'.heap.size) : MO base w' B N A C L y n tn := by
  refine ⟨h.1.keep hB hk hs, ?_⟩
  by_cases hn : n = 0
  · exact .inl hn
  · rcases h.2 with e | ⟨Y, o, ha, h1, h2, h3, ho⟩
    · exact .inl e
    · exact .inr ⟨Y, o, ha, h1, h2, h3, ho.same (hy Y o hn ha) hs⟩

set_option maxHeartbeats 1000000 in
/-- markShape, whatever its lists: nothing turns at `up` or above. -/
theorem markShape_mo (base up : Nat) (s : Sh) (B N ca : Nat) (y : Option Addr) (n cy : Nat) (A : Nat → Option Addr) (C : Nat → Nat) (L : Nat → Ln) (tn : Nat → Int) (k0 : Int) (w : World) (hmk : MO base w B N A C L y n tn) (hun : Under up B N A L) (hyu : ∀ Y o : Nat, n ≠ 0 → y = some ⟨Y, o, none⟩ → Y < up) (hup : up ≤ w.heap.size) (hN : N ≤ 1048576) (hcn : cntF L N ≤ 1048576) (hn : n ≤ 1048576) (h0 : 0 ≤ k0) (h1 : k0 ≤ 1000000000) :
    Calls Try.prog 12 #[shVal s (some ⟨B, 0, none⟩) N ca y n cy, .int .i64 k0] w fun e w' => e = .returned (.int .i64 (upAt L k0 N + n)) ∧ MO base w' B N A C (upL L k0) y n (fun i => upAt L k0 N + i) ∧ Chg base up w w' := by
  obtain ⟨hlw, hy⟩ := hmk
  have HLW : Hid (LW base w B N A C L) := hlw
  have HUN : Hid (Under up B N A L) := hun
  have HYU : Hid (∀ Y o : Nat, n ≠ 0 → y = some ⟨Y, o, none⟩ → Y < up) := hyu
  have HUP : Hid (up ≤ w.heap.size) := hup
  have HY : Hid (n = 0 ∨ ∃ Y o : Nat, y = some ⟨Y, o, none⟩ ∧ base ≤ Y ∧ Y ≠ B ∧ (∀ i, i < N → (L i).n ≠ 0 → A i ≠ some ⟨Y, 0, none⟩) ∧ OwnO w Y o n tn) := hy
  have HC : Hid (cntF L N ≤ 1048576) := hcn
  have HN : Hid (N ≤ 1048576) := hN
  have HNN : Hid (n ≤ 1048576) := hn
  obtain ⟨Q, hQ⟩ : ∃ q, upAt L k0 N = q := ⟨_, rfl⟩
  have hb : 0 ≤ Q ∧ Q ≤ 1099511627776 := by rw [← hQ]; unfold upAt; omega
  obtain ⟨q0, q1⟩ := hb
  rw [hQ]
  have HQ : Hid (upAt L k0 N = Q) := hQ
  clear hlw hy hcn hN hn hQ hun hyu hup
  obtain ⟨W0, hW0⟩ : ∃ W, w.alloc (.cells (shCells s (some ⟨B, 0, none⟩) N ca y n cy) 29) = W := ⟨_, rfl⟩
  have s0 : Sits W0 w.heap.size (shCells s (some ⟨B, 0, none⟩) N ca y n cy) 29 := by rw [← hW0]; exact Sits.new _ _ _
  have b0 : Below w.heap.size w W0 := by rw [← hW0]; exact (Below.refl _ w).alloc (Nat.le_refl _) _
  have HW0 : Hid (w.alloc (.cells (shCells s (some ⟨B, 0, none⟩) N ca y n cy) 29) = W0) := hW0
  have HB0 : Hid (Below w.heap.size w W0) := b0
  have HS0 : Hid (Sits W0 w.heap.size (shCells s (some ⟨B, 0, none⟩) N ca y n cy) 29) := s0
  have x2 := s0.cell 5
  clear s0 b0 hW0
  go_enter Try.func12, Try.ntmps12
  go_upto_region 1 with fail
  rw [HW0.out]
  clear HW0
  go_upto_region 2 with (go_at_call 38; refine (markLineS_lw base up B N ca A C L k0 _ (LW.below HLW.out HB0.out) HUN.out HN.out HC.out h0 h1).mono ?_; rintro e w1 ⟨rfl, lo1, c1, k1⟩; rw [HQ.out]; have HLW1 : Hid (LW base w1 B N A C (upL L k0)) := lo1; have HC1 : Hid (Chg base up W0 w1) := c1; have HK1 : Hid (∀ k, k < W0.heap.size → k ≠ B → (∀ i, i < N → (L i).n ≠ 0 → A i ≠ some ⟨k, 0, none⟩) → w1.heap[k]? = W0.heap[k]?) := k1; have s1 := Sits.chg HS0.out c1 (.inr HUP.out); have x3 := s1.cell 6; have HS1 : Hid (Sits w1 w.heap.size (shCells s (some ⟨B, 0, none⟩) N ca y n cy) 29) := s1; clear lo1 c1 s1 k1)
  have HY1 : Hid (n = 0 ∨ ∃ Y o : Nat, y = some ⟨Y, o, none⟩ ∧ base ≤ Y ∧ Y ≠ B ∧ (∀ i, i < N → (L i).n ≠ 0 → A i ≠ some ⟨Y, 0, none⟩) ∧ Y < w.heap.size ∧ OwnO w1 Y o n tn) := by
    rcases HY.out with e | ⟨Y, o, ha, hg, hne, hA, ho⟩
    · exact .inl e
    · refine .inr ⟨Y, o, ha, hg, hne, hA, ho.1, ?_⟩
      exact (ho.same ((HB0.out).block Y ho.1) (HB0.out).size).same (HK1.out Y (Nat.lt_of_lt_of_le ho.1 (HB0.out).size) hne hA) (HC1.out).size
  obtain ⟨zl, zu, hzi, hzb⟩ : ∃ zl zu : Nat, ZO zl zu w1 y n tn ∧ ((n = 0 ∧ zl = base ∧ zu = base) ∨ (∃ Y o, y = some ⟨Y, o, none⟩ ∧ zl = Y ∧ zu = Y + 1 ∧ base ≤ Y ∧ Y < up ∧ Y ≠ B ∧ ∀ i, i < N → (L i).n ≠ 0 → A i ≠ some ⟨Y, 0, none⟩)) := by
    rcases HY1.out with e | ⟨Y, o, ha, hg, hne, hA, hlt, ho⟩
    · exact ⟨base, base, .inl e, .inl ⟨e, rfl, rfl⟩⟩
    · by_cases hn0 : n = 0
      · exact ⟨base, base, .inl hn0, .inl ⟨hn0, rfl, rfl⟩⟩
      · exact ⟨Y, Y + 1, .inr ⟨Y, o, ha, Nat.le_refl _, Nat.lt_succ_self _, ho⟩, .inr ⟨Y, o, ha, rfl, rfl, hg, HYU.out Y o hn0 ha, hne, hA⟩⟩
  have HZI : Hid (ZO zl zu w1 y n tn) := hzi
  have HZB : Hid ((n = 0 ∧ zl = base ∧ zu = base) ∨ (∃ Y o, y = some ⟨Y, o, none⟩ ∧ zl = Y ∧ zu = Y + 1 ∧ base ≤ Y ∧ Y < up ∧ Y ≠ B ∧ ∀ i, i < N → (L i).n ≠ 0 → A i ≠ some ⟨Y, 0, none⟩)) := hzb
  clear hzi hzb
  go_wp2_with (go_at_call 39; refine (markIntS_zo zl zu y n cy tn Q _ HZI.out HNN.out q0 q1).mono ?_; rintro e w2 ⟨rfl, z2, c2⟩; have HZ2 : Hid (ZO zl zu w2 y n (fun i => Q + i)) := z2; have HC2 : Hid (Chg zl zu w1 w2) := c2; clear z2 c2)
  go_ret
  have hlB := (LW.lt HLW1.out)
  refine ⟨rfl, ⟨LW.keep HLW1.out ?_ (fun i hi hz g ha => ?_) (HC2.out).size, ?_⟩, ((Chg.of_below HB0.out).trans HC1.out).trans (Chg.wide HC2.out ?_ ?_)⟩
  · refine (HC2.out).block B hlB ?_
    rcases HZB.out with ⟨_, e1, e2⟩ | ⟨Y, _, _, e1, e2, _, _, hne, _⟩ <;> omega
  · refine (HC2.out).block g ((LW.lt2 HLW1.out hi hz ha).1) ?_
    rcases HZB.out with ⟨_, e1, e2⟩ | ⟨Y, _, _, e1, e2, _, _, hne, hA⟩
    · omega
    · have : g ≠ Y := fun e => hA i hi hz (by rw [ha, e])
      omega
  · rcases HZB.out with ⟨e, _, _⟩ | ⟨Y, o, ha, e1, e2, hg, hlt, hne, hA⟩
    · exact .inl e
    · rcases HZ2.out with e | ⟨Y', o', ha', _, _, ho⟩
      · exact .inl e
      · rw [ha] at ha'; cases ha'
        exact .inr ⟨Y, o, ha, hg, hne, hA, ho⟩
  · rcases HZB.out with ⟨_, e1, e2⟩ | ⟨Y, _, _, e1, e2, hg, hlt, _, _⟩ <;> omega
  · have hbB := (HLW.out).lo
    have hBu := (HUN.out).1
    rcases HZB.out with ⟨_, e1, e2⟩ | ⟨Y, _, _, e1, e2, hg, hlt, _, _⟩ <;> omega

/-- The lists of an answer, one's own and apart, or none. -/
def MO0 (base : Nat) (w : World) (x : Option Addr) (N : Nat) (L : Nat → Ln) (y : Option Addr) (n : Nat) (tn : Nat → Int) : Prop :=
  (N = 0 ∧ n = 0) ∨ ∃ (B : Nat) (A : Nat → Option Addr) (C : Nat → Nat), x = some ⟨B, 0, none⟩ ∧ MO base w B N A C L y n tn
theorem MO0.lr {base : Nat} {w : World} {x : Option Addr} {N : Nat} {L : Nat → Ln} {y : Option Addr} {n : Nat} {tn : Nat → Int} (h : MO0 base w x N L y n tn) : LR w.heap.size w x N L := by
  rcases h with ⟨h, _⟩ | ⟨B, A, C, rfl, h⟩
  · exact .inl h
  · exact h.1.lr
theorem MO0.row {base : Nat} {w : World} {x : Option Addr} {N : Nat} {L : Nat → Ln} {y : Option Addr} {n : Nat} {tn : Nat → Int} (h : MO0 base w x N L y n tn) : Row .i64 w y n tn := by
  rcases h with ⟨_, h⟩ | ⟨B, A, C, rfl, h⟩
  · exact .inl h
  · exact h.row
theorem MO0.keep {base : Nat} {w w' : World} {x : Option Addr} {N : Nat} {L : Nat → Ln} {y : Option Addr} {n : Nat} {tn : Nat → Int} (h : MO0 base w x N L y n tn) (hk : ∀ k, base ≤ k → k < w.heap.size → w'.heap[k]? = w.heap[k]?) (hs : w.heap.size ≤ w'.heap.size) : MO0 base w' x N L y n tn := by
  rcases h with h | ⟨B, A, C, e, h⟩
  · exact .inl h
  · refine .inr ⟨B, A, C, e, h.keep (hk B h.1.lo h.1.lt) (fun i hi hz g ha => hk g (h.1.lt2 hi hz ha).2 (h.1.lt2 hi hz ha).1) (fun Y o hn ha => ?_) hs⟩
    rcases h.2 with e | ⟨Y', o', ha', h1, h2, h3, ho⟩
    · exact absurd e hn
    · rw [ha] at ha'; cases ha'; exact hk Y h1 ho.1
theorem MO0.below {base : Nat} {w w' : World} {x : Option Addr} {N : Nat} {L : Nat → Ln} {y : Option Addr} {n : Nat} {tn : Nat → Int} (h : MO0 base w x N L y n tn) (hb : Below w.heap.size w w') : MO0 base w' x N L y n tn :=
  h.keep (fun k _ hk => hb.block k hk) hb.size
theorem MO0.mono {base base' : Nat} {w : World} {x : Option Addr} {N : Nat} {L : Nat → Ln} {y : Option Addr} {n : Nat} {tn : Nat → Int} (h : MO0 base w x N L y n tn) (hb : base' ≤ base) : MO0 base' w x N L y n tn := by
  rcases h with h | ⟨B, A, C, e, h1, h2⟩
  · exact .inl h
  · refine .inr ⟨B, A, C, e, ⟨by have := h1.lo; omega, h1.sits, h1.cap, fun i hi => ?_, h1.apart⟩, ?_⟩
    · rcases h1.own i hi with e | ⟨g, ha, hg, hne, ho⟩
      · exact .inl e
      · exact .inr ⟨g, ha, by omega, hne, ho⟩
    · rcases h2 with e | ⟨Y, o, ha, hg, hx⟩
      · exact .inl e
      · exact .inr ⟨Y, o, ha, by omega, hx⟩
theorem MO0.far {base : Nat} {w : World} {x : Option Addr} {N : Nat} {L : Nat → Ln} {y : Option Addr} {n : Nat} {tn : Nat → Int} (h : MO0 base w x N L y n tn) {V : Nat} (hV : V < base) (o : Nat) (v : Value) : MO0 base (w.setCell ⟨V, o, none⟩ v) x N L y n tn :=
  h.keep (fun k hk _ => Below.heap_setCell w ⟨V, o, none⟩ v k (by show k ≠ V; omega)) (by simp)
theorem MO0.of_so {base : Nat} {w : World} {B N : Nat} {A : Nat → Option Addr} {C : Nat → Nat} {L : Nat → Ln} {y : Option Addr} {n : Nat} {tn : Nat → Int} (h : SO base w B A C N L y n tn) : MO0 base w (some ⟨B, 0, none⟩) N L y n tn := .inr ⟨B, A, C, rfl, MO.of_mk (MK.of_so h)⟩

set_option maxHeartbeats 1000000 in
theorem markShape_nil (s : Sh) (a : Option Addr) (ca : Nat) (b : Option Addr) (cb : Nat) (k0 : Int) (w : World) (q0 : 0 ≤ k0) (q1 : k0 ≤ 1099511627776) :
    Calls Try.prog 12 #[shVal s a 0 ca b 0 cb, .int .i64 k0] w fun e w' => e = .returned (.int .i64 k0) ∧ Below w.heap.size w w' := by
  obtain ⟨W0, hW0⟩ : ∃ W, w.alloc (.cells (shCells s a 0 ca b 0 cb) 29) = W := ⟨_, rfl⟩
  have s0 : Sits W0 w.heap.size (shCells s a 0 ca b 0 cb) 29 := by rw [← hW0]; exact Sits.new _ _ _
  have b0 : Below w.heap.size w W0 := by rw [← hW0]; exact (Below.refl _ w).alloc (Nat.le_refl _) _
  have HW0 : Hid (w.alloc (.cells (shCells s a 0 ca b 0 cb) 29) = W0) := hW0
  have HB0 : Hid (Below w.heap.size w W0) := b0
  have HS0 : Hid (Sits W0 w.heap.size (shCells s a 0 ca b 0 cb) 29) := s0
  have x2 := s0.cell 5
  have x3 := s0.cell 6
  clear s0 b0 hW0
  go_enter Try.func12, Try.ntmps12
  go_upto_region 1 with fail
  rw [HW0.out]
  clear HW0
  go_upto_region 2 with (go_at_call 38; refine (markLineS_nil a ca k0 _).mono ?_; rintro e w1 ⟨rfl, hw1⟩; replace hw1 := hw1.symm; subst hw1)
  go_wp2_with (go_at_call 39; refine (markIntS_nil b cb k0 _ q0 q1).mono ?_; rintro e w2 ⟨rfl, c2⟩; have HB2 : Hid (Below w.heap.size w w2) := (HB0.out).trans (c2.none.mono (HB0.out).size); clear c2)
  go_ret
  exact ⟨rfl, HB2.out⟩

/-- The lists of an answer, all of them between two bounds. -/
def UO (base up : Nat) (w : World) (x : Option Addr) (N : Nat) (L : Nat → Ln) (y : Option Addr) (n : Nat) (tn : Nat → Int) : Prop :=
  up ≤ w.heap.size ∧ ((N = 0 ∧ n = 0) ∨ ∃ (B : Nat) (A : Nat → Option Addr) (C : Nat → Nat), x = some ⟨B, 0, none⟩ ∧ MO base w B N A C L y n tn ∧ Under up B N A L ∧ ∀ Y o : Nat, n ≠ 0 → y = some ⟨Y, o, none⟩ → Y < up)
theorem UO.mo0 {base up : Nat} {w : World} {x : Option Addr} {N : Nat} {L : Nat → Ln} {y : Option Addr} {n : Nat} {tn : Nat → Int} (h : UO base up w x N L y n tn) : MO0 base w x N L y n tn := by
  rcases h.2 with e | ⟨B, A, C, e, h, _⟩
  · exact .inl e
  · exact .inr ⟨B, A, C, e, h⟩
theorem UO.of {base : Nat} {w : World} {x : Option Addr} {N : Nat} {L : Nat → Ln} {y : Option Addr} {n : Nat} {tn : Nat → Int} (h : MO0 base w x N L y n tn) : UO base w.heap.size w x N L y n tn := by
  refine ⟨Nat.le_refl _, ?_⟩
  rcases h with e | ⟨B, A, C, e, h⟩
  · exact .inl e
  · refine .inr ⟨B, A, C, e, h, h.1.under, fun Y o hn hy => ?_⟩
    rcases h.2 with e | ⟨Y', o', ha, _, _, _, ho⟩
    · exact absurd e hn
    · rw [ha] at hy; cases hy; exact ho.1
theorem UO.keep {base up : Nat} {w w' : World} {x : Option Addr} {N : Nat} {L : Nat → Ln} {y : Option Addr} {n : Nat} {tn : Nat → Int} (h : UO base up w x N L y n tn) (hk : ∀ k, base ≤ k → k < up → w'.heap[k]? = w.heap[k]?) (hs : w.heap.size ≤ w'.heap.size) : UO base up w' x N L y n tn := by
  refine ⟨Nat.le_trans h.1 hs, ?_⟩
  rcases h.2 with e | ⟨B, A, C, e, hm, hu, hY⟩
  · exact .inl e
  · refine .inr ⟨B, A, C, e, hm.keep (hk B hm.1.lo hu.1) (fun i hi hz g ha => hk g (hm.1.lt2 hi hz ha).2 (hu.2 i hi hz _ ha)) (fun Y o hn ha => ?_) hs, hu, hY⟩
    rcases hm.2 with e | ⟨Y', o', ha', h1, _⟩
    · exact absurd e hn
    · rw [ha] at ha'; cases ha'; exact hk Y h1 (hY Y o hn ha)
theorem UO.below {base up : Nat} {w w' : World} {x : Option Addr} {N : Nat} {L : Nat → Ln} {y : Option Addr} {n : Nat} {tn : Nat → Int} (h : UO base up w x N L y n tn) (hb : Below w.heap.size w w') : UO base up w' x N L y n tn := h.keep (fun k _ hk => hb.block k (Nat.lt_of_lt_of_le hk h.1)) hb.size
theorem UO.chg {base up : Nat} {w w' : World} {x : Option Addr} {N : Nat} {L : Nat → Ln} {y : Option Addr} {n : Nat} {tn : Nat → Int} {L0 U0 : Nat} (h : UO base up w x N L y n tn) (hc : Chg L0 U0 w w') (hU : U0 ≤ base ∨ up ≤ L0) : UO base up w' x N L y n tn := h.keep (fun k h1 h2 => hc.block k (Nat.lt_of_lt_of_le h2 h.1) (by omega)) hc.size
theorem UO.far {base up : Nat} {w : World} {x : Option Addr} {N : Nat} {L : Nat → Ln} {y : Option Addr} {n : Nat} {tn : Nat → Int} (h : UO base up w x N L y n tn) {V : Nat} (hV : V < base) (o : Nat) (v : Value) : UO base up (w.setCell ⟨V, o, none⟩ v) x N L y n tn := h.keep (fun k hk _ => Below.heap_setCell w ⟨V, o, none⟩ v k (by show k ≠ V; omega)) (by simp)
theorem markShape_uo (base up : Nat) (s : Sh) (x : Option Addr) (N ca : Nat) (y : Option Addr) (n cy : Nat) (L : Nat → Ln) (tn : Nat → Int) (k0 : Int) (w : World) (hmk : UO base up w x N L y n tn) (hN : N ≤ 1048576) (hcn : cntF L N ≤ 1048576) (hn : n ≤ 1048576) (h0 : 0 ≤ k0) (h1 : k0 ≤ 1000000000) :
    Calls Try.prog 12 #[shVal s x N ca y n cy, .int .i64 k0] w fun e w' => e = .returned (.int .i64 (upAt L k0 N + n)) ∧ UO base up w' x N (upL L k0) y n (fun i => upAt L k0 N + i) ∧ Chg base up w w' := by
  obtain ⟨hup, ⟨rfl, rfl⟩ | ⟨B, A, C, rfl, hmk, hu, hY⟩⟩ := hmk
  · refine (markShape_nil s x ca y cy k0 w h0 (by omega)).mono ?_
    rintro e w' ⟨rfl, hb⟩
    exact ⟨by simp [upAt, cntF], ⟨Nat.le_trans hup hb.size, .inl ⟨rfl, rfl⟩⟩, Chg.of_below hb⟩
  · refine (markShape_mo base up s B N ca y n cy A C L tn k0 w hmk hu hY hup hN hcn hn h0 h1).mono ?_
    rintro e w' ⟨rfl, hm, hc⟩
    exact ⟨rfl, ⟨Nat.le_trans hup hc.size, .inr ⟨B, A, C, rfl, hm, ⟨hu.1, fun i hi hz p hp => hu.2 i hi hz p hp⟩, hY⟩⟩, hc⟩

end Go.Proofs.Ytmjggolllijamaa

/-
  WHO GOES OUT OF A SHAPER, AS THE SPECIFICATION SAYS: ShapePop.
-/
namespace Go.Proofs.Ytmjggolllijamaa
open Go.RowKit
set_option linter.unusedVariables false

theorem ret_shpb {fn : Func} {tmps : Array Value} {W : World} {i j k B P : Nat} {v0 v1 v2 v3 v4 v5 v6 : Value} {p : Pk} {b : Bool} {t u : TypeId} (hr : fn.results = #[.cell i 29, .cell j 31, .tmp k]) (hi : tmps[i]?.getD undef = .pointer (some ⟨B, 0, none⟩)) (hj : tmps[j]?.getD undef = .pointer (some ⟨P, 0, none⟩)) (hk : tmps[k]?.getD undef = .bool b) (hs : Sits W B #[v0, v1, v2, v3, v4, v5, v6] t) (hp : Sits W P (pkCells p) u) : (results fn tmps).run Try.prog W = .ok (.tuple #[.agg #[v0, v1, v2, v3, v4, v5, v6], p.val, .bool b]) W := by
  have c0 : W.cell? ⟨B, 0, none⟩ = some v0 := hs.cell 0
  have c1 : W.cell? ⟨B, 1, none⟩ = some v1 := hs.cell 1
  have c2 : W.cell? ⟨B, 2, none⟩ = some v2 := hs.cell 2
  have c3 : W.cell? ⟨B, 3, none⟩ = some v3 := hs.cell 3
  have c4 : W.cell? ⟨B, 4, none⟩ = some v4 := hs.cell 4
  have c5 : W.cell? ⟨B, 5, none⟩ = some v5 := hs.cell 5
  have c6 : W.cell? ⟨B, 6, none⟩ = some v6 := hs.cell 6
  have d0 : W.cell? ⟨P, 0, none⟩ = some (.int .i64 p.id) := hp.cell 0
  have d1 : W.cell? ⟨P, 1, none⟩ = some (.int .i64 p.flow) := hp.cell 1
  have d2 : W.cell? ⟨P, 2, none⟩ = some (.int .i64 p.host) := hp.cell 2
  have d3 : W.cell? ⟨P, 3, none⟩ = some (.int .i64 p.size) := hp.cell 3
  have d4 : W.cell? ⟨P, 4, none⟩ = some (.int .i64 p.tm) := hp.cell 4
  have d5 : W.cell? ⟨P, 5, none⟩ = some (.int .i64 p.ecn) := hp.cell 5
  simp [results, hr, hi, hj, hk, go_sem, c0, c1, c2, c3, c4, c5, c6, d0, d1, d2, d3, d4, d5]
/-- Seven cells of a Shape set. -/
@[reducible] def set7 (w : World) (V : Nat) (s : Sh) (a : Option Addr) (N ca : Nat) (b : Option Addr) (n c : Nat) : World := (((((((w.setCell ⟨V, 0, none⟩ (.int .i64 s.rt)).setCell ⟨V, 1, none⟩ (.int .i64 s.ov)).setCell ⟨V, 2, none⟩ (.int .i64 s.nx)).setCell ⟨V, 3, none⟩ (.int .i64 s.qt)).setCell ⟨V, 4, none⟩ (.int .i64 s.lim)).setCell ⟨V, 5, none⟩ (.slice a N ca)).setCell ⟨V, 6, none⟩ (.slice b n c))
@[reducible] def set6 (w : World) (V : Nat) (p : Pk) : World := ((((((w.setCell ⟨V, 0, none⟩ (.int .i64 p.id)).setCell ⟨V, 1, none⟩ (.int .i64 p.flow)).setCell ⟨V, 2, none⟩ (.int .i64 p.host)).setCell ⟨V, 3, none⟩ (.int .i64 p.size)).setCell ⟨V, 4, none⟩ (.int .i64 p.tm)).setCell ⟨V, 5, none⟩ (.int .i64 p.ecn))
theorem sh_put7 {W : World} {V : Nat} {v0 v1 v2 v3 v4 v5 v6 : Value} {t : TypeId} (h : Sits W V #[v0, v1, v2, v3, v4, v5, v6] t) (s : Sh) (a : Option Addr) (N ca : Nat) (b : Option Addr) (n cb : Nat) : Sits (set7 W V s a N ca b n cb) V (shCells s a N ca b n cb) t := by
  have := ((((((h.set 0 (.int .i64 s.rt)).set 1 (.int .i64 s.ov)).set 2 (.int .i64 s.nx)).set 3 (.int .i64 s.qt)).set 4 (.int .i64 s.lim)).set 5 (.slice a N ca)).set 6 (.slice b n cb)
  simpa using this
theorem set7_keep {w : World} {V k : Nat} (hk : k ≠ V) (s : Sh) (a : Option Addr) (N ca : Nat) (b : Option Addr) (n cb : Nat) : (set7 w V s a N ca b n cb).heap[k]? = w.heap[k]? := by
  unfold set7
  rw [Below.heap_setCell _ _ _ k hk, Below.heap_setCell _ _ _ k hk, Below.heap_setCell _ _ _ k hk, Below.heap_setCell _ _ _ k hk, Below.heap_setCell _ _ _ k hk, Below.heap_setCell _ _ _ k hk, Below.heap_setCell _ _ _ k hk]
theorem set6_keep' {w : World} {V k : Nat} (hk : k ≠ V) (p : Pk) : (set6 w V p).heap[k]? = w.heap[k]? := set6_keep hk _ _ _ _ _ _
theorem set76_chg (w : World) (V P lo up : Nat) (h1 : lo ≤ V) (h2 : V < up) (h3 : lo ≤ P) (h4 : P < up) (s : Sh) (a : Option Addr) (N ca : Nat) (b : Option Addr) (n cb : Nat) (p : Pk) : Chg lo up w (set6 (set7 w V s a N ca b n cb) P p) :=
  chg_set (chg_set (chg_set (chg_set (chg_set (chg_set (chg_set (chg_set (chg_set (chg_set (chg_set (chg_set (chg_set (Chg.refl _ _ w) h1 h2 _ _) h1 h2 _ _) h1 h2 _ _) h1 h2 _ _) h1 h2 _ _) h1 h2 _ _) h1 h2 _ _) h3 h4 _ _) h3 h4 _ _) h3 h4 _ _) h3 h4 _ _) h3 h4 _ _) h3 h4 _ _
theorem set67_chg (w : World) (V P lo up : Nat) (h1 : lo ≤ V) (h2 : V < up) (h3 : lo ≤ P) (h4 : P < up) (s : Sh) (a : Option Addr) (N ca : Nat) (b : Option Addr) (n cb : Nat) (p : Pk) : Chg lo up w (set7 (set6 w P p) V s a N ca b n cb) :=
  chg_set (chg_set (chg_set (chg_set (chg_set (chg_set (chg_set (chg_set (chg_set (chg_set (chg_set (chg_set (chg_set (Chg.refl _ _ w) h3 h4 _ _) h3 h4 _ _) h3 h4 _ _) h3 h4 _ _) h3 h4 _ _) h3 h4 _ _) h1 h2 _ _) h1 h2 _ _) h1 h2 _ _) h1 h2 _ _) h1 h2 _ _) h1 h2 _ _) h1 h2 _ _
theorem MO0.of_lq {base : Nat} {w : World} {B : Nat} {A : Nat → Option Addr} {C : Nat → Nat} {L : Nat → Ln} {y : Option Addr} {n cy : Nat} {tn : Nat → Int} {ts : List Int} (h : LQ base w B 4 A C L) (ht : TQ base w y n cy tn B 4 A) (e : (List.range n).map tn = ts) : MO0 base w (some ⟨B, 0, none⟩) 4 L y ts.length (seqT ts) := by
  obtain ⟨e1, e2⟩ := seqT_of e
  rw [← e1]
  exact .inr ⟨B, A, C, rfl, (MO.of_mk (MK.of_lq h ht)).congr e2⟩
/-- What ShapePop answers, and where it lies. -/
def PopAt (s : Sh) (N : Nat) (L : Nat → Ln) (ts : List Int) (now : Int) (w : World) (e : Ending) (w' : World) : Prop :=
  ∃ (S1 : Sh) (N1 : Nat) (L1 : Nat → Ln) (T1 : List Int) (p1 : Pk) (ok : Bool) (x : Option Addr) (cl : Nat) (y : Option Addr) (cy : Nat), PopIs s N L ts now S1 N1 L1 T1 p1 ok ∧ e = .returned (.tuple #[shVal S1 x N1 cl y T1.length cy, p1.val, .bool ok]) ∧ MO0 w.heap.size w' x N1 L1 y T1.length (seqT T1) ∧ Below w.heap.size w w'
theorem pop_no {s : Sh} {N : Nat} {L : Nat → Ln} {ts : List Int} {now : Int} {w w' : World} (h : mayP s N L ts now = false) (hb : Below w.heap.size w w') : PopAt s N L ts now w (.returned (.tuple #[shVal ⟨0, 0, 0, 0, 0⟩ none 0 0 none 0 0, pk0.val, .bool false])) w' :=
  ⟨_, _, _, _, _, _, none, 0, none, 0, .inl ⟨h, rfl, rfl, rfl, rfl, rfl, rfl⟩, rfl, .inl ⟨rfl, rfl⟩, hb⟩
theorem pop_none {s : Sh} {L : Nat → Ln} {ts : List Int} {now : Int} {w w' : World} {B cl n cy : Nat} {y : Option Addr} {S1 : Sh} {L1 : Nat → Ln} (h : mayP s 4 L ts now = true) (h2 : noneB ts s.nx now = true) (e1 : S1 = s) (e2 : L1 = L) (hm : MO0 w.heap.size w' (some ⟨B, 0, none⟩) 4 L1 y ts.length (seqT ts)) (hn : n = ts.length) (hb : Below w.heap.size w w') : PopAt s 4 L ts now w (.returned (.tuple #[shVal S1 (some ⟨B, 0, none⟩) 4 cl y n cy, pk0.val, .bool false])) w' := by
  subst hn
  exact ⟨S1, 4, L1, ts, pk0, false, some ⟨B, 0, none⟩, cl, y, cy, .inr (.inl ⟨h, h2, e1, rfl, e2, rfl, rfl, rfl⟩), rfl, hm, hb⟩
theorem pop_some {s : Sh} {L : Nat → Ln} {ts : List Int} {now : Int} {w w' : World} {B cl n cy K : Nat} {y : Option Addr} {S1 : Sh} {L1 : Nat → Ln} {p1 : Pk} {T1 : List Int} (h : mayP s 4 L ts now = true) (h2 : noneB ts s.nx now = false) (hK : StopK ts s.qt (fun i => (L i).sh) K) (e1 : S1 = ⟨s.rt, s.ov, now + costF s ((L (popHost ts K)).f 0).size, s.qt, s.lim⟩) (e2 : L1 = popLn L (shK ts s.qt (fun i => (L i).sh) K) (popHost ts K)) (e3 : T1 = popTs L ts K) (e4 : p1 = (L (popHost ts K)).f 0)
    (hm : MO0 w.heap.size w' (some ⟨B, 0, none⟩) 4 L1 y T1.length (seqT T1)) (hn : n = T1.length) (hb : Below w.heap.size w w') : PopAt s 4 L ts now w (.returned (.tuple #[shVal S1 (some ⟨B, 0, none⟩) 4 cl y n cy, p1.val, .bool true])) w' := by
  subst hn
  exact ⟨S1, 4, L1, T1, p1, true, some ⟨B, 0, none⟩, cl, y, cy, .inr (.inr ⟨h, h2, K, hK, e1, rfl, e2, e3, e4, rfl⟩), rfl, hm, hb⟩

set_option maxRecDepth 100000 in
set_option maxHeartbeats 8000000 in
theorem sshapePop_any (s : Sh) (a : Option Addr) (N ca : Nat) (b : Option Addr) (n c : Nat) (L : Nat → Ln) (tn : Nat → Int) (now : Int) (w : World)
    (hN : N ≤ 1048576) (hcn : cntF L N ≤ 1048576) (hnn : n ≤ 1048576) (hP : LR w.heap.size w a N L) (hb : Row .i64 w b n tn) :
    Calls Try.prog 7 #[shVal s a N ca b n c, .int .i64 now] w fun e w' => PopAt s N L ((List.range n).map tn) now w e w' := by
  have HP : Hid (LR w.heap.size w a N L) := hP
  have HRB : Hid (Row .i64 w b n tn) := hb
  have HN : Hid (N ≤ 1048576) := hN
  have HCN : Hid (cntF L N ≤ 1048576) := hcn
  have HNN : Hid (n ≤ 1048576) := hnn
  clear hP hb hN hcn hnn
  obtain ⟨ts, hts⟩ : ∃ l, (List.range n).map tn = l := ⟨_, rfl⟩
  have HTS : Hid ((List.range n).map tn = ts) := hts
  rw [hts]
  clear hts
  obtain ⟨W0, hW0⟩ : ∃ W, ((w.alloc (.cells (shCells s a N ca b n c) 29)).alloc (.cells shZero 29)).alloc (.cells (pkCells pk0) 31) = W := ⟨_, rfl⟩
  have s0 : Sits W0 w.heap.size (shCells s a N ca b n c) 29 := by rw [← hW0]; exact ((Sits.new _ _ _).alloc _).alloc _
  have s1 : Sits W0 (w.heap.size + 1) shZero 29 := by rw [← hW0]; exact (Sits.new' (by simp)).alloc _
  have s2 : Sits W0 (w.heap.size + 1 + 1) (pkCells pk0) 31 := by rw [← hW0]; exact Sits.new' (by simp)
  have b0 : Below w.heap.size w W0 := by rw [← hW0]; exact (((Below.refl _ w).alloc (Nat.le_refl _) _).alloc (by simp) _).alloc (by simp; omega) _
  have z0 : W0.heap.size = w.heap.size + 1 + 1 + 1 := by rw [← hW0]; simp
  have HW0 : Hid (((w.alloc (.cells (shCells s a N ca b n c) 29)).alloc (.cells shZero 29)).alloc (.cells (pkCells pk0) 31) = W0) := hW0
  have HB0 : Hid (Below w.heap.size w W0) := b0
  have HZ0 : Hid (W0.heap.size = w.heap.size + 1 + 1 + 1) := z0
  have x0 := s0.cell 0
  have x1 := s0.cell 1
  have x2 := s0.cell 2
  have x3 := s0.cell 3
  have x4 := s0.cell 4
  have x5 := s0.cell 5
  have x6 := s0.cell 6
  have HA : Hid (∀ W, Below W0.heap.size W0 W → (Sits W w.heap.size (shCells s a N ca b n c) 29 ∧ Sits W (w.heap.size + 1) shZero 29 ∧ Sits W (w.heap.size + 1 + 1) (pkCells pk0) 31) ∧ Below w.heap.size w W) := fun W hW => ⟨⟨s0.below hW s0.lt, s1.below hW s1.lt, s2.below hW s2.lt⟩, b0.trans (hW.mono b0.size)⟩
  clear s0 s1 s2 b0 z0 hW0
  have hVP : w.heap.size + 1 ≠ w.heap.size + 1 + 1 := by omega
  have HOUT : Hid (∀ W, Below W0.heap.size W0 W → Below w.heap.size w (set6 (set7 W (w.heap.size + 1) ⟨0, 0, 0, 0, 0⟩ none 0 0 none 0 0) (w.heap.size + 1 + 1) pk0) ∧ Sits (set6 (set7 W (w.heap.size + 1) ⟨0, 0, 0, 0, 0⟩ none 0 0 none 0 0) (w.heap.size + 1 + 1) pk0) (w.heap.size + 1) (shCells ⟨0, 0, 0, 0, 0⟩ none 0 0 none 0 0) 29 ∧ Sits (set6 (set7 W (w.heap.size + 1) ⟨0, 0, 0, 0, 0⟩ none 0 0 none 0 0) (w.heap.size + 1 + 1) pk0) (w.heap.size + 1 + 1) (pkCells pk0) 31) := fun W hW => by
    obtain ⟨⟨_, t1, t2⟩, bw⟩ := HA.out W hW
    refine ⟨(set76_chg W (w.heap.size + 1) (w.heap.size + 1 + 1) w.heap.size (w.heap.size + 3) (by omega) (by omega) (by omega) (by omega) _ _ _ _ _ _ _ _).bel bw (Nat.le_refl _), ?_, ?_⟩
    · exact (set6_keep' hVP _).trans (sh_put7 t1 _ _ _ _ _ _ _)
    · exact pk_put ((set7_keep (fun e => hVP e.symm) _ _ _ _ _ _ _).trans t2) pk0
  have TAIL : Hid (∀ W, Below W0.heap.size W0 W → True) := fun _ _ => trivial
  clear TAIL
  cases t0 : shB s N L ts
  case false =>
    have HE : Hid (mayP s N L ts now = false) := by show _ = _; unfold mayP; rw [t0]; rfl
    go_enter Try.func7, Try.ntmps7
    go_upto_region 1 with fail
    rw [HW0.out]
    go_wp2_with (go_at_call 16; refine (sshapeOk_any s a N ca b n c L tn _ HN.out HCN.out HNN.out (LR.go HP.out HB0.out (HB0.out).size) (Row.below HRB.out HB0.out)).mono ?_; rintro e w1 ⟨rfl, b1⟩; rw [HTS.out, t0]; obtain ⟨⟨_, r1, r2⟩, _⟩ := HA.out _ b1; have r1_0 := r1.cell 0; have r1_1 := r1.cell 1; have r1_2 := r1.cell 2; have r1_3 := r1.cell 3; have r1_4 := r1.cell 4; have r1_5 := r1.cell 5; have r1_6 := r1.cell 6; have r1f := r1.frozen; have r2_0 := r2.cell 0; have r2_1 := r2.cell 1; have r2_2 := r2.cell 2; have r2_3 := r2.cell 3; have r2_4 := r2.cell 4; have r2_5 := r2.cell 5; have r2f := r2.frozen; have HB1 : Hid (Below W0.heap.size W0 w1) := b1; clear r1 r2 b1)
    obtain ⟨bo, so, po⟩ := HOUT.out _ HB1.out
    exact bodyPost_ret (ret_shpb Try.results7 rfl rfl rfl so po) rfl (pop_no HE.out bo)
  case true =>
  by_cases c0 : now < 0
  · have HE : Hid (mayP s N L ts now = false) := by show _ = _; unfold mayP; rw [decide_eq_false (by omega)]; exact Bool.and_false _
    go_enter Try.func7, Try.ntmps7
    go_upto_region 1 with fail
    rw [HW0.out]
    go_wp2_with (go_at_call 16; refine (sshapeOk_any s a N ca b n c L tn _ HN.out HCN.out HNN.out (LR.go HP.out HB0.out (HB0.out).size) (Row.below HRB.out HB0.out)).mono ?_; rintro e w1 ⟨rfl, b1⟩; rw [HTS.out, t0]; obtain ⟨⟨_, r1, r2⟩, _⟩ := HA.out _ b1; have r1_0 := r1.cell 0; have r1_1 := r1.cell 1; have r1_2 := r1.cell 2; have r1_3 := r1.cell 3; have r1_4 := r1.cell 4; have r1_5 := r1.cell 5; have r1_6 := r1.cell 6; have r1f := r1.frozen; have r2_0 := r2.cell 0; have r2_1 := r2.cell 1; have r2_2 := r2.cell 2; have r2_3 := r2.cell 3; have r2_4 := r2.cell 4; have r2_5 := r2.cell 5; have r2f := r2.frozen; have HB1 : Hid (Below W0.heap.size W0 w1) := b1; clear r1 r2 b1)
    obtain ⟨bo, so, po⟩ := HOUT.out _ HB1.out
    exact bodyPost_ret (ret_shpb Try.results7 rfl rfl rfl so po) rfl (pop_no HE.out bo)
  by_cases c1 : 1000000000000 < now
  · have HE : Hid (mayP s N L ts now = false) := by show _ = _; unfold mayP; rw [decide_eq_false (by omega)]; exact Bool.and_false _
    go_enter Try.func7, Try.ntmps7
    go_upto_region 1 with fail
    rw [HW0.out]
    go_wp2_with (go_at_call 16; refine (sshapeOk_any s a N ca b n c L tn _ HN.out HCN.out HNN.out (LR.go HP.out HB0.out (HB0.out).size) (Row.below HRB.out HB0.out)).mono ?_; rintro e w1 ⟨rfl, b1⟩; rw [HTS.out, t0]; obtain ⟨⟨_, r1, r2⟩, _⟩ := HA.out _ b1; have r1_0 := r1.cell 0; have r1_1 := r1.cell 1; have r1_2 := r1.cell 2; have r1_3 := r1.cell 3; have r1_4 := r1.cell 4; have r1_5 := r1.cell 5; have r1_6 := r1.cell 6; have r1f := r1.frozen; have r2_0 := r2.cell 0; have r2_1 := r2.cell 1; have r2_2 := r2.cell 2; have r2_3 := r2.cell 3; have r2_4 := r2.cell 4; have r2_5 := r2.cell 5; have r2f := r2.frozen; have HB1 : Hid (Below W0.heap.size W0 w1) := b1; clear r1 r2 b1)
    obtain ⟨bo, so, po⟩ := HOUT.out _ HB1.out
    exact bodyPost_ret (ret_shpb Try.results7 rfl rfl rfl so po) rfl (pop_no HE.out bo)
  have hE : mayP s N L ts now = true := by unfold mayP; rw [t0, decide_eq_true ⟨by omega, by omega⟩]; rfl
  have HE : Hid (mayP s N L ts now = true) := hE
  obtain ⟨hsp, n0, n1⟩ := mayP_parts hE
  obtain rfl : N = 4 := hsp.2.1
  have HSP : Hid (shP s 4 L ts) := hsp
  clear hE hsp
  go_enter Try.func7, Try.ntmps7
  go_upto_region 1 with fail
  rw [HW0.out]
  clear HW0
  go_upto_region 3 with (go_at_call 16; refine (sshapeOk_any s a 4 ca b n c L tn _ HN.out HCN.out HNN.out (LR.go HP.out HB0.out (HB0.out).size) (Row.below HRB.out HB0.out)).mono ?_; rintro e w1 ⟨rfl, b1⟩; rw [HTS.out, t0]; obtain ⟨⟨r0, _, _⟩, bw1⟩ := HA.out _ b1; have HB1 : Hid (Below W0.heap.size W0 w1) := b1; have HBW1 : Hid (Below w.heap.size w w1) := bw1; have r0_0 := r0.cell 0; have r0_1 := r0.cell 1; have r0_2 := r0.cell 2; have r0_3 := r0.cell 3; have r0_4 := r0.cell 4; have r0_5 := r0.cell 5; have r0_6 := r0.cell 6; clear r0 bw1 b1 x0 x1 x2 x3 x4 x5 x6)
  go_upto_region 4 with (go_at_call 27; refine (l8own_any s a ca b n c L tn _ HCN.out HNN.out (LR.go HP.out HBW1.out (HBW1.out).size) (Row.below HRB.out HBW1.out)).mono ?_; rintro e w3 ⟨B, A, C, cl, y, cy, rfl, lq, tq, b3⟩; have HLQ : Hid (LQ w1.heap.size w3 B 4 A C L) := lq; have HTQ : Hid (TQ w1.heap.size w3 y n cy tn B 4 A) := tq; have HB3 : Hid (Below w1.heap.size w1 w3) := b3; clear lq tq b3)
  obtain ⟨v3, hv3⟩ : ∃ v, w3.alloc (.cells (shCells s (some ⟨B, 0, none⟩) 4 cl y n cy) 29) = v := ⟨_, rfl⟩
  obtain ⟨V, hV⟩ : ∃ V, w3.heap.size = V := ⟨_, rfl⟩
  have sV : Sits v3 V (shCells s (some ⟨B, 0, none⟩) 4 cl y n cy) 29 := by rw [← hv3]; exact Sits.new' hV
  have ba : Below w3.heap.size w3 v3 := by rw [← hv3]; exact (Below.refl _ _).alloc (Nat.le_refl _) _
  have sw3 : SW w1.heap.size v3 V B cl s A C L y n cy tn := ⟨sV, by rw [← hV]; exact (HB3.out).size, by have := (HLQ.out).lt; omega, fun i hi g hg => by have := ((HLQ.out).own i hi).under g hg; omega, fun g hg => by have := (HTQ.out).1.undr g hg; omega, (HLQ.out).below ba, (HTQ.out).below ba⟩
  have b13 : Below w1.heap.size w1 v3 := (HB3.out).trans (ba.mono (HB3.out).size)
  have HSW3 : Hid (SW w1.heap.size v3 V B cl s A C L y n cy tn) := sw3
  have HB13 : Hid (Below w1.heap.size w1 v3) := b13
  have HPU := l8pop_any w1.heap.size V B cl n cy s y A C L tn ts now v3 sw3 HTS.out HSP.out n0 n1
  have HPOP : Hid (Calls Try.prog 28 #[.pointer (some ⟨V, 0, none⟩), .int .i64 now] v3 _) := HPU
  rw [hv3, hV]
  clear hv3 hV sV ba sw3 b13 HPU HLQ HTQ HB3 r0_0 r0_1 r0_2 r0_3 r0_4 r0_5 r0_6
  cases hnb : noneB ts s.nx now
  case true =>
    go_upto_region 5 with (go_at_call 28; refine (HPOP.out).mono ?_; rintro e w4 hor; have hor2 : e = .returned (.tuple #[pk0.val, .bool false]) ∧ Below v3.heap.size v3 w4 := (by rcases hor with ⟨_, h1, h2⟩ | ⟨h1, _⟩; exact ⟨h1, h2⟩; rw [hnb] at h1; cases h1); clear hor; obtain ⟨rfl, b4⟩ := hor2; have HB4 : Hid (Below v3.heap.size v3 w4) := b4; clear b4)
    obtain ⟨S1, hS1⟩ : ∃ S, S = s := ⟨s, rfl⟩
    obtain ⟨LL, hLL⟩ : ∃ l, l = L := ⟨L, rfl⟩
    obtain ⟨tnv, htv⟩ : ∃ l, l = tn := ⟨tn, rfl⟩
    obtain ⟨yv, hyv⟩ : ∃ l, l = y := ⟨y, rfl⟩
    obtain ⟨nv, hnv⟩ : ∃ l, l = n := ⟨n, rfl⟩
    obtain ⟨cyv, hcv⟩ : ∃ l, l = cy := ⟨cy, rfl⟩
    have HV4 : Hid (Sits w4 V (shCells S1 (some ⟨B, 0, none⟩) 4 cl yv nv cyv) 29) := by rw [hS1, hyv, hnv, hcv]; exact (SW.below HSW3.out HB4.out).sv
    have HRR : Hid (Row .i64 w4 yv nv tnv) := by rw [hyv, hnv, htv]; exact (SW.below HSW3.out HB4.out).row
    have HLL : Hid (LR w4.heap.size w4 (some ⟨B, 0, none⟩) 4 LL) := by rw [hLL]; exact (SW.below HSW3.out HB4.out).lq.lr
    have HVO : Hid (w.heap.size + 3 ≤ V) := by show _ ≤ _; have := (HSW3.out).bV; have := (HB1.out).size; have := HZ0.out; omega
    have HCL : Hid (cntF LL 4 ≤ 1048576) := by rw [hLL]; exact HCN.out
    have HNV : Hid (nv ≤ 1048576) := by rw [hnv]; exact HNN.out
    have HTE : Hid ((List.range nv).map tnv = ts) := by rw [hnv, htv]; exact HTS.out
    have H03 : Hid (Below W0.heap.size W0 w4) := (HB1.out).trans (((HB13.out).trans ((HB4.out).mono (HB13.out).size)).mono (HB1.out).size)
    have HS1 : Hid (S1 = s) := hS1
    have HL1 : Hid (LL = L) := hLL
    clear hS1 hLL htv hyv hnv hcv HB4
    --REG5
    obtain ⟨u4, hu4⟩ : ∃ v, w4.alloc (.cells (pkCells pk0) 31) = v := ⟨_, rfl⟩
    obtain ⟨P, hPP⟩ : ∃ P, w4.heap.size = P := ⟨_, rfl⟩
    have ba4 : Below w4.heap.size w4 u4 := by rw [← hu4]; exact (Below.refl _ _).alloc (Nat.le_refl _) _
    have sP : Sits u4 P (pkCells pk0) 31 := by rw [← hu4]; exact Sits.new' hPP
    have sV4 : Sits u4 V (shCells S1 (some ⟨B, 0, none⟩) 4 cl yv nv cyv) 29 := Sits.below HV4.out ba4 (Sits.lt HV4.out)
    have HL4 : Hid (LR u4.heap.size u4 (some ⟨B, 0, none⟩) 4 LL) := LR.go HLL.out ba4 ba4.size
    have HR4 : Hid (Row .i64 u4 yv nv tnv) := Row.below HRR.out ba4
    have H04 : Hid (Below W0.heap.size W0 u4) := (H03.out).trans (ba4.mono (H03.out).size)
    have lV4 := sV4.lt
    have lP4 := sP.lt
    have z0 := HZ0.out
    have hz4 := (H04.out).size
    have hVo := HVO.out
    have hPo : w.heap.size + 3 ≤ P := by have := (H03.out).size; omega
    have HK : Hid (∀ w' : World, w'.heap[V]? = u4.heap[V]? → w'.heap[P]? = u4.heap[P]? → (w'.cell? ⟨V, 0, none⟩ = some (.int .i64 S1.rt) ∧ w'.cell? ⟨V, 1, none⟩ = some (.int .i64 S1.ov) ∧ w'.cell? ⟨V, 2, none⟩ = some (.int .i64 S1.nx) ∧ w'.cell? ⟨V, 3, none⟩ = some (.int .i64 S1.qt) ∧ w'.cell? ⟨V, 4, none⟩ = some (.int .i64 S1.lim) ∧ w'.cell? ⟨V, 5, none⟩ = some (.slice (some ⟨B, 0, none⟩) 4 cl) ∧ w'.cell? ⟨V, 6, none⟩ = some (.slice yv nv cyv)) ∧ (w'.cell? ⟨P, 0, none⟩ = some (.int .i64 pk0.id) ∧ w'.cell? ⟨P, 1, none⟩ = some (.int .i64 pk0.flow) ∧ w'.cell? ⟨P, 2, none⟩ = some (.int .i64 pk0.host) ∧ w'.cell? ⟨P, 3, none⟩ = some (.int .i64 pk0.size) ∧ w'.cell? ⟨P, 4, none⟩ = some (.int .i64 pk0.tm) ∧ w'.cell? ⟨P, 5, none⟩ = some (.int .i64 pk0.ecn))) := fun w' e1 e2 => by
      have t1 : Sits w' V (shCells S1 (some ⟨B, 0, none⟩) 4 cl yv nv cyv) 29 := e1.trans sV4
      have t2 : Sits w' P (pkCells pk0) 31 := e2.trans sP
      exact ⟨⟨t1.cell 0, t1.cell 1, t1.cell 2, t1.cell 3, t1.cell 4, t1.cell 5, t1.cell 6⟩, ⟨t2.cell 0, t2.cell 1, t2.cell 2, t2.cell 3, t2.cell 4, t2.cell 5⟩⟩
    have hV1 : V ≠ w.heap.size + 1 := by omega
    have hV2 : V ≠ w.heap.size + 1 + 1 := by omega
    have hP1 : P ≠ w.heap.size + 1 := by omega
    have hP2 : P ≠ w.heap.size + 1 + 1 := by omega
    rw [hu4]
    try rw [hPP]
    clear hu4 ba4 sP sV4 hPP HV4 HLL HRR H03
    have hd1 : u4.drew.heap[V]? = u4.heap[V]? := rfl
    have hd2 : u4.drew.heap[P]? = u4.heap[P]? := rfl
    set_option maxRecDepth 100000 in go_region_held3 (fun w' => (w'.cell? ⟨V, 0, none⟩ = some (.int .i64 S1.rt) ∧ w'.cell? ⟨V, 1, none⟩ = some (.int .i64 S1.ov) ∧ w'.cell? ⟨V, 2, none⟩ = some (.int .i64 S1.nx) ∧ w'.cell? ⟨V, 3, none⟩ = some (.int .i64 S1.qt) ∧ w'.cell? ⟨V, 4, none⟩ = some (.int .i64 S1.lim) ∧ w'.cell? ⟨V, 5, none⟩ = some (.slice (some ⟨B, 0, none⟩) 4 cl) ∧ w'.cell? ⟨V, 6, none⟩ = some (.slice yv nv cyv)) ∧ (w'.cell? ⟨P, 0, none⟩ = some (.int .i64 pk0.id) ∧ w'.cell? ⟨P, 1, none⟩ = some (.int .i64 pk0.flow) ∧ w'.cell? ⟨P, 2, none⟩ = some (.int .i64 pk0.host) ∧ w'.cell? ⟨P, 3, none⟩ = some (.int .i64 pk0.size) ∧ w'.cell? ⟨P, 4, none⟩ = some (.int .i64 pk0.tm) ∧ w'.cell? ⟨P, 5, none⟩ = some (.int .i64 pk0.ecn))) (first | (with_reducible exact HK.out _ hd1 hd2) | (with_reducible exact HK.out _ hV5 hP5) | (with_reducible exact HK.out _ ((set7_keep hV1 S1 (some ⟨B5, 0, none⟩) 4 cl5 y5 nv cy5).trans hV5) ((set7_keep hP1 S1 (some ⟨B5, 0, none⟩) 4 cl5 y5 nv cy5).trans hP5)) | (with_reducible exact HK.out _ ((set6_keep' hV2 pk0).trans ((set7_keep hV1 S1 (some ⟨B5, 0, none⟩) 4 cl5 y5 nv cy5).trans hV5)) ((set6_keep' hP2 pk0).trans ((set7_keep hP1 S1 (some ⟨B5, 0, none⟩) 4 cl5 y5 nv cy5).trans hP5))) | fail) (first | (go_at_call 27; refine (l8own_any S1 (some ⟨B, 0, none⟩) cl yv nv cyv LL tnv _ HCL.out HNV.out (LR.go HL4.out ((Below.refl _ u4).drew) (Nat.le_refl _)) (Row.below HR4.out ((Below.refl _ u4).drew))).mono ?_; rintro e w5 ⟨B5, A5, C5, cl5, y5, cy5, rfl, lq5, tq5, b5'⟩; have b5 : Below u4.heap.size u4 w5 := ((Below.refl _ u4).drew).trans b5'; have hV5 : w5.heap[V]? = u4.heap[V]? := b5.block V lV4; have hP5 : w5.heap[P]? = u4.heap[P]? := b5.block P lP4; have b05 : Below W0.heap.size W0 w5 := (H04.out).trans (Below.mono b5 (H04.out).size); obtain ⟨⟨_, r1, r2⟩, bw5⟩ := HA.out _ b05; have r1_0 := r1.cell 0; have r1_1 := r1.cell 1; have r1_2 := r1.cell 2; have r1_3 := r1.cell 3; have r1_4 := r1.cell 4; have r1_5 := r1.cell 5; have r1_6 := r1.cell 6; have r1f := r1.frozen; have r2_0 := r2.cell 0; have r2_1 := r2.cell 1; have r2_2 := r2.cell 2; have r2_3 := r2.cell 3; have r2_4 := r2.cell 4; have r2_5 := r2.cell 5; have r2f := r2.frozen; have HR1 : Hid (Sits w5 (w.heap.size + 1) shZero 29) := r1; have HR2 : Hid (Sits w5 (w.heap.size + 1 + 1) (pkCells pk0) 31) := r2; have HLQ5 : Hid (LQ u4.heap.size w5 B5 4 A5 C5 LL) := lq5; have HTQ5 : Hid (TQ u4.heap.size w5 y5 nv cy5 tnv B5 4 A5) := tq5; have HBW5 : Hid (Below w.heap.size w w5) := bw5; clear r1 r2 lq5 tq5 bw5 b05 b5'))
    all_goals go_wp2
    all_goals
      have so : Sits (set6 (set7 w5 (w.heap.size + 1) S1 (some ⟨B5, 0, none⟩) 4 cl5 y5 nv cy5) (w.heap.size + 1 + 1) pk0) (w.heap.size + 1) (shCells S1 (some ⟨B5, 0, none⟩) 4 cl5 y5 nv cy5) 29 := (set6_keep' hVP _).trans (sh_put7 HR1.out _ _ _ _ _ _ _)
      have po : Sits (set6 (set7 w5 (w.heap.size + 1) S1 (some ⟨B5, 0, none⟩) 4 cl5 y5 nv cy5) (w.heap.size + 1 + 1) pk0) (w.heap.size + 1 + 1) (pkCells pk0) 31 := pk_put (W := set7 w5 (w.heap.size + 1) S1 (some ⟨B5, 0, none⟩) 4 cl5 y5 nv cy5) (p := pk0) ((set7_keep (fun e => hVP e.symm) _ _ _ _ _ _ _).trans HR2.out) pk0
      have c9 := set76_chg w5 (w.heap.size + 1) (w.heap.size + 1 + 1) (w.heap.size + 1) (w.heap.size + 3) (by omega) (by omega) (by omega) (by omega) S1 (some ⟨B5, 0, none⟩) 4 cl5 y5 nv cy5 pk0
      have hm := MO0.mono (MO0.of_lq (LQ.chg HLQ5.out c9 (by omega)) (TQ.chg HTQ5.out c9 (by omega)) HTE.out) (show w.heap.size ≤ u4.heap.size by omega)
      refine bodyPost_ret (ret_shpb (p := pk0) Try.results7 rfl rfl rfl so po) rfl ?_
      exact pop_none HE.out hnb HS1.out HL1.out hm (by rw [← HTE.out]; simp) (c9.bel HBW5.out (Nat.le_succ _))
  case false =>
    go_upto_region 5 with (go_at_call 28; refine (HPOP.out).mono ?_; rintro e w4 hor; have hor2 : ∃ (K : Nat) (p1 : Pk) (S1 : Sh) (LL : Nat → Ln) (A' : Nat → Option Addr) (C' : Nat → Nat) (y' : Option Addr) (n' cy' : Nat) (tn' : Nat → Int), e = .returned (.tuple #[p1.val, .bool true]) ∧ StopK ts s.qt (fun i => (L i).sh) K ∧ p1 = (L (popHost ts K)).f 0 ∧ S1 = ⟨s.rt, s.ov, now + costF s ((L (popHost ts K)).f 0).size, s.qt, s.lim⟩ ∧ LL = popLn L (shK ts s.qt (fun i => (L i).sh) K) (popHost ts K) ∧ SW w1.heap.size w4 V B cl S1 A' C' LL y' n' cy' tn' ∧ (List.range n').map tn' = popTs L ts K ∧ Below w1.heap.size v3 w4 := (by rcases hor with ⟨h1, _⟩ | ⟨_, K, h1, h2, A', C', y', n', cy', tn', h3, h4, h5⟩; rw [hnb] at h1; cases h1; exact ⟨K, _, _, _, A', C', y', n', cy', tn', h2, h1, rfl, rfl, rfl, h3, h4, h5⟩); clear hor; obtain ⟨K, p1, S1, LL, A', C', yv, nv, cyv, tnv, rfl, hK, hp1, hS1, hLL, sw4, ht4, b4⟩ := hor2; have HK4 : Hid (StopK ts s.qt (fun i => (L i).sh) K) := hK; have HP1 : Hid (p1 = (L (popHost ts K)).f 0) := hp1; have HS1 : Hid (S1 = ⟨s.rt, s.ov, now + costF s ((L (popHost ts K)).f 0).size, s.qt, s.lim⟩) := hS1; have HL1 : Hid (LL = popLn L (shK ts s.qt (fun i => (L i).sh) K) (popHost ts K)) := hLL; have HSW4 : Hid (SW w1.heap.size w4 V B cl S1 A' C' LL yv nv cyv tnv) := sw4; have HTE0 : Hid ((List.range nv).map tnv = popTs L ts K) := ht4; have HB4 : Hid (Below w1.heap.size v3 w4) := b4; clear hK hp1 hS1 hLL sw4 ht4 b4)
    have HV4 : Hid (Sits w4 V (shCells S1 (some ⟨B, 0, none⟩) 4 cl yv nv cyv) 29) := (HSW4.out).sv
    have HRR : Hid (Row .i64 w4 yv nv tnv) := (HSW4.out).row
    have HLL : Hid (LR w4.heap.size w4 (some ⟨B, 0, none⟩) 4 LL) := (HSW4.out).lq.lr
    have HVO : Hid (w.heap.size + 3 ≤ V) := by show _ ≤ _; have := (HSW3.out).bV; have := (HB1.out).size; have := HZ0.out; omega
    have HCL : Hid (cntF LL 4 ≤ 1048576) := by rw [HL1.out]; exact Nat.le_trans (popLn_cnt _ _ _ _) HCN.out
    obtain ⟨TT, hTT⟩ : ∃ l, popTs L ts K = l := ⟨_, rfl⟩
    have HTT : Hid (TT = popTs L ts K) := hTT.symm
    have HTE : Hid ((List.range nv).map tnv = TT) := by rw [← hTT]; exact HTE0.out
    have HNL : Hid (nv = TT.length) := by show _ = _; have := congrArg List.length HTE.out; simpa using this
    have HNV : Hid (nv ≤ 1048576) := by
      show _ ≤ _
      have h1 := HNL.out
      have h2 := popTs_len L ts K
      have h3 := congrArg List.length HTS.out
      simp at h3
      have := HNN.out
      rw [← hTT] at h1
      omega
    have H03 : Hid (Below W0.heap.size W0 w4) := (HB1.out).trans (((HB13.out).trans HB4.out).mono (HB1.out).size)
    clear hTT HTE0 HB4 HSW4
    --REG5
    obtain ⟨u4, hu4⟩ : ∃ v, w4.alloc (.cells (pkCells p1) 31) = v := ⟨_, rfl⟩
    obtain ⟨P, hPP⟩ : ∃ P, w4.heap.size = P := ⟨_, rfl⟩
    have ba4 : Below w4.heap.size w4 u4 := by rw [← hu4]; exact (Below.refl _ _).alloc (Nat.le_refl _) _
    have sP : Sits u4 P (pkCells p1) 31 := by rw [← hu4]; exact Sits.new' hPP
    have sV4 : Sits u4 V (shCells S1 (some ⟨B, 0, none⟩) 4 cl yv nv cyv) 29 := Sits.below HV4.out ba4 (Sits.lt HV4.out)
    have HL4 : Hid (LR u4.heap.size u4 (some ⟨B, 0, none⟩) 4 LL) := LR.go HLL.out ba4 ba4.size
    have HR4 : Hid (Row .i64 u4 yv nv tnv) := Row.below HRR.out ba4
    have H04 : Hid (Below W0.heap.size W0 u4) := (H03.out).trans (ba4.mono (H03.out).size)
    have lV4 := sV4.lt
    have lP4 := sP.lt
    have z0 := HZ0.out
    have hz4 := (H04.out).size
    have hVo := HVO.out
    have hPo : w.heap.size + 3 ≤ P := by have := (H03.out).size; omega
    have HK : Hid (∀ w' : World, w'.heap[V]? = u4.heap[V]? → w'.heap[P]? = u4.heap[P]? → (w'.cell? ⟨V, 0, none⟩ = some (.int .i64 S1.rt) ∧ w'.cell? ⟨V, 1, none⟩ = some (.int .i64 S1.ov) ∧ w'.cell? ⟨V, 2, none⟩ = some (.int .i64 S1.nx) ∧ w'.cell? ⟨V, 3, none⟩ = some (.int .i64 S1.qt) ∧ w'.cell? ⟨V, 4, none⟩ = some (.int .i64 S1.lim) ∧ w'.cell? ⟨V, 5, none⟩ = some (.slice (some ⟨B, 0, none⟩) 4 cl) ∧ w'.cell? ⟨V, 6, none⟩ = some (.slice yv nv cyv)) ∧ (w'.cell? ⟨P, 0, none⟩ = some (.int .i64 p1.id) ∧ w'.cell? ⟨P, 1, none⟩ = some (.int .i64 p1.flow) ∧ w'.cell? ⟨P, 2, none⟩ = some (.int .i64 p1.host) ∧ w'.cell? ⟨P, 3, none⟩ = some (.int .i64 p1.size) ∧ w'.cell? ⟨P, 4, none⟩ = some (.int .i64 p1.tm) ∧ w'.cell? ⟨P, 5, none⟩ = some (.int .i64 p1.ecn))) := fun w' e1 e2 => by
      have t1 : Sits w' V (shCells S1 (some ⟨B, 0, none⟩) 4 cl yv nv cyv) 29 := e1.trans sV4
      have t2 : Sits w' P (pkCells p1) 31 := e2.trans sP
      exact ⟨⟨t1.cell 0, t1.cell 1, t1.cell 2, t1.cell 3, t1.cell 4, t1.cell 5, t1.cell 6⟩, ⟨t2.cell 0, t2.cell 1, t2.cell 2, t2.cell 3, t2.cell 4, t2.cell 5⟩⟩
    have hV1 : V ≠ w.heap.size + 1 := by omega
    have hV2 : V ≠ w.heap.size + 1 + 1 := by omega
    have hP1 : P ≠ w.heap.size + 1 := by omega
    have hP2 : P ≠ w.heap.size + 1 + 1 := by omega
    rw [hu4]
    try rw [hPP]
    clear hu4 ba4 sP sV4 hPP HV4 HLL HRR H03
    have hd1 : u4.drew.heap[V]? = u4.heap[V]? := rfl
    have hd2 : u4.drew.heap[P]? = u4.heap[P]? := rfl
    set_option maxRecDepth 100000 in go_region_held3 (fun w' => (w'.cell? ⟨V, 0, none⟩ = some (.int .i64 S1.rt) ∧ w'.cell? ⟨V, 1, none⟩ = some (.int .i64 S1.ov) ∧ w'.cell? ⟨V, 2, none⟩ = some (.int .i64 S1.nx) ∧ w'.cell? ⟨V, 3, none⟩ = some (.int .i64 S1.qt) ∧ w'.cell? ⟨V, 4, none⟩ = some (.int .i64 S1.lim) ∧ w'.cell? ⟨V, 5, none⟩ = some (.slice (some ⟨B, 0, none⟩) 4 cl) ∧ w'.cell? ⟨V, 6, none⟩ = some (.slice yv nv cyv)) ∧ (w'.cell? ⟨P, 0, none⟩ = some (.int .i64 p1.id) ∧ w'.cell? ⟨P, 1, none⟩ = some (.int .i64 p1.flow) ∧ w'.cell? ⟨P, 2, none⟩ = some (.int .i64 p1.host) ∧ w'.cell? ⟨P, 3, none⟩ = some (.int .i64 p1.size) ∧ w'.cell? ⟨P, 4, none⟩ = some (.int .i64 p1.tm) ∧ w'.cell? ⟨P, 5, none⟩ = some (.int .i64 p1.ecn))) (first | (with_reducible exact HK.out _ hd1 hd2) | (with_reducible exact HK.out _ hV5 hP5) | (with_reducible exact HK.out _ ((set7_keep hV1 S1 (some ⟨B5, 0, none⟩) 4 cl5 y5 nv cy5).trans hV5) ((set7_keep hP1 S1 (some ⟨B5, 0, none⟩) 4 cl5 y5 nv cy5).trans hP5)) | (with_reducible exact HK.out _ ((set6_keep' hV2 p1).trans ((set7_keep hV1 S1 (some ⟨B5, 0, none⟩) 4 cl5 y5 nv cy5).trans hV5)) ((set6_keep' hP2 p1).trans ((set7_keep hP1 S1 (some ⟨B5, 0, none⟩) 4 cl5 y5 nv cy5).trans hP5))) | fail) (first | (go_at_call 27; refine (l8own_any S1 (some ⟨B, 0, none⟩) cl yv nv cyv LL tnv _ HCL.out HNV.out (LR.go HL4.out ((Below.refl _ u4).drew) (Nat.le_refl _)) (Row.below HR4.out ((Below.refl _ u4).drew))).mono ?_; rintro e w5 ⟨B5, A5, C5, cl5, y5, cy5, rfl, lq5, tq5, b5'⟩; have b5 : Below u4.heap.size u4 w5 := ((Below.refl _ u4).drew).trans b5'; have hV5 : w5.heap[V]? = u4.heap[V]? := b5.block V lV4; have hP5 : w5.heap[P]? = u4.heap[P]? := b5.block P lP4; have b05 : Below W0.heap.size W0 w5 := (H04.out).trans (Below.mono b5 (H04.out).size); obtain ⟨⟨_, r1, r2⟩, bw5⟩ := HA.out _ b05; have r1_0 := r1.cell 0; have r1_1 := r1.cell 1; have r1_2 := r1.cell 2; have r1_3 := r1.cell 3; have r1_4 := r1.cell 4; have r1_5 := r1.cell 5; have r1_6 := r1.cell 6; have r1f := r1.frozen; have r2_0 := r2.cell 0; have r2_1 := r2.cell 1; have r2_2 := r2.cell 2; have r2_3 := r2.cell 3; have r2_4 := r2.cell 4; have r2_5 := r2.cell 5; have r2f := r2.frozen; have HR1 : Hid (Sits w5 (w.heap.size + 1) shZero 29) := r1; have HR2 : Hid (Sits w5 (w.heap.size + 1 + 1) (pkCells pk0) 31) := r2; have HLQ5 : Hid (LQ u4.heap.size w5 B5 4 A5 C5 LL) := lq5; have HTQ5 : Hid (TQ u4.heap.size w5 y5 nv cy5 tnv B5 4 A5) := tq5; have HBW5 : Hid (Below w.heap.size w w5) := bw5; clear r1 r2 lq5 tq5 bw5 b05 b5'))
    all_goals go_wp2
    all_goals
      have so : Sits (set6 (set7 w5 (w.heap.size + 1) S1 (some ⟨B5, 0, none⟩) 4 cl5 y5 nv cy5) (w.heap.size + 1 + 1) p1) (w.heap.size + 1) (shCells S1 (some ⟨B5, 0, none⟩) 4 cl5 y5 nv cy5) 29 := (set6_keep' hVP _).trans (sh_put7 HR1.out _ _ _ _ _ _ _)
      have po : Sits (set6 (set7 w5 (w.heap.size + 1) S1 (some ⟨B5, 0, none⟩) 4 cl5 y5 nv cy5) (w.heap.size + 1 + 1) p1) (w.heap.size + 1 + 1) (pkCells p1) 31 := pk_put (W := set7 w5 (w.heap.size + 1) S1 (some ⟨B5, 0, none⟩) 4 cl5 y5 nv cy5) (p := pk0) ((set7_keep (fun e => hVP e.symm) _ _ _ _ _ _ _).trans HR2.out) p1
      have c9 := set76_chg w5 (w.heap.size + 1) (w.heap.size + 1 + 1) (w.heap.size + 1) (w.heap.size + 3) (by omega) (by omega) (by omega) (by omega) S1 (some ⟨B5, 0, none⟩) 4 cl5 y5 nv cy5 p1
      have hm := MO0.mono (MO0.of_lq (LQ.chg HLQ5.out c9 (by omega)) (TQ.chg HTQ5.out c9 (by omega)) HTE.out) (show w.heap.size ≤ u4.heap.size by omega)
      refine bodyPost_ret (ret_shpb (p := p1) Try.results7 rfl rfl rfl so po) rfl ?_
      exact pop_some HE.out hnb HK4.out HS1.out HL1.out HTT.out HP1.out hm HNL.out (c9.bel HBW5.out (Nat.le_succ _))

end Go.Proofs.Ytmjggolllijamaa

/-
  WHAT THE SPECIFICATION's CURSOR OVER THE BYTES OF A DRAW DOES (l1New, l1Byte, l1Below, l1PickInt): whatever the bytes are, each draw answers a number of its range, and nothing turns but the cursor.
-/
namespace Go.Proofs.Ytmjggolllijamaa
open Go.RowKit
set_option linter.unusedVariables false

/-- Of what was there nothing has turned but block B. -/
structure Only (B : Nat) (w w' : World) : Prop where
  os : w'.os = w.os
  tape : w'.tape = w.tape
  output : w'.output = w.output
  size : w.heap.size ≤ w'.heap.size
  block : ∀ k, k < w.heap.size → k ≠ B → w'.heap[k]? = w.heap[k]?

theorem Only.refl (B : Nat) (w : World) : Only B w w := ⟨rfl, rfl, rfl, Nat.le_refl _, fun _ _ _ => rfl⟩
theorem Only.trans {B : Nat} {a b c : World} (h : Only B a b) (k : Only B b c) : Only B a c :=
  ⟨k.os.trans h.os, k.tape.trans h.tape, k.output.trans h.output, Nat.le_trans h.size k.size, fun i hi hn => (k.block i (Nat.lt_of_lt_of_le hi h.size) hn).trans (h.block i hi hn)⟩
theorem Only.drew {B : Nat} {a w : World} (h : Only B a w) : Only B a w.drew := ⟨h.os, h.tape, h.output, h.size, h.block⟩
theorem Only.alloc {B : Nat} {a w : World} (h : Only B a w) (o : Obj) : Only B a (w.alloc o) :=
  h.trans ⟨rfl, rfl, rfl, by simp, fun k hk _ => Below.heap_alloc _ _ _ hk⟩
theorem Only.setCell {B : Nat} {a w : World} (h : Only B a w) {p : Addr} (hp : p.block = B) (u : Value) : Only B a (w.setCell p u) :=
  h.trans ⟨rfl, rfl, rfl, by simp [World.setCell], fun k hk hn => Below.heap_setCell _ _ _ _ (by omega)⟩
theorem Only.set {B : Nat} {a w : World} (h : Only B a w) (o : Nat) (u : Value) : Only B a (w.setCell ⟨B, o, none⟩ u) := h.setCell (p := ⟨B, o, none⟩) rfl u
theorem Only.cell {B : Nat} {w w' : World} (h : Only B w w') {p : Addr} (hp : p.block < w.heap.size) (hn : p.block ≠ B) : w'.cell? p = w.cell? p := World.cell?_of_block (w := w) (h.block p.block hp hn)
theorem Only.below {B C : Nat} {w w' : World} (h : Only B w w') (hB : C ≤ B) (hC : C ≤ w.heap.size) : Below C w w' :=
  ⟨h.os, h.tape, h.output, h.size, fun k hk => h.block k (by omega) (by omega)⟩

/-- The bytes that are drawn from: any, each in its place, ahead of block B. -/
def Code (w : World) (B : Nat) (a : Option Addr) (len : Nat) : Prop :=
  len = 0 ∨ ∃ b off : Nat, a = some ⟨b, off, none⟩ ∧ b < B ∧ ∀ k : Nat, k < len → ∃ v : Int, 0 ≤ v ∧ v ≤ 255 ∧ w.cell? ⟨b, off + k, none⟩ = some (.int .u8 v)
theorem Code.move {w w' : World} {B : Nat} {a : Option Addr} {len : Nat} (h : Code w B a len) (hc : ∀ b o, b < B → w'.cell? ⟨b, o, none⟩ = w.cell? ⟨b, o, none⟩) : Code w' B a len := by
  rcases h with h | ⟨b, off, ha, hb, hk⟩
  · exact .inl h
  · refine .inr ⟨b, off, ha, hb, fun k hk' => ?_⟩
    obtain ⟨v, v0, v1, hv⟩ := hk k hk'
    exact ⟨v, v0, v1, (hc b _ hb).trans hv⟩
/-- A cursor at block B. -/
def Cur (w : World) (B : Nat) (a : Option Addr) (len cap : Nat) : Prop :=
  B < w.heap.size ∧ len ≤ 9223372036854775807 ∧ (∃ i h : Int, 0 ≤ i ∧ i ≤ len ∧ w.cell? ⟨B, 0, none⟩ = some (.slice a len cap) ∧ w.cell? ⟨B, 1, none⟩ = some (.int .i64 i) ∧ w.cell? ⟨B, 2, none⟩ = some (.int .i64 h)) ∧
    w.frozen? ⟨B, 1, none⟩ = false ∧ w.frozen? ⟨B, 2, none⟩ = false ∧ Code w B a len
theorem Cur.setH {w : World} {B : Nat} {a : Option Addr} {len cap : Nat} (hc : Cur w B a len cap) (x : Int) : Cur (w.setCell ⟨B, 2, none⟩ (.int .i64 x)) B a len cap := by
  obtain ⟨hB, hl, ⟨i, h, i0, i1, c0, c1, c2⟩, f1, f2, hcode⟩ := hc
  refine ⟨by simpa [World.setCell] using hB, hl, ⟨i, x, i0, i1, ?_, ?_, ?_⟩, ?_, ?_, hcode.move fun b o hb => ?_⟩
  · simp [go_sem, c0]
  · simp [go_sem, c1]
  · simp [go_sem, c2]
  · simp [go_sem, f1]
  · simp [go_sem, f2]
  · exact World.cell?_setCell_far _ _ _ _ (by show B ≠ b; omega)
theorem Cur.setI {w : World} {B : Nat} {a : Option Addr} {len cap : Nat} (hc : Cur w B a len cap) (x : Int) (x0 : 0 ≤ x) (x1 : x ≤ len) : Cur (w.setCell ⟨B, 1, none⟩ (.int .i64 x)) B a len cap := by
  obtain ⟨hB, hl, ⟨i, h, i0, i1, c0, c1, c2⟩, f1, f2, hcode⟩ := hc
  refine ⟨by simpa [World.setCell] using hB, hl, ⟨x, h, x0, x1, ?_, ?_, ?_⟩, ?_, ?_, hcode.move fun b o hb => ?_⟩
  · simp [go_sem, c0]
  · simp [go_sem, c1]
  · simp [go_sem, c2]
  · simp [go_sem, f1]
  · simp [go_sem, f2]
  · exact World.cell?_setCell_far _ _ _ _ (by show B ≠ b; omega)
theorem Cur.alloc {w : World} {B : Nat} {a : Option Addr} {len cap : Nat} (hc : Cur w B a len cap) (c : Array Value) (t : TypeId) : Cur (w.alloc (.cells c t)) B a len cap := by
  obtain ⟨hB, hl, ⟨i, h, i0, i1, c0, c1, c2⟩, f1, f2, hcode⟩ := hc
  have e : ∀ b o, b < w.heap.size → (w.alloc (.cells c t)).cell? ⟨b, o, none⟩ = w.cell? ⟨b, o, none⟩ := fun b o hb => World.cell?_alloc_old w _ ⟨b, o, none⟩ (by show b ≠ _; omega)
  have f : ∀ x, (w.alloc (.cells c t)).frozen? x = w.frozen? x := fun x => frozen?_alloc_cells w c t x
  exact ⟨by simp; omega, hl, ⟨i, h, i0, i1, (e _ _ hB).trans c0, (e _ _ hB).trans c1, (e _ _ hB).trans c2⟩, (f _).trans f1, (f _).trans f2, hcode.move fun b o hb => e b o (by omega)⟩

theorem and_255 (x : Int) : bits .and .i64 x 255 = x % 256 := and_low x 8 (by decide)

set_option maxHeartbeats 400000 in
theorem byte_any (B : Nat) (a : Option Addr) (len cap : Nat) (w : World) (hc : Cur w B a len cap) :
    Calls Try.prog 73 #[.pointer (some ⟨B, 0, none⟩)] w fun e w' => ∃ x : Int, e = .returned (.int .i64 x) ∧ 0 ≤ x ∧ x ≤ 255 ∧ Cur w' B a len cap ∧ Only B w w' := by
  have HC : Hid (Cur w B a len cap) := hc
  obtain ⟨hB, hl, ⟨i, h, i0, i1, c0, c1, c2⟩, f1, f2, hcode⟩ := hc
  have hm := and_255
  by_cases hi : i < len
  · obtain ⟨b, off, rfl, hb, hk⟩ : ∃ b off : Nat, a = some ⟨b, off, none⟩ ∧ b < B ∧ ∀ k : Nat, k < len → ∃ v : Int, 0 ≤ v ∧ v ≤ 255 ∧ w.cell? ⟨b, off + k, none⟩ = some (.int .u8 v) := by
      rcases hcode with h | h
      · omega
      · exact h
    obtain ⟨n, rfl⟩ := Int.eq_ofNat_of_zero_le i0
    obtain ⟨v, v0, v1, hv⟩ := hk n (by omega)
    have hne : ¬ b = B := by omega
    clear hk hcode
    go_enter Try.func73, Try.ntmps73
    go_wp2
    go_region
    go_wp2
    go_region
    go_wp2
    go_region
    go_wp2
    go_ret
    exact ⟨_, rfl, by omega, by omega, Cur.setI (Cur.setH HC.out _) _ (by omega) (by omega), (((((Only.refl B w).set 2 _).set 1 _).drew).drew).drew⟩
  · clear hcode
    go_enter Try.func73, Try.ntmps73
    go_wp2
    go_region
    go_wp2
    go_region
    go_wp2
    go_ret
    exact ⟨_, rfl, by omega, by omega, Cur.setH HC.out _, (((Only.refl B w).set 2 _).drew).drew⟩

theorem below_any (B : Nat) (a : Option Addr) (len cap : Nat) (w : World) (hc : Cur w B a len cap) (n : Int) (n0 : 1 ≤ n) (n1 : n ≤ 9223372036854775807) :
    Calls Try.prog 46 #[.pointer (some ⟨B, 0, none⟩), .int .i64 n] w fun e w' => ∃ x : Int, e = .returned (.int .i64 x) ∧ 0 ≤ x ∧ x < n ∧ Cur w' B a len cap ∧ Only B w w' := by
  have hon : Only B w w := Only.refl _ _
  by_cases h : n ≤ 256
  · go_enter Try.func46, Try.ntmps46
    go_wp2_with (go_at_call 73; refine (byte_any B a len cap _ hc).mono ?_; clear hc; rintro e w' ⟨x, rfl, x0, x1, hc, ho⟩; replace hon := hon.trans ho; clear ho; have r0 := Int.emod_nonneg x (show n ≠ 0 by omega); have r1 := Int.emod_lt_of_pos x (show 0 < n by omega))
    go_ret
    exact ⟨_, rfl, by omega, by omega, hc, hon⟩
  · go_enter Try.func46, Try.ntmps46
    go_wp2_with (go_at_call 73; refine (byte_any B a len cap _ hc).mono ?_; clear hc; rintro e w' ⟨x, rfl, x0, x1, hc, ho⟩; replace hon := hon.trans ho; clear ho)
    go_ret
    exact ⟨_, rfl, Int.emod_nonneg _ (by omega), Int.emod_lt_of_pos _ (by omega), hc, hon⟩

theorem pick_any (Q : Int → Prop) (B : Nat) (a : Option Addr) (len cap : Nat) (w : World) (hc : Cur w B a len cap) (L n : Nat) (n0 : 1 ≤ n) (n1 : n ≤ 256) (hL : L < w.heap.size) (hne : L ≠ B)
    (hq : ∀ k, k < n → ∃ v : Int, w.cell? ⟨L, k, none⟩ = some (.int .i64 v) ∧ Q v) :
    Calls Try.prog 45 #[.pointer (some ⟨B, 0, none⟩), .slice (some ⟨L, 0, none⟩) n n] w fun e w' => ∃ x : Int, e = .returned (.int .i64 x) ∧ Q x ∧ Cur w' B a len cap ∧ Only B w w' := by
  have HQ : Hid _ := hq
  clear hq
  go_enter Try.func45, Try.ntmps45
  go_wp2_with (go_at_call 46; refine (below_any B a len cap _ hc _ (by omega) (by omega)).mono ?_; clear hc; rintro e w' ⟨x, rfl, x0, x1, hc, hon⟩; obtain ⟨j, rfl⟩ := Int.eq_ofNat_of_zero_le x0; obtain ⟨v, hv, hqv⟩ := HQ.out j (by omega); have hv' : w'.cell? ⟨L, j, none⟩ = some (.int .i64 v) := (hon.cell hL hne).trans hv; clear hv; have QV : Hid (Q v) := hqv; clear hqv)
  go_ret
  exact ⟨v, rfl, QV.out, hc, hon⟩

theorem new_cur {a : Option Addr} {len cap : Nat} {w : World} (h : Int) (t : TypeId) (hl : len ≤ 9223372036854775807) (hcode : Code w w.heap.size a len) :
    Cur (w.alloc (.cells #[.slice a len cap, .int .i64 0, .int .i64 h] t)) w.heap.size a len cap := by
  refine ⟨by simp, hl, ⟨0, h, by omega, by omega, ?_, ?_, ?_⟩, ?_, ?_, hcode.move fun b o hb => World.cell?_alloc_old w _ ⟨b, o, none⟩ (by show b ≠ _; omega)⟩
  all_goals simp [go_sem]

set_option maxHeartbeats 400000 in
theorem new_any (a : Option Addr) (len cap : Nat) (w : World) (hl : len ≤ 9223372036854775807) (hcode : Code w w.heap.size a len) :
    Calls Try.prog 42 #[.slice a len cap] w fun e w' => e = .returned (.pointer (some ⟨w.heap.size, 0, none⟩)) ∧ Cur w' w.heap.size a len cap ∧ Below w.heap.size w w' := by
  have HC : Hid (Code w w.heap.size a len) := hcode
  clear hcode
  go_enter Try.func42, Try.ntmps42
  go_wp2
  go_loop [3, 4] (fun x y => ∃ (k : Nat) (h : Int), k ≤ len ∧ y = .int .i64 k ∧ x = .int .i64 h) (fun _ y => len - (intOf y).toNat)
  case atStart => exact ⟨0, _, by omega, rfl, rfl⟩
  case round =>
    obtain ⟨k, h, k1, rfl, rfl⟩ := hrel
    by_cases hlt : k < len
    · by_cases h4 : (k : Int) < 4000
      · obtain ⟨b, off, rfl, hb, hk⟩ : ∃ b off : Nat, a = some ⟨b, off, none⟩ ∧ b < w.heap.size ∧ ∀ k : Nat, k < len → ∃ v : Int, 0 ≤ v ∧ v ≤ 255 ∧ w.cell? ⟨b, off + k, none⟩ = some (.int .u8 v) := by
          rcases HC.out with h | h
          · omega
          · exact h
        obtain ⟨v, v0, v1, hv⟩ := hk k hlt
        clear hk
        go_wp2
        go_round
        case rel => exact ⟨k + 1, _, by omega, by go_num, rfl⟩
        case measure => simp [intOf]; omega
      · go_wp2
        go_ret
        exact ⟨rfl, new_cur _ _ (by omega) HC.out, (Below.refl _ _).alloc (Nat.le_refl _) _⟩
    · go_wp2
      go_ret
      exact ⟨rfl, new_cur _ _ (by omega) HC.out, (Below.refl _ _).alloc (Nat.le_refl _) _⟩

end Go.Proofs.Ytmjggolllijamaa

/-
  WHAT THE DRAWS OF CHAPTER 1 ANSWER: whatever the bytes are, ints; nothing that was there turns.
-/
namespace Go.Proofs.Ytmjggolllijamaa
open Go.RowKit
set_option linter.unusedVariables false

/-- An int. -/
def In64 (x : Int) : Prop := -9223372036854775808 ≤ x ∧ x ≤ 9223372036854775807
theorem in_wrap (x : Int) : In64 (wrap64 x) := by unfold In64 wrap64; omega

/-- A list that is written out: each of its numbers has what is asked. -/
theorem cells_all {w : World} {Q : Int → Prop} (c : Array Value) (t : TypeId) (hc : ∀ v ∈ c.toList, ∃ x : Int, v = .int .i64 x ∧ Q x) : ∀ k, k < c.size → ∃ x : Int, (w.alloc (.cells c t)).cell? ⟨w.heap.size, k, none⟩ = some (.int .i64 x) ∧ Q x := by
  intro k hk
  obtain ⟨x, hx, hq⟩ := hc c[k] (by simp)
  refine ⟨x, ?_, hq⟩
  rw [World.cell?_alloc_new, getElem?_pos c k hk, hx]

theorem pick_lit (Q : Int → Prop) (B : Nat) (a : Option Addr) (len cap : Nat) (w : World) (hc : Cur w B a len cap) (c : Array Value) (t : TypeId) (n : Nat) (hn : c.size = n) (n0 : 1 ≤ n) (n1 : n ≤ 256) (hq : ∀ v ∈ c.toList, ∃ x : Int, v = .int .i64 x ∧ Q x) :
    Calls Try.prog 45 #[.pointer (some ⟨B, 0, none⟩), .slice (some ⟨w.heap.size, 0, none⟩) n n] (w.alloc (.cells c t)) fun e w' => ∃ x : Int, e = .returned (.int .i64 x) ∧ Q x ∧ Cur w' B a len cap ∧ Only B w w' := by
  have hB := hc.1
  refine (pick_any Q B a len cap _ (hc.alloc c t) w.heap.size n n0 n1 (by simp) (by omega) (by subst hn; exact cells_all c t hq)).mono ?_
  rintro e w' ⟨x, rfl, hx, hc', ho⟩
  exact ⟨x, rfl, hx, hc', ((Only.refl _ _).alloc _).trans ho⟩

end Go.Proofs.Ytmjggolllijamaa

/-
  MORE OF THE CURSOR: l1Once; a pick out of a list that lies somewhere.
-/
namespace Go.Proofs.Ytmjggolllijamaa
open Go.RowKit
set_option linter.unusedVariables false

theorem Only.setNew {B : Nat} {a w : World} (h : Only B a w) {V o : Nat} (hV : a.heap.size ≤ V) (u : Value) : Only B a (w.setCell ⟨V, o, none⟩ u) :=
  ⟨h.os, h.tape, h.output, by simpa [World.setCell] using h.size, fun k hk hn => (Below.heap_setCell w ⟨V, o, none⟩ u k (by show k ≠ V; omega)).trans (h.block k hk hn)⟩
theorem Sits.only {W W' : World} {B V : Nat} {vs : Array Value} {t : TypeId} (h : Sits W V vs t) (ho : Only B W W') (hn : V ≠ B) : Sits W' V vs t := (ho.block V h.lt hn).trans h
theorem Cur.drew {w : World} {B : Nat} {a : Option Addr} {len cap : Nat} (h : Cur w B a len cap) : Cur w.drew B a len cap := h
theorem Cur.setNew {w : World} {B : Nat} {a : Option Addr} {len cap : Nat} (h : Cur w B a len cap) {V o : Nat} (hV : B < V) (u : Value) : Cur (w.setCell ⟨V, o, none⟩ u) B a len cap := by
  obtain ⟨hB, hl, ⟨i, k, i0, i1, c0, c1, c2⟩, f1, f2, hcode⟩ := h
  have e : ∀ b x, b ≠ V → (w.setCell ⟨V, o, none⟩ u).cell? ⟨b, x, none⟩ = w.cell? ⟨b, x, none⟩ := fun b x hb => World.cell?_of_block (w := w) (Below.heap_setCell w ⟨V, o, none⟩ u b hb)
  have f : ∀ b x, b ≠ V → (w.setCell ⟨V, o, none⟩ u).frozen? ⟨b, x, none⟩ = w.frozen? ⟨b, x, none⟩ := fun b x hb => World.frozen?_of_block (w := w) (Below.heap_setCell w ⟨V, o, none⟩ u b hb)
  exact ⟨by simpa [World.setCell] using hB, hl, ⟨i, k, i0, i1, (e _ _ (by omega)).trans c0, (e _ _ (by omega)).trans c1, (e _ _ (by omega)).trans c2⟩, (f _ _ (by omega)).trans f1, (f _ _ (by omega)).trans f2, hcode.move fun b x hb => e b x (by omega)⟩

theorem wrap_in {x : Int} (h0 : -9223372036854775808 ≤ x) (h1 : x ≤ 9223372036854775807) : IntKind.i64.wrap x = x := by rw [IntKind.wrap_i64]; omega

theorem once_any (B : Nat) (a : Option Addr) (len cap : Nat) (w : World) (hc : Cur w B a len cap) (n : Int) (n0 : 1 ≤ n) (n1 : n ≤ 9223372036854775807) :
    Calls Try.prog 72 #[.pointer (some ⟨B, 0, none⟩), .int .i64 n] w fun e w' => ∃ x : Bool, e = .returned (.bool x) ∧ Cur w' B a len cap ∧ Only B w w' := by
  go_enter Try.func72, Try.ntmps72
  go_wp2_with (go_at_call 46; refine (below_any B a len cap _ hc _ n0 n1).mono ?_; clear hc; rintro e w' ⟨x, rfl, x0, x1, hc, ho⟩)
  go_ret
  exact ⟨_, rfl, hc, ho⟩

/-- A pick out of a list that is written out, wherever it lies. -/
theorem pick_sits (Q : Int → Prop) (B : Nat) (a : Option Addr) (len cap : Nat) (w : World) (hc : Cur w B a len cap) (L n : Nat) (c : Array Value) (t : TypeId) (hs : Sits w L c t) (hne : L ≠ B) (hn : c.size = n) (n0 : 1 ≤ n) (n1 : n ≤ 256) (hq : ∀ v ∈ c.toList, ∃ x : Int, v = .int .i64 x ∧ Q x) :
    Calls Try.prog 45 #[.pointer (some ⟨B, 0, none⟩), .slice (some ⟨L, 0, none⟩) n n] w fun e w' => ∃ x : Int, e = .returned (.int .i64 x) ∧ Q x ∧ Cur w' B a len cap ∧ Only B w w' := by
  refine pick_any Q B a len cap w hc L n n0 n1 hs.lt hne fun k hk => ?_
  obtain ⟨x, hx, hq'⟩ := hq (c[k]'(by omega)) (by simp)
  exact ⟨x, by rw [hs.cell, getElem?_pos c k (by omega), hx], hq'⟩

end Go.Proofs.Ytmjggolllijamaa

/-
  PICKS OUT OF LISTS OF TWO TO FIVE NUMBERS.
-/
namespace Go.Proofs.Ytmjggolllijamaa
open Go.RowKit
set_option linter.unusedVariables false

theorem pick2q (Q : Int → Prop) (B : Nat) (a : Option Addr) (len cap : Nat) (w : World) (hc : Cur w B a len cap) (L : Nat) (t : TypeId) (x y : Int) (hs : Sits w L #[.int .i64 x, .int .i64 y] t) (hne : L ≠ B) (hx : Q x) (hy : Q y) :
    Calls Try.prog 45 #[.pointer (some ⟨B, 0, none⟩), .slice (some ⟨L, 0, none⟩) 2 2] w fun e w' => ∃ x : Int, e = .returned (.int .i64 x) ∧ Q x ∧ Cur w' B a len cap ∧ Only B w w' := by
  refine pick_sits Q B a len cap w hc L 2 _ t hs hne rfl (by omega) (by omega) ?_
  intro v hv
  simp only [List.mem_cons, List.not_mem_nil, or_false] at hv
  rcases hv with rfl | rfl
  · exact ⟨_, rfl, hx⟩
  · exact ⟨_, rfl, hy⟩

theorem pick3q (Q : Int → Prop) (B : Nat) (a : Option Addr) (len cap : Nat) (w : World) (hc : Cur w B a len cap) (L : Nat) (t : TypeId) (x y z : Int) (hs : Sits w L #[.int .i64 x, .int .i64 y, .int .i64 z] t) (hne : L ≠ B) (hx : Q x) (hy : Q y) (hz : Q z) :
    Calls Try.prog 45 #[.pointer (some ⟨B, 0, none⟩), .slice (some ⟨L, 0, none⟩) 3 3] w fun e w' => ∃ x : Int, e = .returned (.int .i64 x) ∧ Q x ∧ Cur w' B a len cap ∧ Only B w w' := by
  refine pick_sits Q B a len cap w hc L 3 _ t hs hne rfl (by omega) (by omega) ?_
  intro v hv
  simp only [List.mem_cons, List.not_mem_nil, or_false] at hv
  rcases hv with rfl | rfl | rfl
  · exact ⟨_, rfl, hx⟩
  · exact ⟨_, rfl, hy⟩
  · exact ⟨_, rfl, hz⟩

theorem pick4q (Q : Int → Prop) (B : Nat) (a : Option Addr) (len cap : Nat) (w : World) (hc : Cur w B a len cap) (L : Nat) (t : TypeId) (x y z u : Int) (hs : Sits w L #[.int .i64 x, .int .i64 y, .int .i64 z, .int .i64 u] t) (hne : L ≠ B) (hx : Q x) (hy : Q y) (hz : Q z) (hu : Q u) :
    Calls Try.prog 45 #[.pointer (some ⟨B, 0, none⟩), .slice (some ⟨L, 0, none⟩) 4 4] w fun e w' => ∃ x : Int, e = .returned (.int .i64 x) ∧ Q x ∧ Cur w' B a len cap ∧ Only B w w' := by
  refine pick_sits Q B a len cap w hc L 4 _ t hs hne rfl (by omega) (by omega) ?_
  intro v hv
  simp only [List.mem_cons, List.not_mem_nil, or_false] at hv
  rcases hv with rfl | rfl | rfl | rfl
  · exact ⟨_, rfl, hx⟩
  · exact ⟨_, rfl, hy⟩
  · exact ⟨_, rfl, hz⟩
  · exact ⟨_, rfl, hu⟩

theorem pick5q (Q : Int → Prop) (B : Nat) (a : Option Addr) (len cap : Nat) (w : World) (hc : Cur w B a len cap) (L : Nat) (t : TypeId) (x y z u v : Int) (hs : Sits w L #[.int .i64 x, .int .i64 y, .int .i64 z, .int .i64 u, .int .i64 v] t) (hne : L ≠ B) (hx : Q x) (hy : Q y) (hz : Q z) (hu : Q u) (hv : Q v) :
    Calls Try.prog 45 #[.pointer (some ⟨B, 0, none⟩), .slice (some ⟨L, 0, none⟩) 5 5] w fun e w' => ∃ x : Int, e = .returned (.int .i64 x) ∧ Q x ∧ Cur w' B a len cap ∧ Only B w w' := by
  refine pick_sits Q B a len cap w hc L 5 _ t hs hne rfl (by omega) (by omega) ?_
  intro k hk
  simp only [List.mem_cons, List.not_mem_nil, or_false] at hk
  rcases hk with rfl | rfl | rfl | rfl | rfl
  · exact ⟨_, rfl, hx⟩
  · exact ⟨_, rfl, hy⟩
  · exact ⟨_, rfl, hz⟩
  · exact ⟨_, rfl, hu⟩
  · exact ⟨_, rfl, hv⟩

end Go.Proofs.Ytmjggolllijamaa

/-
  A PACKET DRAWN: l3pkt.
-/
namespace Go.Proofs.Ytmjggolllijamaa
open Go.RowKit
set_option linter.unusedVariables false

/-- A packet as it is drawn. -/
def Pk.drawn (p : Pk) (id tm : Int) : Prop := p.id = id ∧ p.tm = tm ∧ (0 ≤ p.flow ∧ p.flow ≤ 15) ∧ (0 ≤ p.host ∧ p.host ≤ 3) ∧ (1 ≤ p.size ∧ p.size ≤ 2000) ∧ (0 ≤ p.ecn ∧ p.ecn ≤ 3)

theorem pk_store {W : World} {B : Nat} {t : TypeId} {a0 a1 a2 a3 a4 a5 v0 v1 v2 v3 v4 v5 : Value} (h : Sits W B #[a0, a1, a2, a3, a4, a5] t) : Sits ((((((W.setCell ⟨B, 0, none⟩ v0).setCell ⟨B, 1, none⟩ v1).setCell ⟨B, 2, none⟩ v2).setCell ⟨B, 3, none⟩ v3).setCell ⟨B, 4, none⟩ v4).setCell ⟨B, 5, none⟩ v5) B #[v0, v1, v2, v3, v4, v5] t := by
  have h0 : Sits (W.setCell ⟨B, 0, none⟩ v0) B #[v0, a1, a2, a3, a4, a5] t := h.set 0 v0
  have h1 : Sits ((W.setCell ⟨B, 0, none⟩ v0).setCell ⟨B, 1, none⟩ v1) B #[v0, v1, a2, a3, a4, a5] t := h0.set 1 v1
  have h2 : Sits (((W.setCell ⟨B, 0, none⟩ v0).setCell ⟨B, 1, none⟩ v1).setCell ⟨B, 2, none⟩ v2) B #[v0, v1, v2, a3, a4, a5] t := h1.set 2 v2
  have h3 : Sits ((((W.setCell ⟨B, 0, none⟩ v0).setCell ⟨B, 1, none⟩ v1).setCell ⟨B, 2, none⟩ v2).setCell ⟨B, 3, none⟩ v3) B #[v0, v1, v2, v3, a4, a5] t := h2.set 3 v3
  have h4 : Sits (((((W.setCell ⟨B, 0, none⟩ v0).setCell ⟨B, 1, none⟩ v1).setCell ⟨B, 2, none⟩ v2).setCell ⟨B, 3, none⟩ v3).setCell ⟨B, 4, none⟩ v4) B #[v0, v1, v2, v3, v4, a5] t := h3.set 4 v4
  exact h4.set 5 v5
/-- A packet, handed back. -/
theorem ret_p {fn : Func} {tmps : Array Value} {W : World} {i B : Nat} {p : Pk} {t : TypeId} (hr : fn.results = #[.cell i 31]) (hi : tmps[i]?.getD undef = .pointer (some ⟨B, 0, none⟩)) (hs : Sits W B (pkCells p) t) : (results fn tmps).run Try.prog W = .ok p.val W := by
  have e0 : W.cell? ⟨B, 0, none⟩ = some (.int .i64 p.id) := hs.cell 0
  have e1 : W.cell? ⟨B, 1, none⟩ = some (.int .i64 p.flow) := hs.cell 1
  have e2 : W.cell? ⟨B, 2, none⟩ = some (.int .i64 p.host) := hs.cell 2
  have e3 : W.cell? ⟨B, 3, none⟩ = some (.int .i64 p.size) := hs.cell 3
  have e4 : W.cell? ⟨B, 4, none⟩ = some (.int .i64 p.tm) := hs.cell 4
  have e5 : W.cell? ⟨B, 5, none⟩ = some (.int .i64 p.ecn) := hs.cell 5
  simp [results, hr, hi, go_sem, e0, e1, e2, e3, e4, e5]

set_option maxHeartbeats 1000000 in
theorem l3pkt_any (B : Nat) (a : Option Addr) (len cap : Nat) (w : World) (hc : Cur w B a len cap) (id tm : Int) :
    Calls Try.prog 44 #[.pointer (some ⟨B, 0, none⟩), .int .i64 id, .int .i64 tm] w fun e w' => ∃ p : Pk, e = .returned p.val ∧ p.drawn id tm ∧ Cur w' B a len cap ∧ Only B w w' := by
  have hB := hc.1
  have C0 : Hid (Cur (w.alloc (.cells #[.int .i64 0, .int .i64 0, .int .i64 0, .int .i64 0, .int .i64 0, .int .i64 0] 31)) B a len cap) := hc.alloc _ _
  have Z0 : Hid (Sits (w.alloc (.cells #[.int .i64 0, .int .i64 0, .int .i64 0, .int .i64 0, .int .i64 0, .int .i64 0] 31)) w.heap.size #[.int .i64 0, .int .i64 0, .int .i64 0, .int .i64 0, .int .i64 0, .int .i64 0] 31) := Sits.new _ _ _
  have O0 : Hid (Only B w (w.alloc (.cells #[.int .i64 0, .int .i64 0, .int .i64 0, .int .i64 0, .int .i64 0, .int .i64 0] 31))) := (Only.refl B w).alloc _
  clear hc
  go_enter Try.func44, Try.ntmps44
  go_wp2_with fail
  refine (below_any B a len cap _ C0.out 5 (by omega) (by omega)).mono ?_
  rintro o w1 ⟨x1, rfl, x10, x11, c1, o1⟩
  have C1 : Hid _ := c1
  have Z1 : Hid _ := Sits.only Z0.out o1 (by omega)
  have O1 : Hid _ := Only.trans O0.out o1
  clear c1 o1 C0 Z0 O0
  go_wp2_with fail
  refine (below_any B a len cap _ C1.out 3 (by omega) (by omega)).mono ?_
  rintro o w2 ⟨x2, rfl, x20, x21, c2, o2⟩
  have C2 : Hid _ := c2
  have Z2 : Hid _ := Sits.only Z1.out o2 (by omega)
  have O2 : Hid _ := Only.trans O1.out o2
  clear c2 o2 C1 Z1 O1
  go_wp2_with fail
  refine Calls.mono (pick_lit (fun x => 1 ≤ x ∧ x ≤ 2000) B a len cap _ C2.out _ _ 6 ?n1 ?n2 ?n3 ?q) ?_
  case n1 => rfl
  case n2 => omega
  case n3 => omega
  case q =>
    intro v hv
    simp only [List.mem_cons, List.not_mem_nil, or_false] at hv
    rcases hv with rfl | rfl | rfl | rfl | rfl | rfl
    all_goals exact ⟨_, rfl, by omega, by omega⟩
  rintro o w3 ⟨x3, rfl, ⟨x30, x31⟩, c3, o3⟩
  have C3 : Hid _ := c3
  have Z3 : Hid _ := Sits.only Z2.out o3 (by omega)
  have O3 : Hid _ := Only.trans O2.out o3
  clear c3 o3 C2 Z2 O2
  go_wp2_with fail
  refine (below_any B a len cap _ C3.out 4 (by omega) (by omega)).mono ?_
  rintro o w4 ⟨x4, rfl, x40, x41, c4, o4⟩
  have C4 : Hid _ := c4
  have z4 := Sits.only Z3.out o4 (by omega)
  have O4 : Hid _ := Only.trans O3.out o4
  have e0 : w4.cell? ⟨w.heap.size, 0, none⟩ = some (.int .i64 0) := z4.cell 0
  have e1 : w4.cell? ⟨w.heap.size, 1, none⟩ = some (.int .i64 0) := z4.cell 1
  have e2 : w4.cell? ⟨w.heap.size, 2, none⟩ = some (.int .i64 0) := z4.cell 2
  have e3 : w4.cell? ⟨w.heap.size, 3, none⟩ = some (.int .i64 0) := z4.cell 3
  have e4 : w4.cell? ⟨w.heap.size, 4, none⟩ = some (.int .i64 0) := z4.cell 4
  have e5 : w4.cell? ⟨w.heap.size, 5, none⟩ = some (.int .i64 0) := z4.cell 5
  have fz := z4.frozen
  have Z4 : Hid _ := z4
  clear c4 o4 C3 Z3 O3 z4
  go_wp2
  refine bodyPost_ret (ret_p (p := ⟨id, x1, x2, x3, tm, x4⟩) (t := 31) (B := w.heap.size) Try.results44 rfl ?_) rfl ⟨_, rfl, ⟨rfl, rfl, ⟨x10, by show x1 ≤ 15; omega⟩, ⟨x20, by show x2 ≤ 3; omega⟩, ⟨x30, x31⟩, ⟨x40, by show x4 ≤ 3; omega⟩⟩, ?_, ?_⟩
  · exact pk_store Z4.out
  · exact (((((Cur.setNew (Cur.setNew C4.out hB _) hB _).setNew hB _).setNew hB _).setNew hB _).setNew hB _)
  · exact (((((Only.setNew (Only.setNew O4.out (Nat.le_refl _) _) (Nat.le_refl _) _).setNew (Nat.le_refl _) _).setNew (Nat.le_refl _) _).setNew (Nat.le_refl _) _).setNew (Nat.le_refl _) _)

end Go.Proofs.Ytmjggolllijamaa

/-
  A QUEUE DRAWN: l3draw.
-/
namespace Go.Proofs.Ytmjggolllijamaa
open Go.RowKit
set_option linter.unusedVariables false

theorem step_pkt {w : World} {ops : Array Oper} {o : Oper} {act : Act} {K : Act → World → Prop} {Q : Exit → Act → World → Prop} {E : Prop} (hgd : o.guard = none) (x y z : Operand) (t1 t2 t3 : TypeId)
    (ho : o.op = .call { callee := .value (.func 44), args := #[x, y, z], argTypes := #[t1, t2, t3] })
    (B : Nat) (id tm : Int) (hx : act.eval x = .pointer (some ⟨B, 0, none⟩)) (hy : act.eval y = .int .i64 id) (hz : act.eval z = .int .i64 tm) (a : Option Addr) (len cap : Nat) (hc : Cur w B a len cap)
    (h : ∀ (p : Pk) w', p.drawn id tm → Cur w' B a len cap → Only B w w' → K (act.put o.dst p.val) w') :
    if Region.wanted o (yielded ops act.tmps) = true then Oper.wp Try.prog o act w K Q else E := by
  have hw : Region.wanted o (yielded ops act.tmps) = true := by simp [Region.wanted, hgd]
  rw [if_pos hw]
  unfold Oper.wp
  have he : (execOp act.eval o).run Try.prog w = .ok (.enter 44 #[.pointer (some ⟨B, 0, none⟩), .int .i64 id, .int .i64 tm]) w := by
    have hfun := Try.func44
    simp [execOp, ho, resolve, invoke, go_sem, Act.eval]
    exact ⟨by simpa [Act.eval] using hx, by simpa [Act.eval] using hy, by simpa [Act.eval] using hz⟩
  rw [he, Oper.upon_enter]
  refine (l3pkt_any B a len cap w hc id tm).mono ?_
  rintro e w' ⟨p, rfl, hp, cc, oo⟩
  exact h p w' hp cc oo

/-- Packets as they are drawn, up to the moment t. -/
def LineI (g : Nat → Pk) (k : Nat) (t : Int) : Prop := (∀ j, j < k → ((g j).good = true ∧ (g j).id = (j : Int) + 1 ∧ (g j).tm ≤ t)) ∧ ∀ i j, i < j → j < k → (g i).tm ≤ (g j).tm
theorem LineI.zero (g : Nat → Pk) (t : Int) : LineI g 0 t := ⟨fun j hj => absurd hj (Nat.not_lt_zero _), fun i j _ hj => absurd hj (Nat.not_lt_zero _)⟩
theorem LineI.more {g : Nat → Pk} {k : Nat} {t u : Int} (h : LineI g k t) (htu : t ≤ u) (h0 : 0 ≤ u) (h1 : u ≤ 1000000000000) (hk : k ≤ 1000) {p : Pk} (hp : p.drawn ((k : Int) + 1) u) : LineI (fun i => if i = k then p else g i) (k + 1) u := by
  obtain ⟨p1, p2, p3, p4, p5, p6⟩ := hp
  have pg : p.good = true := by
    unfold Pk.good inB
    simp only [Bool.and_eq_true, decide_eq_true_eq]
    omega
  refine ⟨fun j hj => ?_, fun i j hij hj => ?_⟩
  · by_cases e : j = k
    · subst e; simp only [if_true]; exact ⟨pg, p1, by omega⟩
    · simp only [if_neg e]
      obtain ⟨q1, q2, q3⟩ := h.1 j (by omega)
      exact ⟨q1, q2, by omega⟩
  · by_cases e : j = k
    · subst e
      simp only [if_true, if_neg (show ¬ i = j by omega)]
      have := (h.1 i (by omega)).2.2
      omega
    · simp only [if_neg e, if_neg (show ¬ i = k by omega)]
      exact h.2 i j hij (by omega)
theorem LineI.line {g : Nat → Pk} {k : Nat} {t lim : Int} (h : LineI g k t) (l1 : 1 ≤ lim) (l2 : lim ≤ 40) (hk : (k : Int) ≤ lim) : fifoB g k lim = true := by
  unfold fifoB inB lineB
  simp only [Bool.and_eq_true, decide_eq_true_eq]
  refine ⟨⟨l1, l2⟩, hk, fun j hj => ⟨(h.1 j hj).1, fun i hi => ⟨h.2 i j hi hj, ?_⟩⟩⟩
  have e1 := (h.1 i (by omega)).2.1
  have e2 := (h.1 j hj).2.1
  omega

/-- A queue, handed back. -/
theorem ret_f {fn : Func} {tmps : Array Value} {W : World} {i B : Nat} {v u : Value} {t : TypeId} (hr : fn.results = #[.cell i 84]) (hi : tmps[i]?.getD undef = .pointer (some ⟨B, 0, none⟩)) (hs : Sits W B #[v, u] t) : (results fn tmps).run Try.prog W = .ok (.agg #[v, u]) W := by
  have e0 : W.cell? ⟨B, 0, none⟩ = some v := hs.cell 0
  have e1 : W.cell? ⟨B, 1, none⟩ = some u := hs.cell 1
  simp [results, hr, hi, go_sem, e0, e1]

theorem po_keep {base : Nat} {w w' : World} {x : Option Addr} {m cap : Nat} {f : Nat → Pk} (h : PO base w x m cap f) (hk : ∀ k, base ≤ k → k < w.heap.size → w'.heap[k]? = w.heap[k]?) : PO base w' x m cap f := by
  obtain ⟨hl, ⟨hv, h0⟩ | ⟨g, cp, cur, hv, hbs, hh, h1, h2, h3, h4⟩⟩ := h
  · exact ⟨hl, .inl ⟨hv, h0⟩⟩
  · exact ⟨hl, .inr ⟨g, cp, cur, hv, hbs, (hk g hbs (Array.getElem?_eq_some_iff.1 hh).1).trans hh, h1, h2, h3, h4⟩⟩
theorem po_only {base B : Nat} {w w' : World} {x : Option Addr} {m cap : Nat} {f : Nat → Pk} (h : PO base w x m cap f) (ho : Only B w w') (hB : B < base) : PO base w' x m cap f := po_keep h fun k hk hk2 => ho.block k hk2 (by omega)
theorem only_low {B C : Nat} {a w w' : World} (h : Only B a w) (hb : Below C w w') (hC : a.heap.size ≤ C) : Only B a w' :=
  ⟨hb.os.trans h.os, hb.tape.trans h.tape, hb.output.trans h.output, Nat.le_trans h.size hb.size, fun k hk hn => (hb.block k (by omega)).trans (h.block k hk hn)⟩
theorem cur_low {B C : Nat} {w w' : World} {a : Option Addr} {len cap : Nat} (h : Cur w B a len cap) (hb : Below C w w') (hC : B < C) : Cur w' B a len cap := by
  obtain ⟨hB, hl, ⟨i, k, i0, i1, c0, c1, c2⟩, f1, f2, hcode⟩ := h
  have e : ∀ b x, b < C → w'.cell? ⟨b, x, none⟩ = w.cell? ⟨b, x, none⟩ := fun b x hbC => hb.cell (p := ⟨b, x, none⟩) hbC
  have f : ∀ b x, b < C → w'.frozen? ⟨b, x, none⟩ = w.frozen? ⟨b, x, none⟩ := fun b x hbC => hb.frozen (p := ⟨b, x, none⟩) hbC
  exact ⟨Nat.lt_of_lt_of_le hB hb.size, hl, ⟨i, k, i0, i1, (e _ _ hC).trans c0, (e _ _ hC).trans c1, (e _ _ hC).trans c2⟩, (f _ _ hC).trans f1, (f _ _ hC).trans f2, hcode.move fun b x hbB => e b x (by omega)⟩

end Go.Proofs.Ytmjggolllijamaa

/-
  A SHAPE THAT IS BEING BENT: what is known while it is (BS).
-/
namespace Go.Proofs.Ytmjggolllijamaa
open Go.RowKit
set_option linter.unusedVariables false

structure BS (w : World) (Bc : Nat) (a : Option Addr) (len cap : Nat) (base V : Nat) (W : World) (s : Sh) (x : Option Addr) (N ca : Nat) (A : Nat → Option Addr) (C : Nat → Nat) (L : Nat → Ln) (y : Option Addr) (n cy : Nat) (tn : Nat → Int) : Prop where
  sv : Sits W V (shCells s x N ca y n cy) 29
  z : Sits W w.heap.size shZero 29
  oi : OwnI base W x N ca A C L y n cy tn
  cu : Cur W Bc a len cap
  on : Only Bc w W
  lo : w.heap.size < base
  bc : Bc < w.heap.size
  vb : base ≤ V
  vx : ∀ g, x = some g → g.block ≠ V
  va : ∀ i, i < N → ∀ g, A i = some g → g.block ≠ V
  vy : ∀ g, y = some g → g.block ≠ V
variable {w : World} {Bc : Nat} {a : Option Addr} {len cap : Nat} {base V : Nat} {W W' : World} {s : Sh} {x : Option Addr} {N ca : Nat} {A : Nat → Option Addr} {C : Nat → Nat} {L : Nat → Ln} {y : Option Addr} {n cy : Nat} {tn : Nat → Int}
theorem OwnI.each (h : OwnI base W x N ca A C L y n cy tn) (hx : ∀ g, x = some g → W'.heap[g.block]? = W.heap[g.block]?) (ha : ∀ i, i < N → ∀ g, A i = some g → W'.heap[g.block]? = W.heap[g.block]?) (hy : ∀ g, y = some g → W'.heap[g.block]? = W.heap[g.block]?) : OwnI base W' x N ca A C L y n cy tn :=
  ⟨h.lp.keep hx, fun i hi => (h.po i hi).keep (ha i hi), h.ox, h.oo, h.jo.keep hy, h.xy, h.oy⟩
theorem BS.only (h : BS w Bc a len cap base V W s x N ca A C L y n cy tn) (hc : Cur W' Bc a len cap) (ho : Only Bc W W') : BS w Bc a len cap base V W' s x N ca A C L y n cy tn :=
  ⟨h.sv.only ho (by have := h.vb; have := h.lo; have := h.bc; omega), h.z.only ho (by have := h.bc; omega), h.oi.keep fun j h1 h2 => ho.block j h2 (by have := h.lo; have := h.bc; omega), hc, h.on.trans ho, h.lo, h.bc, h.vb, h.vx, h.va, h.vy⟩
theorem BS.below (h : BS w Bc a len cap base V W s x N ca A C L y n cy tn) (hb : Below W.heap.size W W') : BS w Bc a len cap base V W' s x N ca A C L y n cy tn :=
  ⟨h.sv.below hb h.sv.lt, h.z.below hb h.z.lt, h.oi.below hb, cur_low h.cu hb h.cu.1, only_low h.on hb h.on.size, h.lo, h.bc, h.vb, h.vx, h.va, h.vy⟩
theorem BS.drew (h : BS w Bc a len cap base V W s x N ca A C L y n cy tn) : BS w Bc a len cap base V W.drew s x N ca A C L y n cy tn :=
  ⟨h.sv, h.z, h.oi.each (fun _ _ => rfl) (fun _ _ _ _ => rfl) (fun _ _ => rfl), h.cu, h.on.drew, h.lo, h.bc, h.vb, h.vx, h.va, h.vy⟩
theorem BS.alloc (h : BS w Bc a len cap base V W s x N ca A C L y n cy tn) (o : Obj) : BS w Bc a len cap base V (W.alloc o) s x N ca A C L y n cy tn := h.below ((Below.refl _ _).alloc (Nat.le_refl _) _)
/-- A number of it is turned. -/
theorem BS.num (h : BS w Bc a len cap base V W s x N ca A C L y n cy tn) (s' : Sh) (k : Nat) (v : Value) (e : (shCells s x N ca y n cy).setIfInBounds k v = shCells s' x N ca y n cy) : BS w Bc a len cap base V (W.setCell ⟨V, k, none⟩ v) s' x N ca A C L y n cy tn := by
  have hV : w.heap.size < V := by have := h.vb; have := h.lo; omega
  have sv := h.sv.set k v
  rw [e] at sv
  exact ⟨sv, h.z.other (by omega) _, h.oi.each (set_keep _ _ h.vx) (fun i hi => set_keep _ _ (h.va i hi)) (set_keep _ _ h.vy), h.cu.setNew (by have := h.bc; omega) _, h.on.setNew (by omega) _, h.lo, h.bc, h.vb, h.vx, h.va, h.vy⟩
theorem own_y {x : Option Addr} {n c : Nat} : ∀ k, (Value.slice x n c).ownBlock = some k → ∃ h, x = some h ∧ h.block = k := fun j hj => by
  cases x with
  | none => cases hj
  | some h => exact ⟨h, rfl, by simpa [Value.ownBlock] using hj⟩
/-- One more turn. -/
theorem BS.turn (h : BS w Bc a len cap base V W s x N ca A C L y n cy tn) {g cy' : Nat} {tn' : Nat → Int} (hg : W.grownBy W' (Value.slice y n cy).ownBlock) (hj : JO base W' (some ⟨g, 0, none⟩) (n + 1) cy' tn') (ho : (Value.slice y n cy).ownBlock = some g ∨ g = W.heap.size) :
    Sits W' V (shCells s x N ca y n cy) 29 ∧ BS w Bc a len cap base V (W'.setCell ⟨V, 6, none⟩ (.slice (some ⟨g, 0, none⟩) (n + 1) cy')) s x N ca A C L (some ⟨g, 0, none⟩) (n + 1) cy' tn' := by
  have hvb := h.vb
  have hlo := h.lo
  have hbc := h.bc
  have hVl := h.sv.lt
  have hb : Below base W W' := (Below.refl base W).grown hg (by omega) (fun k e => (World.ownsRow.lt h.oi.jo k e).1)
  have hgV : g ≠ V := by
    rcases ho with e | e
    · obtain ⟨q, e1, e2⟩ := own_y g e
      have := h.vy q e1
      omega
    · omega
  have hx : ∀ q, x = some q → W'.heap[q.block]? = W.heap[q.block]? := grown_keep hg own_y h.oi.lp.undr h.oi.xy
  have ha : ∀ i, i < N → ∀ q, A i = some q → W'.heap[q.block]? = W.heap[q.block]? := fun i hi => grown_keep hg own_y (h.oi.po i hi).under (h.oi.oy i hi)
  have sv : Sits W' V (shCells s x N ca y n cy) 29 := (hg.block V hVl (fun e => by obtain ⟨q, e1, e2⟩ := own_y V e.symm; exact h.vy q e1 e2)).trans h.sv
  have fresh : ∀ z, Undr W.heap.size z → Off z y → Off z (some ⟨g, 0, none⟩) := by
    intro z hu hf q r e1 e2
    cases e2
    rcases ho with e | e
    · obtain ⟨r, e3, e4⟩ := own_y g e
      have := hf q r e1 e3
      show q.block ≠ g
      omega
    · have := hu q e1
      show q.block ≠ g
      omega
  refine ⟨sv, sv.set 6 _, (h.z.below hb (by omega)).other (by omega) _, ⟨(h.oi.lp.keep hx).keep (set_keep _ _ h.vx), fun i hi => ((h.oi.po i hi).keep (ha i hi)).keep (set_keep _ _ (h.va i hi)), h.oi.ox, h.oi.oo, hj.keep (set_keep _ _ fun q e => by cases e; exact hgV), fresh x h.oi.lp.undr h.oi.xy, fun i hi => fresh (A i) (h.oi.po i hi).under (h.oi.oy i hi)⟩, (cur_low h.cu hb (by omega)).setNew (by omega) _, (only_low h.on hb (by omega)).setNew (by omega) _, hlo, hbc, hvb, h.vx, h.va, fun q e => by cases e; exact hgV⟩
/-- One more line, an empty one. -/
theorem BS.line (h : BS w Bc a len cap base V W s x N ca A C L y n cy tn) {g ca' : Nat} {A' : Nat → Option Addr} {C' : Nat → Nat} {L' : Nat → Ln} (hg : W.grownBy W' (Value.slice x N ca).ownBlock) (hl : LP base W' (some ⟨g, 0, none⟩) (N + 1) ca' A' C' L') (ho : (Value.slice x N ca).ownBlock = some g ∨ g = W.heap.size)
    (e : ∀ i, i < N → A' i = A i ∧ C' i = C i ∧ L' i = L i) (eA : A' N = none) (eC : C' N = 0) (eL : (L' N).n = 0) :
    Sits W' V (shCells s x N ca y n cy) 29 ∧ BS w Bc a len cap base V (W'.setCell ⟨V, 5, none⟩ (.slice (some ⟨g, 0, none⟩) (N + 1) ca')) s (some ⟨g, 0, none⟩) (N + 1) ca' A' C' L' y n cy tn := by
  have hvb := h.vb
  have hlo := h.lo
  have hbc := h.bc
  have hVl := h.sv.lt
  have hb : Below base W W' := (Below.refl base W).grown hg (by omega) (fun k e => (World.ownsRow.lt h.oi.lp k e).1)
  have hgV : g ≠ V := by
    rcases ho with e | e
    · obtain ⟨q, e1, e2⟩ := own_y g e
      have := h.vx q e1
      omega
    · omega
  have hy : ∀ q, y = some q → W'.heap[q.block]? = W.heap[q.block]? := grown_keep hg own_y h.oi.jo.undr h.oi.xy.symm
  have ha : ∀ i, i < N → ∀ q, A i = some q → W'.heap[q.block]? = W.heap[q.block]? := fun i hi => grown_keep hg own_y (h.oi.po i hi).under (h.oi.ox i hi)
  have sv : Sits W' V (shCells s x N ca y n cy) 29 := (hg.block V hVl (fun e => by obtain ⟨q, e1, e2⟩ := own_y V e.symm; exact h.vx q e1 e2)).trans h.sv
  have fresh : ∀ z, Undr W.heap.size z → Off z x → Off z (some ⟨g, 0, none⟩) := by
    intro z hu hf q r e1 e2
    cases e2
    rcases ho with e | e
    · obtain ⟨r, e3, e4⟩ := own_y g e
      have := hf q r e1 e3
      show q.block ≠ g
      omega
    · have := hu q e1
      show q.block ≠ g
      omega
  have ea : ∀ i, i < N + 1 → ∀ q, A' i = some q → i < N ∧ A i = some q := fun i hi q hq => by
    by_cases h2 : i < N
    · exact ⟨h2, by rw [← (e i h2).1]; exact hq⟩
    · have : i = N := by omega
      subst this
      rw [eA] at hq
      cases hq
  have po : ∀ i, i < N + 1 → PO base W' (A' i) (L' i).n (C' i) (L' i).f := fun i hi => by
    by_cases h2 : i < N
    · obtain ⟨e1, e2, e3⟩ := e i h2
      rw [e1, e2, e3]
      exact (h.oi.po i h2).keep (ha i h2)
    · have : i = N := by omega
      subst this
      rw [eA, eC, eL]
      exact PO.nil _ _ _
  refine ⟨sv, sv.set 5 _, (h.z.below hb (by omega)).other (by omega) _, ⟨hl.keep (set_keep _ _ fun q e => by cases e; exact hgV), fun i hi => (po i hi).keep (set_keep _ _ fun q hq => h.va i (ea i hi q hq).1 q (ea i hi q hq).2), fun i hi => ?_, fun i j hi hj hij => ?_, (h.oi.jo.keep hy).keep (set_keep _ _ h.vy), (fresh y h.oi.jo.undr h.oi.xy.symm).symm, fun i hi q r e1 e2 => h.oi.oy i (ea i hi q e1).1 q r (ea i hi q e1).2 e2⟩, (cur_low h.cu hb (by omega)).setNew (by omega) _, (only_low h.on hb (by omega)).setNew (by omega) _, hlo, hbc, hvb, fun q e => by cases e; exact hgV, fun i hi q hq => h.va i (ea i hi q hq).1 q (ea i hi q hq).2, h.vy⟩
  · intro q r e1 e2
    obtain ⟨h2, h3⟩ := ea i hi q e1
    exact fresh (A i) (h.oi.po i h2).under (h.oi.ox i h2) q r h3 e2
  · intro q r e1 e2
    obtain ⟨h2, h3⟩ := ea i hi q e1
    obtain ⟨h4, h5⟩ := ea j hj r e2
    exact h.oi.oo i j h2 h4 hij q r h3 h5
/-- It is handed back. -/
theorem BS.back (h : BS w Bc a len cap base V W s x N ca A C L y n cy tn) :
    Sits (set7 W w.heap.size s x N ca y n cy) w.heap.size (shCells s x N ca y n cy) 29 ∧ OwnI base (set7 W w.heap.size s x N ca y n cy) x N ca A C L y n cy tn ∧ Cur (set7 W w.heap.size s x N ca y n cy) Bc a len cap ∧ Only Bc w (set7 W w.heap.size s x N ca y n cy) := by
  have hlo := h.lo
  have hbc := h.bc
  have hc : ∀ (X : World) (k : Nat) (v : Value), Cur X Bc a len cap → Cur (X.setCell ⟨w.heap.size, k, none⟩ v) Bc a len cap := fun X k v hX => hX.setNew (by omega) _
  have ho : ∀ (X : World) (k : Nat) (v : Value), Only Bc w X → Only Bc w (X.setCell ⟨w.heap.size, k, none⟩ v) := fun X k v hX => hX.setNew (Nat.le_refl _) _
  exact ⟨sh_put7 h.z _ _ _ _ _ _ _, (((((((h.oi.far hlo _ _).far hlo _ _).far hlo _ _).far hlo _ _).far hlo _ _).far hlo _ _).far hlo _ _), hc _ _ _ (hc _ _ _ (hc _ _ _ (hc _ _ _ (hc _ _ _ (hc _ _ _ (hc _ _ _ h.cu)))))), ho _ _ _ (ho _ _ _ (ho _ _ _ (ho _ _ _ (ho _ _ _ (ho _ _ _ (ho _ _ _ h.on))))))⟩

end Go.Proofs.Ytmjggolllijamaa

/-
  WHAT STAYS A SHAPE: behind a packet that came, behind one that went.
-/
namespace Go.Proofs.Ytmjggolllijamaa
open Go.RowKit
set_option linter.unusedVariables false

theorem fifo_parts {f : Nat → Pk} {n : Nat} (h : fifoB f n 40 = true) : n ≤ 40 ∧ lineP f n := by
  unfold fifoB lineB at h
  simp only [Bool.and_eq_true, decide_eq_true_eq] at h
  exact ⟨by have := h.2.1; omega, h.2.2⟩
theorem fifo_of {f : Nat → Pk} {n : Nat} (h : n ≤ 40) (h2 : lineP f n) : fifoB f n 40 = true := by
  unfold fifoB lineB inB
  simp only [Bool.and_eq_true, decide_eq_true_eq]
  exact ⟨by omega, by omega, h2⟩
theorem cnt_four (L : Nat → Ln) : cntF L 4 = (L 0).n + (L 1).n + (L 2).n + (L 3).n := by
  rw [cntF_succ, cntF_succ, cntF_succ, cntF_succ]
  unfold cntF
  simp
theorem cnt_set4 {L L' : Nat → Ln} {h : Nat} (h4 : h < 4) (hne : ∀ i, i ≠ h → (L' i).n = (L i).n) : cntF L' 4 + (L h).n = cntF L 4 + (L' h).n := by
  rw [cnt_four, cnt_four]
  have hc : h = 0 ∨ h = 1 ∨ h = 2 ∨ h = 3 := by omega
  rcases hc with rfl | rfl | rfl | rfl
  · rw [hne 1 (by omega), hne 2 (by omega), hne 3 (by omega)]; omega
  · rw [hne 0 (by omega), hne 2 (by omega), hne 3 (by omega)]; omega
  · rw [hne 0 (by omega), hne 1 (by omega), hne 3 (by omega)]; omega
  · rw [hne 0 (by omega), hne 1 (by omega), hne 2 (by omega)]; omega
theorem shpL_cnt {s : Sh} {L : Nat → Ln} {p : Pk} {h : Nat} (h4 : h < 4) : cntF (shpL s L p h) 4 = cntF L 4 + 1 := by
  have e := cnt_set4 (L := L) (L' := shpL s L p h) h4 (fun i hi => by unfold shpL; rw [if_neg hi])
  have : (shpL s L p h h).n = (L h).n + 1 := by unfold shpL; rw [if_pos rfl]; rfl
  omega

theorem shP_push {s : Sh} {L : Nat → Ln} {ts : List Int} {p : Pk} (hs : shP s 4 L ts) (hg : p.good = true) (hp : shpP s L p) : shP s 4 (shpL s L p p.host.toNat) (shpT L ts p.host.toNat) := by
  obtain ⟨eh, h4⟩ := host_of hg
  generalize p.host.toNat = h at eh h4 ⊢
  obtain ⟨hn, _, hc, ht, hl⟩ := hs
  obtain ⟨hlim, hlast⟩ := hp
  have hle : (L h).n ≤ cntF L 4 := cntF_le L h4
  obtain ⟨o1, o2, o3⟩ := turn_iff.1 ht
  refine ⟨hn, rfl, by rw [shpL_cnt h4]; omega, turn_iff.2 ⟨?_, ?_, ?_⟩, fun i hi => ?_⟩
  · unfold shpT
    split
    · rename_i h0
      refine ⟨fun x hx => ?_, ?_⟩
      · rcases List.mem_append.1 hx with e | e
        · exact o1.1 x e
        · simp at e; omega
      · refine List.nodup_append.2 ⟨o1.2, by simp, fun a ha b hb => ?_⟩
        simp at hb
        subst hb
        intro e
        subst e
        exact (o3 h h4).2 ha h0
    · exact o1
  · intro v hv
    unfold shpT at hv
    split at hv
    · rcases List.mem_append.1 hv with e | e
      · exact o2 v e
      · simp at e; omega
    · exact o2 v hv
  · intro i hi
    unfold shpT shpL
    by_cases e : i = h
    · subst e
      rw [if_pos rfl]
      refine ⟨fun _ => ?_, fun _ => Nat.succ_ne_zero _⟩
      split
      · simp
      · rename_i h0; exact (o3 i hi).1 h0
    · rw [if_neg e, o3 i hi]
      split
      · simp only [List.mem_append, List.mem_singleton]
        exact ⟨Or.inl, fun h => h.resolve_right (by omega)⟩
      · exact Iff.rfl
  · unfold shpL
    by_cases e : i = h
    · subst e
      rw [if_pos rfl]
      obtain ⟨c1, c2, c3, c4⟩ := hl i hi
      obtain ⟨f1, f2⟩ := fifo_parts c3
      refine ⟨c1, ?_, fifo_of (by show (L i).n + 1 ≤ 40; have := hn.2.2.2.2; omega) fun j hj => ?_, fun k hk => ?_⟩
      · show -2000 ≤ (if (L i).n = 0 then s.qt else (L i).sh) ∧ (if (L i).n = 0 then s.qt else (L i).sh) ≤ 12000
        split
        · have := hn.2.2.2.1; omega
        · exact c2
      · replace hj : j < (L i).n + 1 := hj
        have hold : ∀ k, k < (L i).n → (shpLn s L p i).f k = (L i).f k := fun k hk => by show (if k = (L i).n then p else _) = _; rw [if_neg (by omega)]
        have hnew : (shpLn s L p i).f (L i).n = p := by show (if (L i).n = (L i).n then p else _) = _; rw [if_pos rfl]
        rcases (show j < (L i).n ∨ j = (L i).n by omega) with e | rfl
        · obtain ⟨g1, g2⟩ := f2 j e
          refine ⟨by rw [hold j e]; exact g1, fun k hk => ?_⟩
          have := g2 k hk
          unfold pairP at this ⊢
          rw [hold j e, hold k (by omega)]
          exact this
        · refine ⟨by rw [hnew]; exact hg, fun k hk => ?_⟩
          obtain ⟨l1, l2⟩ := hlast i hi k hk
          unfold pairP
          rw [hnew, hold k hk]
          exact ⟨l2 eh.symm, l1⟩
      · replace hk : k < (L i).n + 1 := hk
        show (if k = (L i).n then p else (L i).f k).host = _
        split
        · exact eh
        · exact c4 k (by omega)
    · rw [if_neg e]; exact hl i hi

theorem mod_hit {n K m : Nat} (hm : m < n) : ∃ i, i < n ∧ (K + i) % n = m := by
  have hr : K % n < n := Nat.mod_lt _ (by omega)
  by_cases h : K % n ≤ m
  · refine ⟨m - K % n, by omega, ?_⟩
    rw [← Nat.mod_add_mod, show K % n + (m - K % n) = m by omega, Nat.mod_eq_of_lt hm]
  · refine ⟨m + n - K % n, by omega, ?_⟩
    rw [← Nat.mod_add_mod, show K % n + (m + n - K % n) = m + n by omega, Nat.add_mod_right, Nat.mod_eq_of_lt hm]
theorem mod_inj {n K i j : Nat} (hi : i < n) (hj : j < n) (e : (K + i) % n = (K + j) % n) : i = j := by
  have h := Nat.sub_mod_eq_zero_of_mod_eq e
  have h' := Nat.sub_mod_eq_zero_of_mod_eq e.symm
  rw [show K + i - (K + j) = i - j by omega, Nat.mod_eq_of_lt (by omega)] at h
  rw [show K + j - (K + i) = j - i by omega, Nat.mod_eq_of_lt (by omega)] at h'
  omega
theorem rotT_mem {ts : List Int} {K : Nat} {v : Int} : v ∈ rotT ts K ↔ v ∈ ts := by
  unfold rotT
  simp only [List.mem_map, List.mem_range]
  constructor
  · rintro ⟨i, hi, rfl⟩
    exact tAt_mem (fun e => by subst e; exact absurd hi (Nat.not_lt_zero _)) _
  · intro hv
    obtain ⟨m, hm, rfl⟩ := List.getElem_of_mem hv
    obtain ⟨i, hi, e⟩ := mod_hit (K := K) hm
    refine ⟨i, hi, ?_⟩
    unfold tAt
    rw [e, List.getD_eq_getElem?_getD, List.getElem?_eq_getElem hm]; rfl
theorem rotT_nodup {ts : List Int} (h : ts.Nodup) (K : Nat) : (rotT ts K).Nodup := by
  unfold rotT
  refine List.pairwise_map.2 (List.Pairwise.imp_of_mem (fun {a b} ha hb hne e => hne ?_) List.nodup_range)
  rw [List.mem_range] at ha hb
  refine mod_inj (K := K) ha hb ?_
  unfold tAt at e
  have hl : 0 < ts.length := by omega
  have h1 := Nat.mod_lt (K + a) hl
  have h2 := Nat.mod_lt (K + b) hl
  rw [List.getD_eq_getElem?_getD, List.getD_eq_getElem?_getD, List.getElem?_eq_getElem h1, List.getElem?_eq_getElem h2] at e
  simp only [Option.getD_some] at e
  rcases Nat.lt_trichotomy ((K + a) % ts.length) ((K + b) % ts.length) with hh | hh | hh
  · exact absurd e (List.pairwise_iff_getElem.1 h _ _ h1 h2 hh)
  · exact hh
  · exact absurd e.symm (List.pairwise_iff_getElem.1 h _ _ h2 h1 hh)
theorem rotT_cons {ts : List Int} (h : ts ≠ []) (K : Nat) : ∃ l, rotT ts K = tAt ts K :: l := by
  have hl : 0 < ts.length := List.length_pos_iff.2 h
  cases hr : rotT ts K with
  | nil => have := rotT_len ts K; rw [hr] at this; simp at this; omega
  | cons a l =>
    refine ⟨l, ?_⟩
    have := rotT_get (ts := ts) (k := K) hl
    rw [hr] at this
    simp at this
    rw [this]
theorem popLn_cnt1 {L : Nat → Ln} {sh : Nat → Int} {h : Nat} (h4 : h < 4) (hn : (L h).n ≠ 0) : cntF (popLn L sh h) 4 + 1 = cntF L 4 := by
  have e := cnt_set4 (L := L) (L' := popLn L sh h) h4 (fun i hi => by unfold popLn; rw [if_neg hi])
  have : (popLn L sh h h).n = (L h).n - 1 := by unfold popLn; rw [if_pos rfl]
  omega

theorem pop_host {L : Nat → Ln} {ts : List Int} (ht : turnP L ts) (hne : ts ≠ []) (K : Nat) : tAt ts K = (popHost ts K : Int) ∧ popHost ts K < 4 ∧ (L (popHost ts K)).n ≠ 0 := by
  obtain ⟨h, e, h4, hn⟩ := tAt_bd ht hne K
  have : popHost ts K = h := by unfold popHost; rw [e]; simp
  rw [this]
  exact ⟨e, h4, hn⟩
theorem pop_first {s : Sh} {L : Nat → Ln} {ts : List Int} (hs : shP s 4 L ts) (hne : ts ≠ []) (K : Nat) : ((L (popHost ts K)).f 0).good = true ∧ ((L (popHost ts K)).f 0).host = (popHost ts K : Int) := by
  obtain ⟨_, h4, hn⟩ := pop_host hs.2.2.2.1 hne K
  obtain ⟨_, _, c3, c4⟩ := hs.2.2.2.2 _ h4
  exact ⟨((fifo_parts c3).2 0 (by omega)).1, c4 0 (by omega)⟩

theorem shP_pop {s : Sh} {L : Nat → Ln} {ts : List Int} {K : Nat} {nx : Int} (hs : shP s 4 L ts) (hne : ts ≠ []) (hK : StopK ts s.qt (fun i => (L i).sh) K) (n0 : 0 ≤ nx) (n1 : nx ≤ 4000000000000) : shP ⟨s.rt, s.ov, nx, s.qt, s.lim⟩ 4 (popLn L (shK ts s.qt (fun i => (L i).sh) K) (popHost ts K)) (popTs L ts K) := by
  obtain ⟨eh, h4, hn0⟩ := pop_host hs.2.2.2.1 hne K
  obtain ⟨pg, _⟩ := pop_first hs hne K
  have hpos : 0 < shK ts s.qt (fun i => (L i).sh) K (popHost ts K) := by have := hK.1; rw [eh] at this; simpa using this
  obtain ⟨hn, _, hc, ht, hl⟩ := hs
  have hbd := shK_bd (ts := ts) (sh := fun i => (L i).sh) hn.2.2.2.1.1 hn.2.2.2.1.2 (fun i hi => (hl i hi).2.1) K hK.2
  have hsz : 1 ≤ ((L (popHost ts K)).f 0).size ∧ ((L (popHost ts K)).f 0).size ≤ 2000 := by
    unfold Pk.good inB at pg
    simp only [Bool.and_eq_true, decide_eq_true_eq] at pg
    omega
  unfold popTs
  generalize popHost ts K = h at eh h4 hn0 hpos hsz ⊢
  generalize shK ts s.qt (fun i => (L i).sh) K = sh at hpos hbd ⊢
  have hcn := popLn_cnt1 (sh := sh) h4 hn0
  obtain ⟨o1, o2, o3⟩ := turn_iff.1 ht
  obtain ⟨l, hl0⟩ := rotT_cons hne K
  have hnd := rotT_nodup o1.2 K
  rw [hl0] at hnd
  obtain ⟨hnot, hnd'⟩ := List.nodup_cons.1 hnd
  rw [eh] at hl0 hnot
  have hmem : ∀ v, v ∈ ts ↔ v = (h : Int) ∨ v ∈ l := fun v => by rw [← rotT_mem (K := K), hl0, List.mem_cons]
  refine ⟨⟨hn.1, hn.2.1, ⟨n0, n1⟩, hn.2.2.2.1, hn.2.2.2.2⟩, rfl, by show (cntF _ 4 : Int) ≤ s.lim; omega, turn_iff.2 ⟨?_, ?_, ?_⟩, fun i hi => ?_⟩
  · split
    · rw [hl0]
      exact ⟨fun x hx => o1.1 x ((hmem x).2 (.inr hx)), hnd'⟩
    · exact ⟨fun x hx => o1.1 x (rotT_mem.1 hx), rotT_nodup o1.2 K⟩
  · intro v hv
    split at hv
    · rw [hl0] at hv
      exact o2 v ((hmem v).2 (.inr hv))
    · exact o2 v (rotT_mem.1 hv)
  · intro i hi
    unfold popLn
    by_cases e : i = h
    · subst e
      rw [if_pos rfl]
      show (L i).n - 1 ≠ 0 ↔ _
      split
      · rename_i e1
        rw [hl0]
        exact ⟨fun hh => absurd (by omega) hh, fun hh => absurd hh hnot⟩
      · rename_i e1
        rw [rotT_mem]
        exact ⟨fun _ => (o3 i hi).1 hn0, fun _ => by omega⟩
    · rw [if_neg e]
      show (L i).n ≠ 0 ↔ _
      rw [o3 i hi]
      split
      · rw [hl0, hmem]
        exact ⟨fun hh => hh.resolve_left (by omega), Or.inr⟩
      · rw [rotT_mem]
  · unfold popLn
    by_cases e : i = h
    · subst e
      rw [if_pos rfl]
      obtain ⟨c1, c2, c3, c4⟩ := hl i hi
      obtain ⟨f1, f2⟩ := fifo_parts c3
      refine ⟨c1, ?_, fifo_of (by show (L i).n - 1 ≤ 40; omega) fun j hj => ?_, fun k hk => ?_⟩
      · show -2000 ≤ sh i - _ ∧ sh i - _ ≤ 12000
        have := hbd i hi
        omega
      · replace hj : j < (L i).n - 1 := hj
        obtain ⟨g1, g2⟩ := f2 (j + 1) (by omega)
        exact ⟨g1, fun k hk => g2 (k + 1) (by omega)⟩
      · replace hk : k < (L i).n - 1 := hk
        exact c4 (k + 1) (by omega)
    · rw [if_neg e]
      obtain ⟨c1, c2, c3, c4⟩ := hl i hi
      exact ⟨c1, hbd i hi, c3, c4⟩

end Go.Proofs.Ytmjggolllijamaa

/-
  slices.Index WHERE IT FINDS, slices.Grow OF NONE, slices.Concat OF TWO LISTS OF NUMBERS; parts of a slice as rules for the walk.
-/
namespace Go.Proofs.Ytmjggolllijamaa
open Go.RowKit
set_option linter.unusedVariables false

theorem slice_from_in (g n cap j : Nat) (w : World) (h : j < n) (h2 : n ≤ cap) : Sem.run Try.prog (Instr.slice 23 (.slice (some ⟨g, 0, none⟩) n cap) (some (.int .i64 (j : Int))) none none) w = .ok (.slice (some ⟨g, j, none⟩) (n - j) (cap - j)) w := by
  have h1 : ¬ ((n : Int) < (j : Int)) := by omega
  have h3 : ¬ ((cap : Int) < (n : Int)) := by omega
  have h4 : ¬ ((j : Int) < 0) := by omega
  have h5 : ¬ cap = j := by omega
  have h6 : ¬ (cap ≤ j) := by omega
  have h7 : ¬ cap - j = 0 := by omega
  have h8 : ¬ n < j := by omega
  go_simp
theorem slice_upto_in (g n cap j : Nat) (w : World) (h : j < n) (h2 : n ≤ cap) : Sem.run Try.prog (Instr.slice 23 (.slice (some ⟨g, 0, none⟩) n cap) none (some (.int .i64 (j : Int))) none) w = .ok (.slice (some ⟨g, 0, none⟩) j cap) w := by
  have h1 : ¬ ((n : Int) < (j : Int)) := by omega
  have h3 : ¬ ((cap : Int) < (j : Int)) := by omega
  have h4 : ¬ ((j : Int) < 0) := by omega
  have h5 : ¬ cap = 0 := by omega
  have h8 : ¬ cap < j := by omega
  go_simp

theorem islIndexAt_any (a : Option Addr) (n c : Nat) (f : Nat → Int) (v : Int) (j : Nat) (w : World) (hn : n ≤ 1048576) (hr : Row .i64 w a n f) (hj : j < n) (hv : f j = v) (hno : ∀ i, i < j → f i ≠ v) :
    Calls Try.prog 85 #[.slice a n c, .int .i64 v] w fun e w' => e = .returned (.int .i64 (j : Int)) ∧ w' = w := by
  have HR : Hid (Row .i64 w a n f) := hr
  have HNO : Hid (∀ i, i < j → f i ≠ v) := hno
  have HV : Hid (f j = v) := hv
  have hn' : (n : Int) ≤ 1048576 := by omega
  clear hr hn hno hv
  go_enter Try.func85, Try.ntmps85
  go_wp2
  go_loop [8] (fun i => ∃ k : Nat, k ≤ j ∧ i = .int .i64 k) (fun i => n - (intOf i).toNat)
  case atStart => exact ⟨0, Nat.zero_le _, rfl⟩
  case round =>
    obtain ⟨k, hk, rfl⟩ := hrel
    have hlt : k < n := by omega
    obtain ⟨b, off, rfl, hbl, hc⟩ := Row.at HR.out hlt
    have c1 := hc k hlt
    clear hc
    by_cases hkj : k = j
    · subst hkj
      rw [HV.out] at c1
      go_wp2
      go_ret
      exact ⟨rfl, rfl⟩
    · have hne : (v == f k) = false := by have := HNO.out k (by omega); simp; exact fun e => this e.symm
      go_wp2
      go_round
      case rel => exact ⟨k + 1, by omega, by go_num⟩
      case measure => simp [intOf]; omega

set_option maxRecDepth 100000 in
set_option maxHeartbeats 1000000 in
theorem igrow_any (n : Nat) (v : Int) (hv : v = (n : Int)) (w : World) (hn : n ≤ 1048576) :
    Calls Try.prog 100 #[.slice none 0 0, .int .i64 v] w fun e w' => ∃ (x : Option Addr) (cap : Nat), e = .returned (.slice x 0 cap) ∧ (∀ f, JO w.heap.size w' x 0 cap f) ∧ Below w.heap.size w w' := by
  subst hv
  have hni : (n : Int) ≤ 1048576 := by omega
  by_cases h0 : n = 0
  · subst h0
    go_enter Try.func100, Try.ntmps100
    go_wp2
    go_ret
    exact ⟨none, 0, rfl, fun f => JO.nil _ _ _, Below.refl _ _⟩
  · have h1 : (0 : Int) < (n : Int) := by omega
    obtain ⟨i0, hi0, hz0, hz1, hz2⟩ := info_parts infoInt
    have hrun := fun ty => Lib.run_append_nil_zeros (P := Try.prog) w 23 3 ty 3 i0 (.int .i64 0) .i64 .i64 Try.underlying23 Try.underlying3 hi0 hz0 n (by omega) (by omega) (by omega) (by rw [hz2]; omega)
    obtain ⟨GC, hGC⟩ : ∃ c, grownCap w n 0 3 = c := ⟨_, rfl⟩
    have hcap : n ≤ GC := by rw [← hGC]; exact grownCap_ge _ _ _ _
    rw [hGC] at hrun
    have hcm : GC ≤ maxLen := by rw [← hGC]; exact grownCap_le_maxLen _ _ _ _ (by unfold maxLen; omega)
    have HRUN : Hid _ := hrun
    clear hrun
    go_enter Try.func100, Try.ntmps100
    go_wp2_with (at_builtin; refine Lib.wpList_append_run _ rfl _ _ _ _ rfl _ _ rfl rfl _ _ (HRUN.out _) ?_)
    go_ret
    refine ⟨some ⟨w.heap.size, 0, none⟩, GC, rfl, fun f => ⟨rfl, .inr ⟨w.heap.size, GC, _, rfl, Nat.le_refl _, World.alloc_heap_new w _, Nat.zero_le _, hcm, ?_, by simp [inL]⟩⟩, ((Below.refl _ w).alloc (Nat.le_refl _) _).drew⟩
    simp [Builtin.zeroCells]
    omega

set_option maxRecDepth 100000 in
set_option maxHeartbeats 2000000 in
theorem iconcat2_any (D : Nat) (a : Option Addr) (n c : Nat) (f : Nat → Int) (b : Option Addr) (m d : Nat) (g : Nat → Int) (t : TypeId) (w : World) (hD : Sits w D #[.slice a n c, .slice b m d] t) (hn : n + m ≤ 1048576) (ha : Row .i64 w a n f) (hb : Row .i64 w b m g) :
    Calls Try.prog 86 #[.slice (some ⟨D, 0, none⟩) 2 2] w fun e w' => ∃ (x : Option Addr) (cap : Nat), e = .returned (.slice x (n + m) cap) ∧ JO w.heap.size w' x (n + m) cap (joinI f n g) ∧ Below w.heap.size w w' := by
  have HA : Hid (Row .i64 w a n f) := ha
  have HB : Hid (Row .i64 w b m g) := hb
  have HD : Hid (Sits w D #[.slice a n c, .slice b m d] t) := hD
  have HN : Hid (n + m ≤ 1048576) := hn
  have hni : (n : Int) ≤ 1048576 := by omega
  have hmi : (m : Int) ≤ 1048576 := by omega
  have hnm : (n : Int) + (m : Int) ≤ 1048576 := by omega
  have d0 := hD.cell 0
  have d1 := hD.cell 1
  clear ha hb hD hn
  go_enter Try.func86, Try.ntmps86
  go_wp2
  go_loop [3, 11] (fun s i => (i = .int .i64 0 ∧ s = .int .i64 0) ∨ (i = .int .i64 1 ∧ s = .int .i64 (n : Int)) ∨ (i = .int .i64 2 ∧ s = .int .i64 ((n : Int) + (m : Int)))) (fun _ i => 2 - (intOf i).toNat)
  case atStart => exact .inl ⟨rfl, rfl⟩
  case round =>
    rcases hrel with ⟨rfl, rfl⟩ | ⟨rfl, rfl⟩ | ⟨rfl, rfl⟩
    · go_wp2
      go_round
      case rel => exact .inr (.inl ⟨rfl, by go_num⟩)
      case measure => simp [intOf]
    · go_wp2
      go_round
      case rel => exact .inr (.inr ⟨rfl, by go_num⟩)
      case measure => simp [intOf]
    · go_wp2_with (go_at_call 100; refine (igrow_any (n + m) _ (by simp) _ HN.out).mono ?_; rintro e w1 ⟨x, cap, rfl, hjo, hb1⟩; have HJ1 : Hid (∀ f, JO w.heap.size w1 x 0 cap f) := hjo; have HB1 : Hid (Below w.heap.size w w1) := hb1; clear hjo hb1)
      go_loopw [6, 27] (fun v i wr => Below w.heap.size w wr ∧ ((i = .int .i64 0 ∧ ∃ x cap, v = .slice x 0 cap ∧ JO w.heap.size wr x 0 cap f) ∨ (i = .int .i64 1 ∧ ∃ x cap, v = .slice x n cap ∧ JO w.heap.size wr x n cap f) ∨ (i = .int .i64 2 ∧ ∃ x cap, v = .slice x (n + m) cap ∧ JO w.heap.size wr x (n + m) cap (joinI f n g)))) (fun _ i _ => 2 - (intOf i).toNat)
      case atStart => exact ⟨HB1.out, .inl ⟨rfl, x, cap, rfl, HJ1.out f⟩⟩
      case round =>
        obtain ⟨hB, hor⟩ := hrel
        have sD := Sits.below HD.out hB (Sits.lt HD.out)
        have e0 := sD.cell 0
        have e1 := sD.cell 1
        have hsz := hB.size
        have HBR : Hid (Below w.heap.size w wr) := hB
        have HBG : Hid (∀ (w2 : World) (v : Value), wr.grownBy w2 v.ownBlock → (∀ k, v.ownBlock = some k → w.heap.size ≤ k) → Below w.heap.size w w2) := fun w2 v hg hv => hB.grown hg hsz hv
        clear sD hB
        rcases hor with ⟨rfl, x2, cap2, rfl, hj⟩ | ⟨rfl, x2, cap2, rfl, hj⟩ | ⟨rfl, x2, cap2, rfl, hj⟩
        · have HJ : Hid (JO w.heap.size wr x2 0 cap2 f) := hj
          clear hj
          go_wp2_with (at_builtin; refine wpList_append_inN rfl _ _ rfl w.heap.size x2 0 cap2 f rfl HJ.out a n c f rfl (Row.below HA.out HBR.out) (by omega) hsz ?_; intro y2 cy2 w2 hjo hgr; have HJ2 : Hid (JO w.heap.size w2 y2 n cy2 f) := JO.congr (f := joinI f 0 f) (by simpa using hjo) (fun i _ => by simp [joinI]); have HB2 : Hid (Below w.heap.size w w2) := HBG.out _ _ hgr (fun k e => (JO.own_lt HJ.out k e).1); clear hjo hgr)
          go_roundw
          case rel => exact ⟨HB2.out, .inr (.inl ⟨rfl, y2, cy2, rfl, HJ2.out⟩)⟩
          case measure => simp [intOf]
        · have HJ : Hid (JO w.heap.size wr x2 n cap2 f) := hj
          clear hj
          go_wp2_with (at_builtin; refine wpList_append_inN rfl _ _ rfl w.heap.size x2 n cap2 f rfl HJ.out b m d g rfl (Row.below HB.out HBR.out) HN.out hsz ?_; intro y2 cy2 w2 hjo hgr; have HJ2 : Hid (JO w.heap.size w2 y2 (n + m) cy2 (joinI f n g)) := hjo; have HB2 : Hid (Below w.heap.size w w2) := HBG.out _ _ hgr (fun k e => (JO.own_lt HJ.out k e).1); clear hjo hgr)
          go_roundw
          case rel => exact ⟨HB2.out, .inr (.inr ⟨rfl, y2, cy2, rfl, HJ2.out⟩)⟩
          case measure => simp [intOf]
        · have HJ : Hid (JO w.heap.size wr x2 (n + m) cap2 (joinI f n g)) := hj
          clear hj
          go_wp2
          go_ret
          exact ⟨x2, cap2, rfl, HJ.out, HBR.out⟩

theorem iconcat2N_any (N : Nat) (h : Nat → Int) (D : Nat) (a : Option Addr) (n c : Nat) (f : Nat → Int) (b : Option Addr) (m d : Nat) (g : Nat → Int) (t : TypeId) (w : World) (hD : Sits w D #[.slice a n c, .slice b m d] t) (hN : n + m = N) (hh : ∀ i, i < N → joinI f n g i = h i) (hn : N ≤ 1048576) (ha : Row .i64 w a n f) (hb : Row .i64 w b m g) :
    Calls Try.prog 86 #[.slice (some ⟨D, 0, none⟩) 2 2] w fun e w' => ∃ (x : Option Addr) (cap : Nat), e = .returned (.slice x N cap) ∧ JO w.heap.size w' x N cap h ∧ Below w.heap.size w w' := by
  subst hN
  refine (iconcat2_any D a n c f b m d g t w hD hn ha hb).mono ?_
  rintro e w' ⟨x, cap, rfl, hj, hb⟩
  exact ⟨x, cap, rfl, hj.congr hh, hb⟩

end Go.Proofs.Ytmjggolllijamaa

/-
  TURNS PASSED ON BY THE PROGRAM: turnsOf and what it hands out; passTurns.
-/
namespace Go.Proofs.Ytmjggolllijamaa
open Go.RowKit
set_option linter.unusedVariables false
attribute [local go_sem ↓] slice_from_in slice_upto_in

theorem iturnsOf_any (y : Option Addr) (n c : Nat) (w : World) :
    Calls Try.prog 84 #[.slice y n c] w fun e w' => e = .returned (.func (.func 99) #[] #[.pointer (some ⟨w.heap.size, 0, none⟩), .pointer (some ⟨w.heap.size + 1, 0, none⟩)]) ∧ w' = (w.alloc (.cells #[.slice y n c] 23)).alloc (.cells #[.int .i64 0] 3) := by
  go_enter Try.func84, Try.ntmps84
  go_wp2
  go_ret
  exact ⟨rfl, rfl⟩

theorem inext_any (T A g n c j : Nat) (v : Int) (t u : TypeId) (w : World) (hT : Sits w T #[.slice (some ⟨g, 0, none⟩) n c] t) (hA : Sits w A #[.int .i64 (j : Int)] u) (hj : j < n) (hn : n ≤ 1048576) (hg : w.cell? ⟨g, j, none⟩ = some (.int .i64 v)) (hTA : T ≠ A) :
    Calls Try.prog 99 #[.pointer (some ⟨T, 0, none⟩), .pointer (some ⟨A, 0, none⟩)] w fun e w' => e = .returned (.int .i64 v) ∧ w' = w.setCell ⟨A, 0, none⟩ (.int .i64 (((j + 1) % n : Nat) : Int)) := by
  have t0 := hT.cell 0
  have a0 := hA.cell 0
  have af := hA.frozen
  have hji : (j : Int) < (n : Int) := by omega
  have hni : (n : Int) ≤ 1048576 := by omega
  have hn0 : (0 : Int) < (n : Int) := by omega
  have hE : Hid (((j : Int) + 1) % (n : Int) = (((j + 1) % n : Nat) : Int)) := by show _ = _; simp
  go_enter Try.func99, Try.ntmps99
  go_wp2
  go_ret
  refine ⟨rfl, ?_⟩
  rw [hE.out]

theorem tAt_first {L : Nat → Ln} {ts : List Int} (h : turnP L ts) (hne : ts ≠ []) (k : Nat) : ∀ i, i < k % ts.length → tAt ts i ≠ tAt ts k := fun i hi e => by
  have hl : 0 < ts.length := List.length_pos_iff.2 hne
  have hk := Nat.mod_lt k hl
  have hnd : ts.Nodup := (show List.Perm _ _ from h).nodup_iff.2 (wl_nodup L 4)
  rw [← tAt_mod ts k, tAt_lt hk, tAt_lt (show i < ts.length by omega)] at e
  have e1 : ts.getD i 0 = ts[i]'(by omega) := by rw [List.getD_eq_getElem?_getD, List.getElem?_eq_getElem (show i < ts.length by omega)]; rfl
  have e2 : ts.getD (k % ts.length) 0 = ts[k % ts.length]'hk := by rw [List.getD_eq_getElem?_getD, List.getElem?_eq_getElem hk]; rfl
  rw [e1, e2] at e
  exact (List.pairwise_iff_getElem.1 hnd) i (k % ts.length) (by omega) hk hi e
theorem rot_join (ts : List Int) (k : Nat) (n j : Nat) (hn : ts.length = n) (hj : k % n = j) (tn : Nat → Int) (ht : ∀ i, i < n → tn i = tAt ts i) (hjn : j < n) : ∀ i, i < n → joinI (fun i => tn (j + i)) (n - j) tn i = tAt ts (k + i) := fun i hi => by
  unfold joinI
  have hk : tAt ts (k + i) = tAt ts (j + i) := by rw [← tAt_add_mod ts k i, hn, hj]
  by_cases e : i < n - j
  · rw [if_pos e, hk]; exact ht (j + i) (by omega)
  · rw [if_neg e, ht _ (by omega), hk]
    have : j + i = (i - (n - j)) + ts.length := by omega
    rw [this, tAt_len]
/-- Nothing but V, B and what is new has turned. -/
def Two2 (V B : Nat) (w w' : World) : Prop := ∀ k, k < w.heap.size → k ≠ V → k ≠ B → w'.heap[k]? = w.heap[k]?

set_option maxRecDepth 100000 in
set_option maxHeartbeats 8000000 in
theorem ipassTurns_any (base V B cl m cy : Nat) (s : Sh) (y : Option Addr) (A : Nat → Option Addr) (C : Nat → Nat) (L : Nat → Ln) (tn : Nat → Int) (ts : List Int) (w : World)
    (hW : SW base w V B cl s A C L y (m + 1) cy tn) (hts : (List.range (m + 1)).map tn = ts) (hsp : shP s 4 L ts) :
    Calls Try.prog 66 #[.pointer (some ⟨V, 0, none⟩)] w fun e w' => ∃ K, StopK ts s.qt (fun i => (L i).sh) K ∧ e = .returned (.int .i64 (popHost ts K : Int)) ∧
      ∃ (y' : Option Addr) (cy' : Nat) (tn' : Nat → Int), SW base w' V B cl s A C (lnSh L (shK ts s.qt (fun i => (L i).sh) K)) y' (m + 1) cy' tn' ∧ (∀ i, i < m + 1 → tn' i = tAt ts (K + i)) ∧ Above w.heap.size y' ∧ Two2 V B w w' ∧ Below base w w' := by
  have HSW : Hid (SW base w V B cl s A C L y (m + 1) cy tn) := hW
  have HSP : Hid (shP s 4 L ts) := hsp
  have hlen : ts.length = m + 1 := by rw [← hts]; simp
  have HLEN : Hid (ts.length = m + 1) := hlen
  have HNE : Hid (ts ≠ []) := fun e => by rw [e] at hlen; simp at hlen
  have q0 : 1 ≤ s.qt := hsp.1.2.2.2.1.1
  have q1 : s.qt ≤ 10000 := hsp.1.2.2.2.1.2
  have HT0 : Hid (∀ i, i < m + 1 → tn i = tAt ts i) := fun i hi => by
    rw [tAt_lt (by rw [hlen]; exact hi), ← hts]
    simp [List.getD, hi]
  have HS0 : Hid (∀ i, i < 4 → -2000 ≤ (L i).sh ∧ (L i).sh ≤ 12000) := fun i hi => (hsp.2.2.2.2 i hi).2.1
  have hm4 : m + 1 ≤ 4 := by
    have h1 := (show List.Perm _ _ from hsp.2.2.2.1).length_eq
    have h2 := wl_len L 4
    omega
  have hlV := hW.sv.lt
  have hlB := hW.lq.lt
  have x6 := hW.sv.cell 6
  obtain ⟨g, rfl, hg, hcy, hcs⟩ := hW.slc (Nat.succ_pos m)
  obtain ⟨W1, hW1⟩ : ∃ W, (w.alloc (.cells #[.slice (some ⟨g, 0, none⟩) (m + 1) cy] 23)).alloc (.cells #[.int .i64 0] 3) = W := ⟨_, rfl⟩
  have HW1 : Hid ((w.alloc (.cells #[.slice (some ⟨g, 0, none⟩) (m + 1) cy] 23)).alloc (.cells #[.int .i64 0] 3) = W1) := hW1
  have b1 : Below w.heap.size w W1 := by rw [← hW1]; exact ((Below.refl _ w).alloc (Nat.le_refl _) _).alloc (by simp) _
  have HB1 : Hid (Below w.heap.size w W1) := b1
  have HT1 : Hid (Sits W1 w.heap.size #[.slice (some ⟨g, 0, none⟩) (m + 1) cy] 23) := by show Sits _ _ _ _; rw [← hW1]; exact (Sits.new _ _ _).alloc _
  have HA1 : Hid (Sits W1 (w.heap.size + 1) #[.int .i64 ((0 : Nat) : Int)] 3) := by show Sits _ _ _ _; rw [← hW1]; exact Sits.new' (by simp)
  have HCS : Hid (∀ i, i < m + 1 → w.cell? ⟨g, i, none⟩ = some (.int .i64 (tn i))) := hcs
  have HGW : Hid (g < w.heap.size) := hg
  obtain ⟨h0, hh0, h04, hn0⟩ := tAt_bd hsp.2.2.2.1 HNE.out 0
  have HH0 : Hid (tAt ts 0 = (h0 : Int)) := hh0
  have HG0 : Hid (W1.cell? ⟨g, 0, none⟩ = some (.int .i64 (h0 : Int))) := by
    show _ = _
    rw [b1.cell (p := ⟨g, 0, none⟩) hg, hcs 0 (Nat.succ_pos m), HT0.out 0 (Nat.succ_pos m), hh0]
  clear hW hts hsp hlen hcs hW1 b1 hh0
  go_enter Try.func66, Try.ntmps66
  go_upto_region 2 with (go_at_call 84; refine (iturnsOf_any (some ⟨g, 0, none⟩) (m + 1) cy _).mono ?_; rintro e w2 ⟨rfl, hw2⟩; rw [HW1.out] at hw2; subst hw2)
  clear x6
  go_wp2_with (go_at_call 99; refine (inext_any w.heap.size (w.heap.size + 1) g (m + 1) cy 0 (h0 : Int) 23 3 _ HT1.out HA1.out (by omega) (by omega) HG0.out (by omega)).mono ?_; rintro e w3 ⟨rfl, hw3⟩; have HW3 : Hid (w3 = w2.setCell ⟨w.heap.size + 1, 0, none⟩ (.int .i64 (((0 + 1) % (m + 1) : Nat) : Int))) := hw3; clear hw3)
  go_loopw [4] (fun s4 wr => ∃ (k h : Nat), s4 = .int .i64 (h : Int) ∧ tAt ts k = (h : Int) ∧ h < 4 ∧ SW base wr V B cl s A C (lnSh L (shK ts s.qt (fun i => (L i).sh) k)) (some ⟨g, 0, none⟩) (m + 1) cy tn ∧ Past ts s.qt (fun i => (L i).sh) k ∧ Sits wr w.heap.size #[.slice (some ⟨g, 0, none⟩) (m + 1) cy] 23 ∧ Sits wr (w.heap.size + 1) #[.int .i64 (((k + 1) % (m + 1) : Nat) : Int)] 3 ∧ Two2 V B w wr ∧ Below base w wr) (fun _ wr => lackW B wr)
  case atStart =>
    have e3 := HW3.out
    have sw3 : SW base w3 V B cl s A C L (some ⟨g, 0, none⟩) (m + 1) cy tn := by
      rw [e3]
      refine ((HSW.out).below HB1.out).other (by omega) (by omega) (fun i hi a ha => ?_) (fun a ha => ?_) _ _
      · have := ((HSW.out).lq.own i hi).under a ha; omega
      · have := (HSW.out).tq.1.undr a ha; omega
    refine ⟨0, h0, rfl, HH0.out, h04, sw3, Past.zero _ _ _, ?_, ?_, ?_, ?_⟩
    · rw [e3]; exact Sits.other HT1.out (by omega) _
    · rw [e3]; exact Sits.set HA1.out 0 _
    · intro k hk h1 h2
      rw [e3, Below.heap_setCell _ _ _ k (by show k ≠ w.heap.size + 1; omega)]
      exact (HB1.out).block k hk
    · rw [e3]; exact ((HB1.out).mono (HSW.out).bw).setCell (by show base ≤ w.heap.size + 1; have := (HSW.out).bw; omega) _
  case round =>
    clear HT1 HA1 HG0 HW3 HB1
    obtain ⟨k, h, rfl, hh, h4, sw, hpast, hT, hAA, h2, hB⟩ := hrel
    have sb := shK_bd q0 q1 HS0.out k hpast h h4
    have ab : wr.cell? ⟨B, h * 9 + 1, none⟩ = some (.int .i64 (shK ts s.qt (fun i => (L i).sh) k h)) := (sw.at h4).2
    have fB := sw.lq.frozen
    have x3 := sw.sv.cell 3
    have x5 := sw.sv.cell 5
    have x6 := sw.sv.cell 6
    have h4i : (h : Int) < 4 := by omega
    obtain ⟨sh, hsh⟩ : ∃ v, shK ts s.qt (fun i => (L i).sh) k h = v := ⟨_, rfl⟩
    rw [hsh] at ab sb
    obtain ⟨sb0, sb1⟩ := sb
    by_cases hle : sh ≤ 0
    · go_wp2
      go_region
      go_upto_region 5 with fail
      obtain ⟨v5, hv5⟩ : ∃ v, (wr.setCell ⟨B, h * 9 + 1, none⟩ (.int .i64 (sh + s.qt))).drew = v := ⟨_, rfl⟩
      have sw5 : SW base v5 V B cl s A C (lnSh L (shK ts s.qt (fun i => (L i).sh) (k + 1))) (some ⟨g, 0, none⟩) (m + 1) cy tn := by rw [← hv5, ← lnSh_hit hh, hsh]; exact (sw.short h4 _).drew
      have T5 : Sits v5 w.heap.size #[.slice (some ⟨g, 0, none⟩) (m + 1) cy] 23 := by rw [← hv5]; exact Sits.drew' (hT.other (by omega) _)
      have A5 : Sits v5 (w.heap.size + 1) #[.int .i64 (((k + 1) % (m + 1) : Nat) : Int)] 3 := by rw [← hv5]; exact Sits.drew' (hAA.other (by omega) _)
      have B5 : Below base w v5 := by rw [← hv5]; exact (hB.setCell sw.lq.lo _).drew
      have K5 : Two2 V B w v5 := fun j hj e1 e2 => by rw [← hv5]; exact (Below.heap_setCell _ _ _ j e2).trans (h2 j hj e1 e2)
      have L5 : lackW B v5 < lackW B wr := by rw [sw5.lack, sw.lack]; exact lack_less q0 hh h4 (by rw [hsh]; exact hle)
      have hp5 : Past ts s.qt (fun i => (L i).sh) (k + 1) := hpast.next (by rw [hh]; show shK ts s.qt (fun i => (L i).sh) k (h : Int).toNat ≤ 0; rw [Int.toNat_natCast, hsh]; exact hle)
      obtain ⟨h', hh', h4', _⟩ := tAt_bd (HSP.out).2.2.2.1 HNE.out (k + 1)
      have hj : (k + 1) % (m + 1) < m + 1 := Nat.mod_lt _ (Nat.succ_pos m)
      obtain ⟨j, hjj⟩ : ∃ j, (k + 1) % (m + 1) = j := ⟨_, rfl⟩
      rw [hjj] at A5 hj
      have HJJ : Hid ((k + 1) % (m + 1) = j) := hjj
      have HG5 : Hid (v5.cell? ⟨g, j, none⟩ = some (.int .i64 (h' : Int))) := by
        obtain ⟨g', e, e1, e2, e3⟩ := sw5.slc (Nat.succ_pos m)
        cases e
        show _ = _
        rw [e3 j hj, HT0.out j hj, ← hh', ← tAt_mod ts (k + 1), HLEN.out, hjj]
      rw [hv5]
      have HSW5 : Hid (SW base v5 V B cl s A C (lnSh L (shK ts s.qt (fun i => (L i).sh) (k + 1))) (some ⟨g, 0, none⟩) (m + 1) cy tn) := sw5
      have HT5 : Hid (Sits v5 w.heap.size #[.slice (some ⟨g, 0, none⟩) (m + 1) cy] 23) := T5
      have HA5 : Hid (Sits v5 (w.heap.size + 1) #[.int .i64 (j : Int)] 3) := A5
      have HB5 : Hid (Below base w v5) := B5
      have HK5 : Hid (Two2 V B w v5) := K5
      have HL5 : Hid (lackW B v5 < lackW B wr) := L5
      have HPA5 : Hid (Past ts s.qt (fun i => (L i).sh) (k + 1)) := hp5
      have HH5 : Hid (tAt ts (k + 1) = (h' : Int)) := hh'
      clear hv5 sw sw5 T5 A5 B5 K5 L5 hp5 hpast hT hAA h2 hB ab fB x3 x5 x6 hsh hjj hh hh'
      go_wp2_with (go_at_call 99; refine (inext_any w.heap.size (w.heap.size + 1) g (m + 1) cy j (h' : Int) 23 3 _ HT5.out HA5.out hj (by omega) HG5.out (by omega)).mono ?_; rintro e w6 ⟨rfl, hw6⟩; have HW6 : Hid (w6 = v5.setCell ⟨w.heap.size + 1, 0, none⟩ (.int .i64 (((j + 1) % (m + 1) : Nat) : Int))) := hw6; clear hw6)
      go_roundw
      case rel =>
        have e6 := HW6.out
        have hbw := (HSW.out).bw
        refine ⟨k + 1, h', rfl, HH5.out, h4', ?_, HPA5.out, ?_, ?_, ?_, ?_⟩
        · rw [e6]
          refine (HSW5.out).other (by omega) (by omega) (fun i hi a ha => ?_) (fun a ha => ?_) _ _
          · have := ((HSW.out).lq.own i hi).under a ha; omega
          · have := (HSW.out).tq.1.undr a ha; omega
        · rw [e6]; exact Sits.other HT5.out (by omega) _
        · rw [e6]
          have : (k + 1 + 1) % (m + 1) = (j + 1) % (m + 1) := by rw [← HJJ.out, Nat.mod_add_mod]
          rw [this]
          exact Sits.set HA5.out 0 _
        · intro i hi h1 h2
          rw [e6, Below.heap_setCell _ _ _ i (by show i ≠ w.heap.size + 1; omega)]
          exact HK5.out i hi h1 h2
        · rw [e6]; exact (HB5.out).setCell (by show base ≤ w.heap.size + 1; omega) _
      case measure =>
        have e6 := HW6.out
        have sw6 : SW base w6 V B cl s A C (lnSh L (shK ts s.qt (fun i => (L i).sh) (k + 1))) (some ⟨g, 0, none⟩) (m + 1) cy tn := by
          rw [e6]
          refine (HSW5.out).other (by omega) (by omega) (fun i hi a ha => ?_) (fun a ha => ?_) _ _
          · have := ((HSW.out).lq.own i hi).under a ha; omega
          · have := (HSW.out).tq.1.undr a ha; omega
        rw [sw6.lack, ← (HSW5.out).lack]; exact HL5.out
    · have hst : StopK ts s.qt (fun i => (L i).sh) k := ⟨by rw [hh]; show 0 < shK ts s.qt (fun i => (L i).sh) k (h : Int).toNat; rw [Int.toNat_natCast, hsh]; omega, hpast⟩
      have hph : (popHost ts k : Int) = (h : Int) := by unfold popHost; rw [hh]; simp
      have hj : k % (m + 1) < m + 1 := Nat.mod_lt _ (Nat.succ_pos m)
      have hjt : tn (k % (m + 1)) = (h : Int) := by rw [HT0.out _ hj, ← hh, ← tAt_mod ts k, HLEN.out]
      have hjn : ∀ i, i < k % (m + 1) → tn i ≠ (h : Int) := fun i hi => by
        rw [HT0.out i (by omega), ← hh]
        exact tAt_first (HSP.out).2.2.2.1 HNE.out k i (by rw [HLEN.out]; exact hi)
      have hrj := rot_join ts k (m + 1) (k % (m + 1)) HLEN.out rfl tn HT0.out hj
      obtain ⟨j, hjj⟩ : ∃ j, k % (m + 1) = j := ⟨_, rfl⟩
      rw [hjj] at hj hjt hjn hrj
      have HST : Hid (StopK ts s.qt (fun i => (L i).sh) k) := hst
      have HPH : Hid ((popHost ts k : Int) = (h : Int)) := hph
      have HJT : Hid (tn j = (h : Int)) := hjt
      have HJN : Hid (∀ i, i < j → tn i ≠ (h : Int)) := hjn
      have HRJ : Hid (∀ i, i < m + 1 → joinI (fun i => tn (j + i)) (m + 1 - j) tn i = tAt ts (k + i)) := hrj
      have HSWr : Hid (SW base wr V B cl s A C (lnSh L (shK ts s.qt (fun i => (L i).sh) k)) (some ⟨g, 0, none⟩) (m + 1) cy tn) := sw
      have HRr : Hid (Row .i64 wr (some ⟨g, 0, none⟩) (m + 1) tn) := sw.row
      have HBr : Hid (Below base w wr) := hB
      have HKr : Hid (Two2 V B w wr) := h2
      have lVr := sw.sv.lt
      have fVr := sw.sv.frozen
      have lgr := sw.tq.1.undr _ rfl
      replace lgr : g < wr.heap.size := lgr
      clear hst hph hjt hjn hrj sw hpast hT hAA h2 hB fB hsh hh hjj
      go_upto_region 7 with (go_at_call 85; refine (islIndexAt_any (some ⟨g, 0, none⟩) (m + 1) cy tn (h : Int) j _ (by omega) HRr.out hj HJT.out HJN.out).mono ?_; rintro e w6 ⟨rfl, hw6⟩; replace hw6 := hw6.symm; subst hw6)
      have HR2 : Hid (∀ W, Below wr.heap.size wr W → Row .i64 W (some ⟨g, j, none⟩) (m + 1 - j) (fun i => tn (j + i)) ∧ Row .i64 W (some ⟨g, 0, none⟩) j tn) := fun W hb => by
        obtain ⟨g', e, e1, e2, e3⟩ := (HSWr.out).slc (Nat.succ_pos m)
        cases e
        have hgW : g < W.heap.size := Nat.lt_of_lt_of_le e1 hb.size
        exact ⟨.inr ⟨g, j, rfl, hgW, fun i hi => (hb.cell (p := ⟨g, j + i, none⟩) e1).trans (e3 (j + i) (by omega))⟩, .inr ⟨g, 0, rfl, hgW, fun i hi => by rw [Nat.zero_add]; exact (hb.cell (p := ⟨g, i, none⟩) e1).trans (e3 i (by omega))⟩⟩
      go_region_with (go_at_call 86; refine (iconcat2N_any (m + 1) (fun i => tAt ts (k + i)) wr.heap.size (some ⟨g, j, none⟩) (m + 1 - j) (cy - j) (fun i => tn (j + i)) (some ⟨g, 0, none⟩) j cy tn 23 _ (by first | exact Sits.drew' (Sits.new' rfl) | exact Sits.new' rfl) (by omega) HRJ.out (by omega) (HR2.out _ (by go_grown)).1 (HR2.out _ (by go_grown)).2).mono ?_; rintro e w7 ⟨x, cx, rfl, hj7, hb7⟩; have b7 : Below wr.heap.size wr w7 := Below.trans (b := _) (by go_grown) (hb7.mono (by simp)); have HJ7 : Hid (JO wr.heap.size w7 x (m + 1) cx (fun i => tAt ts (k + i))) := hj7.mono (by simp); have HB7 : Hid (Below wr.heap.size wr w7) := b7; have sv7 := (SW.below HSWr.out b7).sv; have a67 := sv7.cell 6; have f67 := sv7.frozen; clear hj7 hb7 b7 sv7)
      all_goals go_wp2
      all_goals
        go_ret
        have hzw := (HBr.out).size
        refine ⟨k, HST.out, ret_int (HPH.out).symm, x, cx, fun i => tAt ts (k + i), SW.turn HSWr.out HB7.out HJ7.out, fun i _ => rfl, fun a ha => ?_, fun i hi e1 e2 => ?_, ?_⟩
        · have := (HJ7.out).abov a ha; omega
        · rw [Below.heap_setCell _ _ _ i (by show i ≠ V; omega)]
          exact ((HB7.out).block i (by omega)).trans (HKr.out i hi e1 e2)
        · exact ((HBr.out).trans ((HB7.out).mono (HSWr.out).bw)).setCell (HSWr.out).bV _

end Go.Proofs.Ytmjggolllijamaa

/-
  THE FIRST ONE OUT: Pop OF BOTH SIDES.
-/
namespace Go.Proofs.Ytmjggolllijamaa
open Go.RowKit
set_option linter.unusedVariables false

def popF (f : Nat → Pk) : Nat → Pk := fun i => f (i + 1)
def popN (f : Nat → Pk) (n : Nat) (lim : Int) : Nat := if fifoB f n lim then n - 1 else 0
def popL (f : Nat → Pk) (n : Nat) (lim : Int) : Int := if fifoB f n lim then lim else 0
def popB (f : Nat → Pk) (n : Nat) (lim : Int) : Bool := fifoB f n lim && decide (0 < n)
def popP (f : Nat → Pk) (n : Nat) (lim : Int) : Pk := if popB f n lim then f 0 else ⟨0, 0, 0, 0, 0, 0⟩
theorem PR.tail {n₀ : Nat} {w : World} {b off n : Nat} {f : Nat → Pk} (h : ∀ i, i < n → PAt w b (off + i * 6) (f i)) (hb : b < n₀) : PR n₀ w (some ⟨b, off + 6, none⟩) (n - 1) (popF f) :=
  .inr ⟨b, off + 6, rfl, hb, fun i hi => by have := h (i + 1) (by omega); rw [show off + 6 + i * 6 = off + (i + 1) * 6 by omega]; exact this⟩
theorem PAt.drew {w : World} {b o : Nat} {p : Pk} (h : PAt w b o p) : PAt w.drew b o p := h

/-- What the last statement of Pop reads. -/
@[reducible] def SPop (s : Nat) (a : Option Addr) (n c : Nat) (lim : Int) (b off : Nat) (p0 : Pk) (w' : World) : Prop := (w'.cell? ⟨s, 0, none⟩ = some (.slice a n c) ∧ w'.cell? ⟨s, 1, none⟩ = some (.int .i64 lim)) ∧ (w'.cell? ⟨b, off, none⟩ = some (.int .i64 p0.id) ∧ w'.cell? ⟨b, off + 1, none⟩ = some (.int .i64 p0.flow) ∧ w'.cell? ⟨b, off + 2, none⟩ = some (.int .i64 p0.host) ∧ w'.cell? ⟨b, off + 3, none⟩ = some (.int .i64 p0.size) ∧ w'.cell? ⟨b, off + 4, none⟩ = some (.int .i64 p0.tm) ∧ w'.cell? ⟨b, off + 5, none⟩ = some (.int .i64 p0.ecn))
theorem SPop.set {s : Nat} {a : Option Addr} {n c : Nat} {lim : Int} {b off : Nat} {p0 : Pk} {w' : World} (h : SPop s a n c lim b off p0 w') (B o : Nat) (v : Value) (h1 : B ≠ s) (h2 : B ≠ b) : SPop s a n c lim b off p0 (w'.setCell ⟨B, o, none⟩ v) := by
  obtain ⟨⟨a0, a1⟩, c0, c1, c2, c3, c4, c5⟩ := h
  exact ⟨⟨(World.cell?_setCell_far w' ⟨B, o, none⟩ ⟨s, 0, none⟩ v h1).trans a0, (World.cell?_setCell_far w' ⟨B, o, none⟩ ⟨s, 1, none⟩ v h1).trans a1⟩, (World.cell?_setCell_far w' ⟨B, o, none⟩ ⟨b, off, none⟩ v h2).trans c0, (World.cell?_setCell_far w' ⟨B, o, none⟩ ⟨b, off + 1, none⟩ v h2).trans c1, (World.cell?_setCell_far w' ⟨B, o, none⟩ ⟨b, off + 2, none⟩ v h2).trans c2, (World.cell?_setCell_far w' ⟨B, o, none⟩ ⟨b, off + 3, none⟩ v h2).trans c3, (World.cell?_setCell_far w' ⟨B, o, none⟩ ⟨b, off + 4, none⟩ v h2).trans c4, (World.cell?_setCell_far w' ⟨B, o, none⟩ ⟨b, off + 5, none⟩ v h2).trans c5⟩

theorem SPop.alloc {s : Nat} {a : Option Addr} {n c : Nat} {lim : Int} {b off : Nat} {p0 : Pk} {w' : World} (h : SPop s a n c lim b off p0 w') (o : Obj) : SPop s a n c lim b off p0 (w'.alloc o).drew := by
  obtain ⟨⟨a0, a1⟩, c0, c1, c2, c3, c4, c5⟩ := h
  exact ⟨⟨(World.cell?_alloc_lt _ _ _ (World.block_lt_of_cell? w' _ a0)).trans a0, (World.cell?_alloc_lt _ _ _ (World.block_lt_of_cell? w' _ a1)).trans a1⟩, (World.cell?_alloc_lt _ _ _ (World.block_lt_of_cell? w' _ c0)).trans c0, (World.cell?_alloc_lt _ _ _ (World.block_lt_of_cell? w' _ c1)).trans c1, (World.cell?_alloc_lt _ _ _ (World.block_lt_of_cell? w' _ c2)).trans c2, (World.cell?_alloc_lt _ _ _ (World.block_lt_of_cell? w' _ c3)).trans c3, (World.cell?_alloc_lt _ _ _ (World.block_lt_of_cell? w' _ c4)).trans c4, (World.cell?_alloc_lt _ _ _ (World.block_lt_of_cell? w' _ c5)).trans c5⟩

set_option maxRecDepth 100000 in
set_option maxHeartbeats 4000000 in
theorem ipop_any (a : Option Addr) (n c : Nat) (f : Nat → Pk) (lim : Int) (w : World) (hn : n ≤ 1048576) (hnc : n ≤ c) (hP : PR w.heap.size w a n f) :
    Calls Try.prog 67 #[fiVal a n c lim] w fun e w' => ∃ (x : Option Addr) (cap : Nat), e = .returned (.tuple #[fiVal x (popN f n lim) cap (popL f n lim), (popP f n lim).val, .bool (popB f n lim)]) ∧ PO w.heap.size w' x (popN f n lim) cap (popF f) ∧ Below w.heap.size w w' := by
  have HP : Hid (PR w.heap.size w a n f) := hP
  clear hP
  simp only [fiVal]
  obtain ⟨W0, hW0⟩ : ∃ W0, ((w.alloc (.cells #[.slice a n c, .int .i64 lim] 84)).alloc (.cells #[.slice none 0 0, .int .i64 0] 84)).alloc (.cells #[.int .i64 0, .int .i64 0, .int .i64 0, .int .i64 0, .int .i64 0, .int .i64 0] 31) = W0 := ⟨_, rfl⟩
  have B0 : Below w.heap.size w W0 := by rw [← hW0]; exact (((Below.refl _ w).alloc (Nat.le_refl _) _).alloc (by simp) _).alloc (by simp; omega) _
  have lF : Lies W0 w.heap.size #[.slice a n c, .int .i64 lim] 84 := by rw [← hW0]; exact ((Lies.new _ _ _).alloc _).alloc _
  have lR : Lies W0 (w.heap.size + 1) #[.slice none 0 0, .int .i64 0] 84 := by rw [← hW0]; have := (Lies.new (w.alloc (.cells #[.slice a n c, .int .i64 lim] 84)) #[.slice none 0 0, .int .i64 0] 84).alloc (.cells #[.int .i64 0, .int .i64 0, .int .i64 0, .int .i64 0, .int .i64 0, .int .i64 0] 31); simpa using this
  have lP : Lies W0 (w.heap.size + 1 + 1) (pkCells ⟨0, 0, 0, 0, 0, 0⟩) 31 := by rw [← hW0]; have := Lies.new ((w.alloc (.cells #[.slice a n c, .int .i64 lim] 84)).alloc (.cells #[.slice none 0 0, .int .i64 0] 84)) (pkCells ⟨0, 0, 0, 0, 0, 0⟩) 31; simpa using this
  have hs0 : W0.heap.size = w.heap.size + 3 := by rw [← hW0]; simp
  have HS0 : Hid (W0.heap.size = w.heap.size + 3) := hs0
  have H0 : Hid (PR W0.heap.size W0 a n f) := (PR.below HP.out B0).mono B0.size
  obtain ⟨xf0, xf1⟩ := fi2_cells lF
  clear hs0
  cases hf : fifoB f n lim
  case false =>
    have hB : popB f n lim = false := by unfold popB; rw [hf]; rfl
    have hN : popN f n lim = 0 := by unfold popN; rw [hf]; rfl
    have hL : popL f n lim = 0 := by unfold popL; rw [hf]; rfl
    have hp : popP f n lim = ⟨0, 0, 0, 0, 0, 0⟩ := by unfold popP; rw [hB]; rfl
    rw [hB, hN, hL, hp]
    clear hB hN hL hp
    go_enter Try.func67, Try.ntmps67
    go_wp2_with (go_at_call 74; refine (ififoOk_any a n c f lim _ hn hnc H0.out).mono ?_; rintro e w1 ⟨rfl, b1⟩; rw [hf]; obtain ⟨r0, r1⟩ := fi2_cells (lR.below b1 lR.lt); obtain ⟨q0, q1, q2, q3, q4, q5⟩ := (lP.below b1 lP.lt).pk; simp only [Nat.zero_add] at q1 q2 q3 q4 q5; have fr := (lR.below b1 lR.lt).frozen; have fp := (lP.below b1 lP.lt).frozen)
    refine bodyPost_ret (v := .tuple #[.agg #[.slice none 0 0, .int .i64 0], .agg #[.int .i64 0, .int .i64 0, .int .i64 0, .int .i64 0, .int .i64 0, .int .i64 0], .bool false]) (by simp [results, Try.results67, go_sem, r0, r1, q0, q1, q2, q3, q4, q5]) rfl ⟨none, 0, rfl, PO.nil _ _ _, ?_⟩
    have B1 := B0.trans (b1.mono B0.size)
    exact (((((((B1.setCell (by show w.heap.size ≤ w.heap.size + 1; omega) _).setCell (by show w.heap.size ≤ w.heap.size + 1; omega) _).setCell (by show w.heap.size ≤ w.heap.size + 1 + 1; omega) _).setCell (by show w.heap.size ≤ w.heap.size + 1 + 1; omega) _).setCell (by show w.heap.size ≤ w.heap.size + 1 + 1; omega) _).setCell (by show w.heap.size ≤ w.heap.size + 1 + 1; omega) _).setCell (by show w.heap.size ≤ w.heap.size + 1 + 1; omega) _).setCell (by show w.heap.size ≤ w.heap.size + 1 + 1; omega) _
  case true =>
  by_cases hz : n = 0
  · subst hz
    have hB : popB f 0 lim = false := by unfold popB; simp
    have hN : popN f 0 lim = 0 := by unfold popN; rw [hf]; rfl
    have hL : popL f 0 lim = lim := by unfold popL; rw [hf]; rfl
    have hp : popP f 0 lim = ⟨0, 0, 0, 0, 0, 0⟩ := by unfold popP; rw [hB]; rfl
    rw [hB, hN, hL, hp]
    clear hB hN hL hp
    go_enter Try.func67, Try.ntmps67
    go_wp2_with (go_at_call 74; refine (ififoOk_any a 0 c f lim _ hn hnc H0.out).mono ?_; rintro e w1 ⟨rfl, b1⟩; rw [hf]; obtain ⟨xg0, xg1⟩ := fi2_cells (lF.below b1 lF.lt); obtain ⟨r0, r1⟩ := fi2_cells (lR.below b1 lR.lt); obtain ⟨q0, q1, q2, q3, q4, q5⟩ := (lP.below b1 lP.lt).pk; simp only [Nat.zero_add] at q1 q2 q3 q4 q5; have fr := (lR.below b1 lR.lt).frozen; have fp := (lP.below b1 lP.lt).frozen)
    refine bodyPost_ret (v := .tuple #[.agg #[.slice none 0 0, .int .i64 lim], .agg #[.int .i64 0, .int .i64 0, .int .i64 0, .int .i64 0, .int .i64 0, .int .i64 0], .bool false]) (by simp [results, Try.results67, go_sem, r0, r1, q0, q1, q2, q3, q4, q5]) rfl ⟨none, 0, rfl, PO.nil _ _ _, ?_⟩
    have B1 := B0.trans (b1.mono B0.size)
    exact (((((((B1.setCell (by show w.heap.size ≤ w.heap.size + 1; omega) _).setCell (by show w.heap.size ≤ w.heap.size + 1; omega) _).setCell (by show w.heap.size ≤ w.heap.size + 1 + 1; omega) _).setCell (by show w.heap.size ≤ w.heap.size + 1 + 1; omega) _).setCell (by show w.heap.size ≤ w.heap.size + 1 + 1; omega) _).setCell (by show w.heap.size ≤ w.heap.size + 1 + 1; omega) _).setCell (by show w.heap.size ≤ w.heap.size + 1 + 1; omega) _).setCell (by show w.heap.size ≤ w.heap.size + 1 + 1; omega) _
  · have hz' : ((n : Int) == 0) = false := by simpa using hz
    have hzi : (1 : Int) ≤ (n : Int) := by omega
    have hzj : (0 : Int) < (n : Int) := by omega
    have hzk : 0 < n := by omega
    have hB : popB f n lim = true := by unfold popB; rw [hf]; simp; omega
    have hN : popN f n lim = n - 1 := by unfold popN; rw [hf]; rfl
    have hL : popL f n lim = lim := by unfold popL; rw [hf]; rfl
    have hp : popP f n lim = f 0 := by unfold popP; rw [hB]; rfl
    rw [hB, hN, hL, hp]
    clear hB hN hL hp
    obtain ⟨b, off, rfl, hbl, hcs⟩ := PR.at HP.out (show 0 < n by omega)
    have HC : Hid (∀ i, i < n → PAt w b (off + i * 6) (f i)) := hcs
    clear hcs
    generalize hp0 : f 0 = p0
    by_cases hc1 : c = 1
    · obtain rfl : n = 1 := by omega
      subst hc1
      go_enter Try.func67, Try.ntmps67
      go_wp2_with (go_at_call 74; refine (ififoOk_any _ 1 1 f lim _ hn hnc H0.out).mono ?_; rintro e w1 ⟨rfl, b1⟩; rw [hf]; obtain ⟨xg0, xg1⟩ := fi2_cells (lF.below b1 lF.lt); obtain ⟨r0, r1⟩ := fi2_cells (lR.below b1 lR.lt); obtain ⟨q0, q1, q2, q3, q4, q5⟩ := (lP.below b1 lP.lt).pk; simp only [Nat.zero_add] at q1 q2 q3 q4 q5; have fr := (lR.below b1 lR.lt).frozen; have fp := (lP.below b1 lP.lt).frozen)
      have B1 := B0.trans (b1.mono B0.size)
      have lF1 := lF.below b1 lF.lt
      have lR1 := lR.below b1 lR.lt
      have lP1 := lP.below b1 lP.lt
      have hs1 : w.heap.size + 1 + 1 < w1.heap.size := lP1.lt
      have hn1 : w.heap.size + 1 ≠ b := by omega
      have hn2 : w.heap.size + 1 + 1 ≠ b := by omega
      have hm1 : w.heap.size + 1 ≠ w.heap.size := by omega
      have hm2 : w.heap.size + 1 + 1 ≠ w.heap.size := by omega
      obtain ⟨d0, d1, d2, d3, d4, d5⟩ := (HC.out 0 (by omega)).below B1 hbl
      rw [hp0] at d0 d1 d2 d3 d4 d5
      simp only [Nat.zero_mul, Nat.add_zero] at d0 d1 d2 d3 d4 d5
      go_region_held3 (fun w' => (w'.cell? ⟨w.heap.size, 0, none⟩ = some (.slice (some ⟨b, off, none⟩) 1 1) ∧ w'.cell? ⟨w.heap.size, 1, none⟩ = some (.int .i64 lim)) ∧ (w'.cell? ⟨b, off, none⟩ = some (.int .i64 p0.id) ∧ w'.cell? ⟨b, off + 1, none⟩ = some (.int .i64 p0.flow) ∧ w'.cell? ⟨b, off + 2, none⟩ = some (.int .i64 p0.host) ∧ w'.cell? ⟨b, off + 3, none⟩ = some (.int .i64 p0.size) ∧ w'.cell? ⟨b, off + 4, none⟩ = some (.int .i64 p0.tm) ∧ w'.cell? ⟨b, off + 5, none⟩ = some (.int .i64 p0.ecn))) (first | (with_reducible exact hS2) | (with_reducible exact (hS2.set (w.heap.size + 1) 0 _ hm1 hn1).set (w.heap.size + 1) 1 _ hm1 hn1) | (with_reducible exact ((((((((hS2.set (w.heap.size + 1) 0 _ hm1 hn1).set (w.heap.size + 1) 1 _ hm1 hn1).set (w.heap.size + 1 + 1) 0 _ hm2 hn2).set (w.heap.size + 1 + 1) 1 _ hm2 hn2).set (w.heap.size + 1 + 1) 2 _ hm2 hn2).set (w.heap.size + 1 + 1) 3 _ hm2 hn2).set (w.heap.size + 1 + 1) 4 _ hm2 hn2).set (w.heap.size + 1 + 1) 5 _ hm2 hn2)) | exact ⟨⟨xg0, xg1⟩, d0, d1, d2, d3, d4, d5⟩ | fail) (first | (go_at_call 64; refine (copied_any _ 0 _ (popF f) _ (.inl rfl) (by omega)).mono ?_; rintro e w2 ⟨x, cap, rfl, hpo, b2⟩; obtain ⟨g0, g1⟩ := fi2_cells (Lies.below (W := w1.drew) lF1 b2 lF1.lt); have lR2 := Lies.below (W := w1.drew) lR1 b2 lR1.lt; have lP2 := Lies.below (W := w1.drew) lP1 b2 lP1.lt; obtain ⟨rr0, rr1⟩ := fi2_cells lR2; have fr2 := lR2.frozen; have fp2 := lP2.frozen; obtain ⟨pp0, pp1, pp2, pp3, pp4, pp5⟩ := lP2.pk; simp only [Nat.zero_add] at pp1 pp2 pp3 pp4 pp5; obtain ⟨e0, e1, e2, e3, e4, e5⟩ := (PAt.drew (w := w1) (p := p0) ⟨d0, d1, d2, d3, d4, d5⟩).below b2 (Nat.lt_of_lt_of_le hbl B1.size); have hS2 : SPop w.heap.size (some ⟨b, off, none⟩) 1 1 lim b off p0 w2 := ⟨⟨g0, g1⟩, e0, e1, e2, e3, e4, e5⟩))
      all_goals
        go_wp2
        refine bodyPost_ret (v := .tuple #[.agg #[.slice x 0 cap, .int .i64 lim], .agg #[.int .i64 p0.id, .int .i64 p0.flow, .int .i64 p0.host, .int .i64 p0.size, .int .i64 p0.tm, .int .i64 p0.ecn], .bool true]) (by simp [results, Try.results67, go_sem, rr0, rr1, pp0, pp1, pp2, pp3, pp4, pp5]) rfl ⟨x, cap, rfl, ?_, ?_⟩
        · exact ((((((((hpo.far (by show _ < w1.heap.size; omega) _ _).far (by show _ < w1.heap.size; omega) _ _).far (by show _ < w1.heap.size; omega) _ _).far (by show _ < w1.heap.size; omega) _ _).far (by show _ < w1.heap.size; omega) _ _).far (by show _ < w1.heap.size; omega) _ _).far (by show _ < w1.heap.size; omega) _ _).far (by show _ < w1.heap.size; omega) _ _).mono B1.size
        · have B2 := B1.drew.trans (b2.mono B1.size)
          exact (((((((B2.setCell (by show w.heap.size ≤ w.heap.size + 1; omega) _).setCell (by show w.heap.size ≤ w.heap.size + 1; omega) _).setCell (by show w.heap.size ≤ w.heap.size + 1 + 1; omega) _).setCell (by show w.heap.size ≤ w.heap.size + 1 + 1; omega) _).setCell (by show w.heap.size ≤ w.heap.size + 1 + 1; omega) _).setCell (by show w.heap.size ≤ w.heap.size + 1 + 1; omega) _).setCell (by show w.heap.size ≤ w.heap.size + 1 + 1; omega) _).setCell (by show w.heap.size ≤ w.heap.size + 1 + 1; omega) _
    · go_enter Try.func67, Try.ntmps67
      go_wp2_with (go_at_call 74; refine (ififoOk_any _ n c f lim _ hn hnc H0.out).mono ?_; rintro e w1 ⟨rfl, b1⟩; rw [hf]; obtain ⟨xg0, xg1⟩ := fi2_cells (lF.below b1 lF.lt); obtain ⟨r0, r1⟩ := fi2_cells (lR.below b1 lR.lt); obtain ⟨q0, q1, q2, q3, q4, q5⟩ := (lP.below b1 lP.lt).pk; simp only [Nat.zero_add] at q1 q2 q3 q4 q5; have fr := (lR.below b1 lR.lt).frozen; have fp := (lP.below b1 lP.lt).frozen)
      have B1 := B0.trans (b1.mono B0.size)
      have lF1 := lF.below b1 lF.lt
      have lR1 := lR.below b1 lR.lt
      have lP1 := lP.below b1 lP.lt
      have hs1 : w.heap.size + 1 + 1 < w1.heap.size := lP1.lt
      have hn1 : w.heap.size + 1 ≠ b := by omega
      have hn2 : w.heap.size + 1 + 1 ≠ b := by omega
      have hm1 : w.heap.size + 1 ≠ w.heap.size := by omega
      have hm2 : w.heap.size + 1 + 1 ≠ w.heap.size := by omega
      obtain ⟨d0, d1, d2, d3, d4, d5⟩ := (HC.out 0 (by omega)).below B1 hbl
      rw [hp0] at d0 d1 d2 d3 d4 d5
      simp only [Nat.zero_mul, Nat.add_zero] at d0 d1 d2 d3 d4 d5
      go_region_held3 (fun w' => (w'.cell? ⟨w.heap.size, 0, none⟩ = some (.slice (some ⟨b, off, none⟩) n c) ∧ w'.cell? ⟨w.heap.size, 1, none⟩ = some (.int .i64 lim)) ∧ (w'.cell? ⟨b, off, none⟩ = some (.int .i64 p0.id) ∧ w'.cell? ⟨b, off + 1, none⟩ = some (.int .i64 p0.flow) ∧ w'.cell? ⟨b, off + 2, none⟩ = some (.int .i64 p0.host) ∧ w'.cell? ⟨b, off + 3, none⟩ = some (.int .i64 p0.size) ∧ w'.cell? ⟨b, off + 4, none⟩ = some (.int .i64 p0.tm) ∧ w'.cell? ⟨b, off + 5, none⟩ = some (.int .i64 p0.ecn))) (first | (with_reducible exact hS2) | (with_reducible exact (hS2.set (w.heap.size + 1) 0 _ hm1 hn1).set (w.heap.size + 1) 1 _ hm1 hn1) | (with_reducible exact ((((((((hS2.set (w.heap.size + 1) 0 _ hm1 hn1).set (w.heap.size + 1) 1 _ hm1 hn1).set (w.heap.size + 1 + 1) 0 _ hm2 hn2).set (w.heap.size + 1 + 1) 1 _ hm2 hn2).set (w.heap.size + 1 + 1) 2 _ hm2 hn2).set (w.heap.size + 1 + 1) 3 _ hm2 hn2).set (w.heap.size + 1 + 1) 4 _ hm2 hn2).set (w.heap.size + 1 + 1) 5 _ hm2 hn2)) | exact ⟨⟨xg0, xg1⟩, d0, d1, d2, d3, d4, d5⟩ | fail) (first | (go_at_call 64; refine (copied_any (some ⟨b, off + 6, none⟩) (n - 1) (c - 1) (popF f) _ ((PR.tail (w := w1.drew) (fun i hi => PAt.drew ((HC.out i hi).below B1 hbl)) (Nat.lt_of_lt_of_le hbl B1.size))) (by omega)).mono ?_; rintro e w2 ⟨x, cap, rfl, hpo, b2⟩; obtain ⟨g0, g1⟩ := fi2_cells (Lies.below (W := w1.drew) lF1 b2 lF1.lt); have lR2 := Lies.below (W := w1.drew) lR1 b2 lR1.lt; have lP2 := Lies.below (W := w1.drew) lP1 b2 lP1.lt; obtain ⟨rr0, rr1⟩ := fi2_cells lR2; have fr2 := lR2.frozen; have fp2 := lP2.frozen; obtain ⟨pp0, pp1, pp2, pp3, pp4, pp5⟩ := lP2.pk; simp only [Nat.zero_add] at pp1 pp2 pp3 pp4 pp5; obtain ⟨e0, e1, e2, e3, e4, e5⟩ := (PAt.drew (w := w1) (p := p0) ⟨d0, d1, d2, d3, d4, d5⟩).below b2 (Nat.lt_of_lt_of_le hbl B1.size); have hS2 : SPop w.heap.size (some ⟨b, off, none⟩) n c lim b off p0 w2 := ⟨⟨g0, g1⟩, e0, e1, e2, e3, e4, e5⟩))
      all_goals
        go_wp2
        refine bodyPost_ret (v := .tuple #[.agg #[.slice x (n - 1) cap, .int .i64 lim], .agg #[.int .i64 p0.id, .int .i64 p0.flow, .int .i64 p0.host, .int .i64 p0.size, .int .i64 p0.tm, .int .i64 p0.ecn], .bool true]) (by simp [results, Try.results67, go_sem, rr0, rr1, pp0, pp1, pp2, pp3, pp4, pp5]) rfl ⟨x, cap, rfl, ?_, ?_⟩
        · exact ((((((((hpo.far (by show _ < w1.heap.size; omega) _ _).far (by show _ < w1.heap.size; omega) _ _).far (by show _ < w1.heap.size; omega) _ _).far (by show _ < w1.heap.size; omega) _ _).far (by show _ < w1.heap.size; omega) _ _).far (by show _ < w1.heap.size; omega) _ _).far (by show _ < w1.heap.size; omega) _ _).far (by show _ < w1.heap.size; omega) _ _).mono B1.size
        · have B2 := B1.drew.trans (b2.mono B1.size)
          exact (((((((B2.setCell (by show w.heap.size ≤ w.heap.size + 1; omega) _).setCell (by show w.heap.size ≤ w.heap.size + 1; omega) _).setCell (by show w.heap.size ≤ w.heap.size + 1 + 1; omega) _).setCell (by show w.heap.size ≤ w.heap.size + 1 + 1; omega) _).setCell (by show w.heap.size ≤ w.heap.size + 1 + 1; omega) _).setCell (by show w.heap.size ≤ w.heap.size + 1 + 1; omega) _).setCell (by show w.heap.size ≤ w.heap.size + 1 + 1; omega) _).setCell (by show w.heap.size ≤ w.heap.size + 1 + 1; omega) _

end Go.Proofs.Ytmjggolllijamaa
