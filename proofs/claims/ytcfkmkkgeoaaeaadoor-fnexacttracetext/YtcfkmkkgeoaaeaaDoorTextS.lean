/-
  A LINE OF THE TEXT, AS THE SPECIFICATION WRITES IT: l12text.
-/
import Derived.Test.YtcfkmkkgeoaaeaaDoorTextN
import Derived.Deep.RegionHeld3
import Derived.Deep.Cut
namespace Go.Proofs.YtcfkmkkgeoaaeaaDoor
open Go.RowKit
set_option linter.unusedVariables false

theorem step_append_obS {w : World} {ops : Array Oper} {o : Oper} {a : Act} {K : Act → World → Prop} {Q : Exit → Act → World → Prop} {E : Prop} (hw : Region.wanted o (yielded ops a.tmps) = true) (s x : Operand)
    (ho : o.op = .call { callee := .builtin .append, args := #[s, x], argTypes := #[27, 9] })
    (base : Nat) (y : Option Addr) (cap : Nat) (l : List Int) (k : Nat) (hk : l.length = k) (hs : a.eval s = .slice y k cap) (hown : OB base w y cap l)
    (str : ByteArray) (hx : a.eval x = .string str) (hm : k + str.size ≤ 1048576) (hbase : base ≤ w.heap.size)
    (h : ∀ a' cap' w', OB base w' a' cap' (l ++ strL str) → Gr w w' (.slice y k cap) (.slice a' (k + str.size) cap') → K (a.put o.dst (.slice a' (k + str.size) cap')) w') :
    if Region.wanted o (yielded ops a.tmps) = true then Oper.wp Tryd.prog o a w K Q else E := by
  rw [if_pos hw]
  exact wp_append_obS s x ho base y cap l k hk hs hown str hx hm hbase h
/-- Bytes that are one's own, or a literal's that are full: the next byte goes elsewhere. -/
def OX (base : Nat) (w : World) (x : Option Addr) (cap : Nat) (l : List Int) : Prop := OB base w x cap l ∨ ∃ g, x = some ⟨g, 0, none⟩ ∧ cap = l.length ∧ base ≤ g ∧ g < w.heap.size ∧ ∀ j, j < l.length → w.cell? ⟨g, j, none⟩ = some (.int .u8 (l.getD j 0)) ∧ w.frozen? ⟨g, j, none⟩ = false
theorem OX.below {base : Nat} {w w' : World} {x : Option Addr} {cap : Nat} {l : List Int} (h : OX base w x cap l) (hb : Below w.heap.size w w') : OX base w' x cap l := by
  rcases h with h | ⟨g, h1, h2, h3, h4, h5⟩
  · exact .inl (OB.below h hb)
  · exact .inr ⟨g, h1, h2, h3, Nat.lt_of_lt_of_le h4 hb.size, fun j hj => ⟨(hb.cell (p := ⟨g, j, none⟩) h4).trans (h5 j hj).1, (hb.frozen (p := ⟨g, j, none⟩) h4).trans (h5 j hj).2⟩⟩
theorem OX.own {base : Nat} {w : World} {x : Option Addr} {cap : Nat} {l : List Int} (h : OX base w x cap l) : ∀ k, (Value.slice x l.length cap).ownBlock = some k → base ≤ k ∧ k < w.heap.size := by
  rcases h with h | ⟨g, rfl, h2, h3, h4, h5⟩
  · exact OB.own h
  · intro k e
    have : g = k := by simpa [Value.ownBlock] using e
    omega
theorem OX.zn {base : Nat} {w : World} {x : Option Addr} {cap : Nat} {l : List Int} (h : OX base w x cap l) : Zn base w.heap.size w x l.length (fun i => l.getD i 0) := by
  rcases h with h | ⟨g, rfl, h2, h3, h4, h5⟩
  · exact OB.zn h
  · exact .inr ⟨g, rfl, h3, h4, h4, fun i hi => h5 i hi⟩
theorem wp_append_oxS {w : World} {o : Oper} {a : Act} {K : Act → World → Prop} {Q : Exit → Act → World → Prop} (s x : Operand)
    (ho : o.op = .call { callee := .builtin .append, args := #[s, x], argTypes := #[27, 9] })
    (base : Nat) (y : Option Addr) (cap : Nat) (l : List Int) (k : Nat) (hk : l.length = k) (hs : a.eval s = .slice y k cap) (hown : OX base w y cap l)
    (str : ByteArray) (hpos : 0 < str.size) (hx : a.eval x = .string str) (hm : k + str.size ≤ 1048576) (hbase : base ≤ w.heap.size)
    (h : ∀ a' cap' w', OB base w' a' cap' (l ++ strL str) → Gr w w' (.slice y k cap) (.slice a' (k + str.size) cap') → K (a.put o.dst (.slice a' (k + str.size) cap')) w') : o.wp Tryd.prog a w K Q := by
  rcases hown with hown | ⟨g, rfl, rfl, h3, h4, h5⟩
  · exact wp_append_obS s x ho base y cap l k hk hs hown str hx hm hbase h
  · subst hk
    obtain ⟨i0, hi0, hz0, hz1, hz2⟩ := info_parts infoU8
    have holds : ∀ j u, (l.map (Value.int .u8))[j]? = some u → w.cell? ((⟨g, 0, none⟩ : Addr).add j) = some u := fun j u hu => by
      have hj : j < l.length := by simpa using (List.getElem?_eq_some_iff.1 hu).1
      have hadd : (⟨g, 0, none⟩ : Addr).add j = ⟨g, j, none⟩ := by unfold Addr.add; split <;> simp_all
      rw [hadd, (h5 j hj).1, ← hu]
      simp [hj]
    have hr' := Lib.run_append_grow_string (P := Tryd.prog) w 27 9 o.type 5 i0 (.int .u8 0) Tryd.underlying27 Tryd.underlying9 hi0 hz0 ⟨g, 0, none⟩ l.length l.length (l.map (Value.int .u8)) (by rw [hz1]; simp) holds str (by omega) (by omega) (by rw [hz2]; exact growslice_fits (by omega) (by omega))
    have hlen : (l ++ strL str).length = l.length + str.size := by rw [List.length_append, strL_len]
    have hge := grownCap_ge w (l.length + str.size) l.length 5
    have hcm := grownCap_le_maxLen w (l.length + str.size) l.length 5 (by unfold maxLen; omega)
    have hrow : (w.drew.alloc (.cells ((l.map (Value.int .u8)).toArray ++ (Lib.strCells str).toArray ++ Builtin.zeroCells (Value.int .u8 0).cells (grownCap w (l.length + str.size) l.length 5 - (l.length + str.size))) 5)).ownsRow base 5 1 (.slice (some ⟨w.heap.size, 0, none⟩) (l ++ strL str).length (grownCap w (l.length + str.size) l.length 5)) (l ++ strL str).length ((l ++ strL str).map (Value.int .u8)) := by
      refine ⟨by simp, .inr ⟨w.heap.size, _, _, rfl, hbase, heap_alloc_new w.drew _, by rw [hlen]; exact hge, hcm, ?_, ?_⟩⟩
      · have hzc : (Value.int IntKind.u8 0).cells.size = 1 := rfl
        simp only [Array.size_append, List.size_toArray, size_zeroCells, hzc, List.length_map, Lib.strCells_length]
        omega
      · simp only [Array.toList_append, List.append_assoc]
        rw [List.map_append, ← strCells_strL, hlen, Nat.mul_one, ← List.append_assoc]
        have e2 : l.length + str.size = (List.map (Value.int IntKind.u8) l ++ Lib.strCells str).length := by rw [List.length_append, List.length_map, Lib.strCells_length]
        rw [e2]
        exact List.take_left
    have hob : OB base (w.drew.alloc (.cells ((l.map (Value.int .u8)).toArray ++ (Lib.strCells str).toArray ++ Builtin.zeroCells (Value.int .u8 0).cells (grownCap w (l.length + str.size) l.length 5 - (l.length + str.size))) 5)) (some ⟨w.heap.size, 0, none⟩) (grownCap w (l.length + str.size) l.length 5) (l ++ strL str) := by
      unfold OB BO
      rw [byL_list]
      exact hrow
    unfold Oper.wp execOp
    simp only [ho, resolve, invoke, builtin, Sem.run_bind, Sem.run_pure, Result.andThen_ok, List.map_toArray, List.map_cons, List.map_nil, hs, hx, hr']
    refine h _ _ _ hob ⟨⟨rfl, rfl, rfl, by simp, fun i hi _ => heap_alloc_old w.drew _ hi⟩, .inr fun q eq => ?_⟩
    have : w.heap.size = q := by simpa [Value.ownBlock] using eq
    omega
theorem step_append_oxS {w : World} {ops : Array Oper} {o : Oper} {a : Act} {K : Act → World → Prop} {Q : Exit → Act → World → Prop} {E : Prop} (hw : Region.wanted o (yielded ops a.tmps) = true) (s x : Operand)
    (ho : o.op = .call { callee := .builtin .append, args := #[s, x], argTypes := #[27, 9] })
    (base : Nat) (y : Option Addr) (cap : Nat) (l : List Int) (k : Nat) (hk : l.length = k) (hs : a.eval s = .slice y k cap) (hown : OX base w y cap l)
    (str : ByteArray) (hpos : 0 < str.size) (hx : a.eval x = .string str) (hm : k + str.size ≤ 1048576) (hbase : base ≤ w.heap.size)
    (h : ∀ a' cap' w', OB base w' a' cap' (l ++ strL str) → Gr w w' (.slice y k cap) (.slice a' (k + str.size) cap') → K (a.put o.dst (.slice a' (k + str.size) cap')) w') :
    if Region.wanted o (yielded ops a.tmps) = true then Oper.wp Tryd.prog o a w K Q else E := by
  rw [if_pos hw]
  exact wp_append_oxS s x ho base y cap l k hk hs hown str hpos hx hm hbase h
theorem step_append_obN {w : World} {ops : Array Oper} {o : Oper} {a : Act} {K : Act → World → Prop} {Q : Exit → Act → World → Prop} {E : Prop} (hw : Region.wanted o (yielded ops a.tmps) = true) (s x : Operand)
    (ho : o.op = .call { callee := .builtin .append, args := #[s, x], argTypes := #[27, 27] })
    (base : Nat) (y : Option Addr) (cap : Nat) (l : List Int) (m : Nat) (hk : l.length = m) (hs : a.eval s = .slice y m cap) (hown : OB base w y cap l)
    (ad : Option Addr) (k c : Nat) (g : Nat → Int) (hx : a.eval x = .slice ad k c) (hr : Row .u8 w ad k g) (hm : m + k ≤ 1048576) (hbase : base ≤ w.heap.size)
    (h : ∀ a' cap' w', OB base w' a' cap' (l ++ (List.range k).map g) → Gr w w' (.slice y m cap) (.slice a' (m + k) cap') → K (a.put o.dst (.slice a' (m + k) cap')) w') :
    if Region.wanted o (yielded ops a.tmps) = true then Oper.wp Tryd.prog o a w K Q else E := by
  rw [if_pos hw]
  exact wp_append_obN s x ho base y cap l m hk hs hown ad k c g hx hr hm hbase h

/-- The digits' row lies there behind an append onto other bytes. -/
theorem row_gr {w w' : World} {a : Option Addr} {n : Nat} {f : Nat → Int} {u v : Value} (h : Row .u8 w a n f) (hg : Gr w w' u v) (hne : ∀ b off, a = some ⟨b, off, none⟩ → some b ≠ u.ownBlock) : Row .u8 w' a n f := by
  rcases h with h | ⟨b, off, ha, hb, hc⟩
  · exact .inl h
  · have hk : w'.heap[b]? = w.heap[b]? := hg.1.block b hb (hne b off ha)
    exact .inr ⟨b, off, ha, Nat.lt_of_lt_of_le hb hg.size, fun i hi => (World.cell?_of_block (w := w) (a := ⟨b, off + i, none⟩) hk).trans (hc i hi)⟩
theorem digits_any (v : Int) (h0 : 0 ≤ v) (h1 : v ≤ 9223372036854775807) (w : World) :
    Calls Tryd.prog 27 #[.int .i64 v] w fun e w' => ∃ (x : Option Addr) (D cap : Nat), e = .returned (.slice x D cap) ∧ (dgL v).length = D ∧ (List.range D).map (digF v.toNat) = dgL v ∧ Row .u8 w' x D (digF v.toNat) ∧ Below w.heap.size w w' := by
  obtain ⟨n, rfl⟩ := Int.eq_ofNat_of_zero_le h0
  refine (sdigits_any (n + 1) n w (by omega) (by omega)).mono ?_
  rintro e w' ⟨x, cap, rfl, hbo, hb⟩
  have e1 : ((n : Int)).toNat = n := by omega
  refine ⟨x, digN n, cap, rfl, ?_, ?_, ?_, hb⟩
  · unfold dgL; rw [e1]; simp
  · unfold dgL; rw [e1]
  · rw [e1]
    rcases BO.fresh hbo with h | ⟨g, rfl, _, ho⟩
    · exact .inl h
    · exact ho.row

set_option maxRecDepth 100000 in
set_option maxHeartbeats 4000000 in
theorem sl12text_any (wd : ByteArray) (hwd : wd.size ≤ 5) (hwp : 0 < wd.size) (base : Nat) (y : Option Addr) (cap : Nat) (l : List Int) (m : Nat) (hm : l.length = m) (p : Pk) (t : Int) (w : World) (hown : OX base w y cap l) (hp : p.good = true) (ht : 0 ≤ t ∧ t ≤ 1000000000000) (hl : m ≤ 1000000) (hbase : base ≤ w.heap.size) :
    Calls Tryd.prog 16 #[.slice y m cap, .string wd, p.val, .int .i64 t] w fun e w' => ∃ (x : Option Addr) (cx N : Nat), e = .returned (.slice x N cx) ∧ (l ++ lnL (strL wd) p.id t p.ecn).length = N ∧ OB base w' x cx (l ++ lnL (strL wd) p.id t p.ecn) ∧ Gr w w' (.slice y m cap) (.slice x N cx) := by
  obtain ⟨⟨i0, i1⟩, ⟨_, _⟩, ⟨e0, e1⟩⟩ := good_bds hp
  obtain ⟨t0, t1⟩ := ht
  obtain ⟨pi, pf, ph, ps, pt, pe⟩ := p
  simp only at i0 i1 e0 e1
  simp only [Pk.val]
  obtain ⟨W, hW⟩ : ∃ W, w.alloc (.cells #[.int .i64 pi, .int .i64 pf, .int .i64 ph, .int .i64 ps, .int .i64 pt, .int .i64 pe] 43) = W := ⟨_, rfl⟩
  have hWs : w.heap.size < W.heap.size := by rw [← hW]; simp
  have HS : Hid (Sits W w.heap.size #[.int .i64 pi, .int .i64 pf, .int .i64 ph, .int .i64 ps, .int .i64 pt, .int .i64 pe] 43) := by show Sits _ _ _ _; rw [← hW]; exact Sits.new _ _ _
  have hg0 : Gr w W (.slice y m cap) (.slice y m cap) := by rw [← hW]; exact (Gr.refl _ _).alloc _
  have ho0 : OX base W y cap l := by rw [← hW]; exact OX.below hown ((Below.refl _ _).alloc (Nat.le_refl _) _)
  have HO : Hid (OX base W y cap l) := ho0
  have HG : Hid (Gr w W (.slice y m cap) (.slice y m cap)) := hg0
  have hownP : ∀ k, (Value.slice y m cap).ownBlock = some k → k < w.heap.size := fun k e => (OX.own hown k (by rw [hm]; exact e)).2
  have HK : Hid (∀ U v, Gr W U (.slice y m cap) v → U.cell? ⟨w.heap.size, 0, none⟩ = some (.int .i64 pi) ∧ U.cell? ⟨w.heap.size, 5, none⟩ = some (.int .i64 pe)) := fun U v h => by
    have hb : U.heap[w.heap.size]? = W.heap[w.heap.size]? := h.1.block _ hWs (fun e => by have := hownP _ e.symm; omega)
    have hs : Sits U w.heap.size #[.int .i64 pi, .int .i64 pf, .int .i64 ph, .int .i64 ps, .int .i64 pt, .int .i64 pe] 43 := hb.trans HS.out
    exact ⟨hs.cell 0, hs.cell 5⟩
  have HM : Hid (l.length = m) := hm
  have hbW : base ≤ W.heap.size := by omega
  have HID : Hid (l ++ strL wd ++ [32] ++ dgL pi ++ [32] ++ dgL t ++ [32] ++ dgL pe ++ [10] = l ++ lnL (strL wd) pi t pe) := by show _ = _; unfold lnL; simp
  clear hg0 ho0 hown hownP hp hm
  go_enter Tryd.func16, Tryd.ntmps16
  go_upto_region 1 with fail
  (try rw [hW])
  clear hW
  have HOW : Hid (∀ k, (Value.slice y m cap).ownBlock = some k → k < W.heap.size) := fun k e => (OX.own HO.out k (by rw [HM.out]; exact e)).2
  have hgd : Gr W W.drew (.slice y m cap) (.slice y m cap) := (Gr.refl W _).drew
  have hgo : Gr W (W.alloc (.cells #[.int .u8 32] 5)).drew (.slice y m cap) (.slice y m cap) := ((Gr.refl W _).alloc _).drew
  have hr0 : Row .u8 (W.alloc (.cells #[.int .u8 32] 5)).drew (some ⟨W.heap.size, 0, none⟩) 1 (fun _ => 32) := (row_one W 32 _).below ((Below.refl _ _).drew)
  have HGD : Hid (Gr W W.drew (.slice y m cap) (.slice y m cap)) := hgd
  have HGO : Hid (Gr W (W.alloc (.cells #[.int .u8 32] 5)).drew (.slice y m cap) (.slice y m cap)) := hgo
  have HR0 : Hid (Row .u8 (W.alloc (.cells #[.int .u8 32] 5)).drew (some ⟨W.heap.size, 0, none⟩) 1 (fun _ => 32)) := hr0
  have HOD : Hid (OX base W.drew y cap l) := OX.below HO.out ((Below.refl _ _).drew)
  have HOO : Hid (OX base (W.alloc (.cells #[.int .u8 32] 5)).drew y cap l) := OX.below HO.out (((Below.refl _ _).alloc (Nat.le_refl _) _).drew)
  have HNE : Hid (∀ b off, (some (⟨W.heap.size, 0, none⟩ : Addr)) = some ⟨b, off, none⟩ → some b ≠ (Value.slice y m cap).ownBlock) := fun b off e h => by
    have h1 : W.heap.size = b := by simpa using congrArg (fun x => x.map (·.block)) e
    have := HOW.out b h.symm
    omega
  obtain ⟨k0, k5⟩ := HK.out _ _ (Gr.refl W _)
  clear hgd hgo hr0
  obtain ⟨N1, hN1⟩ : ∃ N, m + wd.size = N := ⟨_, rfl⟩
  have HN1 : Hid (m + wd.size = N1) := hN1
  have hN1b : N1 ≤ m + 5 := by omega
  clear hN1
  go_region_held3 (fun w' => w'.cell? ⟨w.heap.size, 0, none⟩ = some (.int .i64 pi)) (first | exact (HK.out _ _ g4).1 | exact (HK.out _ _ g3).1 | exact (HK.out _ _ g2).1 | exact (HK.out _ _ g1).1 | exact (HK.out _ _ (Gr.alloc g1 _)).1 | exact (HK.out _ _ HGO.out).1 | exact (HK.out _ _ HGD.out).1)
    (first | (refine step_append_oxS rfl _ _ rfl base y cap l m HM.out rfl HOD.out wd hwp rfl (by omega) hbW ?_; intro x1 c1 w1 ho1 hg1; have g1 : Gr W w1 (.slice y m cap) (.slice x1 (m + wd.size) c1) := (HGD.out).trans hg1; clear hg1) | (refine step_append_oxS rfl _ _ rfl base y cap l m HM.out rfl HOO.out wd hwp rfl (by omega) (Nat.le_trans hbW (HGO.out).size) ?_; intro x1 c1 w1 ho1 hg1; have r1 := row_gr HR0.out hg1 HNE.out; have g1 : Gr W w1 (.slice y m cap) (.slice x1 (m + wd.size) c1) := (HGO.out).trans hg1; clear hg1) | (refine step_append_obN rfl _ _ rfl base x1 c1 (l ++ strL wd) (m + wd.size) (by rw [List.length_append, strL_len, HM.out]) rfl ho1 (some ⟨W.heap.size, 0, none⟩) 1 1 (fun _ => 32) rfl r1 (by omega) (Nat.le_trans hbW g1.size) ?_; intro x2 c2 w2 ho2 hg2; have g2 : Gr W w2 (.slice y m cap) (.slice x2 (m + wd.size + 1) c2) := g1.trans hg2; clear hg2) | (refine step_append_obN rfl _ _ rfl base x1 c1 (l ++ strL wd) (m + wd.size) (by rw [List.length_append, strL_len, HM.out]) rfl (OB.below ho1 ((Below.refl _ _).alloc (Nat.le_refl _) _)) (some ⟨w1.heap.size, 0, none⟩) 1 1 (fun _ => 32) rfl (row_one w1 32 _) (by omega) (Nat.le_trans hbW (Gr.alloc g1 _).size) ?_; intro x2 c2 w2 ho2 hg2; have g2 : Gr W w2 (.slice y m cap) (.slice x2 (m + wd.size + 1) c2) := (Gr.alloc g1 _).trans hg2; clear hg2) | (go_at_call 27; refine (digits_any pi i0 (by omega) _).mono ?_; rintro e w3 ⟨x3, D1, c3, rfl, hD1, hE1, r3, b3⟩; have g3 : Gr W w3 (.slice y m cap) (.slice x2 (m + wd.size + 1) c2) := g2.below b3; have ho3 := OB.below ho2 b3; clear b3) | (refine step_append_obN rfl _ _ rfl base x2 c2 (l ++ strL wd ++ [32]) (m + wd.size + 1) (by rw [List.length_append, List.length_append, strL_len, HM.out]; rfl) rfl ho3 x3 D1 c3 (digF pi.toNat) rfl r3 (by have := dgL_len (n := pi) (by omega); omega) (Nat.le_trans hbW g3.size) ?_; intro x4 c4 w4 ho4 hg4; have g4 : Gr W w4 (.slice y m cap) (.slice x4 (m + wd.size + 1 + D1) c4) := g3.trans hg4; clear hg4))
  all_goals
    rw [hE1] at ho4
    obtain ⟨M4, hM4⟩ : ∃ M, l ++ strL wd ++ [32] ++ dgL pi = M := ⟨_, rfl⟩
    obtain ⟨N4, hN4⟩ : ∃ N, m + wd.size + 1 + D1 = N := ⟨_, rfl⟩
    have HL4 : Hid (M4.length = N4) := by
      show _ = _
      rw [← hM4, ← hN4, ← hD1]
      simp only [List.length_append, strL_len, HM.out, List.length_cons, List.length_nil]
    have HL5 : Hid ((M4 ++ [32]).length = N4 + 1) := by show _ = _; rw [List.length_append, HL4.out]; rfl
    have hN4b : N4 ≤ m + 30 := by have := dgL_len (n := pi) (by omega); omega
    have HM4 : Hid (l ++ strL wd ++ [32] ++ dgL pi = M4) := hM4
    rw [hM4] at ho4
    rw [hN4] at g4 ⊢
    clear hM4 hN4 hE1 hD1 k0 k5
    go_upto_region 3 with (first | (at_builtin; refine wpList_plain rfl fun _ hK => wp_append_obN _ _ rfl base x7 c7 (M4 ++ [32] ++ (List.range D2).map (digF t.toNat)) (N4 + 1 + D2) (by rw [List.length_append, HL5.out]; simp) rfl (OB.below ho7 ((Below.refl _ _).alloc (Nat.le_refl _) _)) (some ⟨w7.heap.size, 0, none⟩) 1 1 (fun _ => 32) rfl (row_one w7 32 _) (by omega) (Nat.le_trans hbW (Gr.alloc g7 _).size) ?_; intro x8 c8 w8 ho8 hg8; have g8 : Gr W w8 (.slice y m cap) (.slice x8 (N4 + 1 + D2 + 1) c8) := (Gr.alloc g7 _).trans hg8; clear hg8; refine hK _ _ ?_) | (at_builtin; refine wpList_plain rfl fun _ hK => wp_append_obN _ _ rfl base x5 c5 (M4 ++ [32]) (N4 + 1) HL5.out rfl ho6 x6 D2 c6 (digF t.toNat) rfl r6 (by omega) (Nat.le_trans hbW (g6).size) ?_; intro x7 c7 w7 ho7 hg7; have g7 : Gr W w7 (.slice y m cap) (.slice x7 (N4 + 1 + D2) c7) := (g6).trans hg7; clear hg7; refine hK _ _ ?_) | (at_builtin; refine wpList_plain rfl fun _ hK => wp_append_obN _ _ rfl base x4 c4 M4 N4 HL4.out rfl (OB.below ho4 ((Below.refl _ _).alloc (Nat.le_refl _) _)) (some ⟨w4.heap.size, 0, none⟩) 1 1 (fun _ => 32) rfl (row_one w4 32 _) (by omega) (Nat.le_trans hbW (Gr.alloc g4 _).size) ?_; intro x5 c5 w5 ho5 hg5; have g5 : Gr W w5 (.slice y m cap) (.slice x5 (N4 + 1) c5) := (Gr.alloc g4 _).trans hg5; clear hg5; refine hK _ _ ?_) | (go_at_call 27; refine (digits_any t t0 (by omega) _).mono ?_; rintro e w6 ⟨x6, D2, c6, rfl, hD2, hE2, r6, b6⟩; have g6 : Gr W w6 (.slice y m cap) (.slice x5 (N4 + 1) c5) := g5.below b6; have ho6 := OB.below ho5 b6; clear b6; have hd2 : D2 ≤ 19 := (by have := dgL_len (n := t) (by omega); omega)))
    obtain ⟨N8, hN8⟩ : ∃ N, N4 + 1 + D2 + 1 = N := ⟨_, rfl⟩
    obtain ⟨M8, hM8⟩ : ∃ M, M4 ++ [32] ++ (List.range D2).map (digF t.toNat) ++ [32] = M := ⟨_, rfl⟩
    have HO8 : Hid (OB base w8 x8 c8 M8) := by show OB _ _ _ _ _; rw [← hM8]; exact ho8
    have HL8 : Hid (M8.length = N8) := by show _ = _; rw [← hM8, ← hN8, List.length_append, List.length_append, HL5.out]; simp
    have HM8 : Hid (M8 = M4 ++ [32] ++ dgL t ++ [32]) := by show _ = _; rw [← hM8, hE2]
    have hN8b : N8 ≤ m + 52 := by omega
    rw [hN8] at g8 ⊢
    have HG8 : Hid (Gr W w8 (.slice y m cap) (.slice x8 N8 c8)) := g8
    obtain ⟨_, k5⟩ := HK.out _ _ g8
    clear hN8 hM8 ho8 g8 ho7 g7 ho6 g6 ho5 g5 hE2 hD2 r6
    go_wp2_with (first | (at_builtin; refine wpList_plain rfl fun _ hK => wp_append_obN _ _ rfl base x10 c10 (M8 ++ (List.range D3).map (digF pe.toNat)) (N8 + D3) (by rw [List.length_append, HL8.out]; simp) rfl (OB.below ho10 ((Below.refl _ _).alloc (Nat.le_refl _) _)) (some ⟨w10.heap.size, 0, none⟩) 1 1 (fun _ => 10) rfl (row_one w10 10 _) (by omega) (Nat.le_trans hbW (Gr.alloc g10 _).size) ?_; intro x11 c11 w11 ho11 hg11; have g11 : Gr W w11 (.slice y m cap) (.slice x11 (N8 + D3 + 1) c11) := (Gr.alloc g10 _).trans hg11; clear hg11; refine hK _ _ ?_) | (at_builtin; refine wpList_plain rfl fun _ hK => wp_append_obN _ _ rfl base x8 c8 M8 N8 HL8.out rfl ho9 x9 D3 c9 (digF pe.toNat) rfl r9 (by omega) (Nat.le_trans hbW (g9).size) ?_; intro x10 c10 w10 ho10 hg10; have g10 : Gr W w10 (.slice y m cap) (.slice x10 (N8 + D3) c10) := (g9).trans hg10; clear hg10; refine hK _ _ ?_) | (go_at_call 27; refine (digits_any pe e0 (by omega) _).mono ?_; rintro e w9 ⟨x9, D3, c9, rfl, hD3, hE3, r9, b9⟩; have g9 : Gr W w9 (.slice y m cap) (.slice x8 N8 c8) := (HG8.out).below b9; have ho9 := OB.below HO8.out b9; clear b9; have hd3 : D3 ≤ 19 := (by have := dgL_len (n := pe) (by omega); omega)))
    go_ret
    refine ⟨x11, c11, N8 + D3 + 1, rfl, ?_, ?_, (HG.out).trans g11⟩
    · rw [← HID.out, HM4.out, ← HM8.out, ← hE3]
      simp only [List.length_append, HL8.out, List.length_map, List.length_range, List.length_cons, List.length_nil]
    · rw [← HID.out, HM4.out, ← HM8.out, ← hE3]
      exact ho11

end Go.Proofs.YtcfkmkkgeoaaeaaDoor
