/-
  SEVERAL TEXTS IN ONE (a claim may hold 60 files): Conc, PassI, PopShU, SendI, FirstI, SortI, ShapeI, ShapeT, ShapeO, Ready, Costs, OwnSi, PopShI.
-/
import Derived.Test.YtmjggolllijamaaTailA
import Derived.Test.YtmjggolllijamaaSits
import Derived.Lib.AppendZeros
import Derived.Deep.Cut
import Derived.Test.YtmjggolllijamaaShapeW
import Derived.Test.YtmjggolllijamaaPassS
import Derived.Test.YtmjggolllijamaaPopIs
import Derived.Test.YtmjggolllijamaaShapeS
import Derived.Test.YtmjggolllijamaaShapeMo
import Derived.Test.YtmjggolllijamaaPopQ
import Derived.Test.YtmjggolllijamaaFairI
import Derived.Test.YtmjggolllijamaaPushShT
import Derived.Test.YtmjggolllijamaaAppIn
import Derived.Test.YtmjggolllijamaaPassN
import Derived.Test.YtmjggolllijamaaLen
import Derived.Test.YtmjggolllijamaaLines2
import Derived.Test.YtmjggolllijamaaShapeB
import Derived.Test.YtmjggolllijamaaCostF
import Derived.Maps.OwnSet
import Derived.Maps.OwnOps
import Derived.Test.YtmjggolllijamaaOwnSh
import Derived.Deep.Slices
import Derived.Deep.RegionHeld3
/-
  slices.Index WHERE IT FINDS, slices.Grow OF NONE, slices.Concat OF TWO LISTS OF NUMBERS; parts of a slice as rules for the walk.
-/
namespace Go.Proofs.Ytmjggolllijamaa
open Go.RowKit
set_option linter.unusedVariables false

theorem slice_from_in (g n cap j : Nat) (w : World) (h : j < n) (h2 : n ≤ cap) : Sem.run Try.prog (Instr.slice 23 (.slice (some ⟨g, 0, none⟩) n cap) (some (.int .i64 (j : Int))) none none) w = .ok (.slice (some ⟨g, j, none⟩) (n - j) (cap - j)) w := by
  have h1 : ¬ ((n : Int) < (j : Int)) := by omega
  have h3 : ¬ ((cap : Int) < (n : Int)) := by omega
  have h4 : ¬ ((j : Int) < 0) := by omega
  have h5 : ¬ cap = j := by omega
  have h6 : ¬ (cap ≤ j) := by omega
  have h7 : ¬ cap - j = 0 := by omega
  have h8 : ¬ n < j := by omega
  go_simp
theorem slice_upto_in (g n cap j : Nat) (w : World) (h : j < n) (h2 : n ≤ cap) : Sem.run Try.prog (Instr.slice 23 (.slice (some ⟨g, 0, none⟩) n cap) none (some (.int .i64 (j : Int))) none) w = .ok (.slice (some ⟨g, 0, none⟩) j cap) w := by
  have h1 : ¬ ((n : Int) < (j : Int)) := by omega
  have h3 : ¬ ((cap : Int) < (j : Int)) := by omega
  have h4 : ¬ ((j : Int) < 0) := by omega
  have h5 : ¬ cap = 0 := by omega
  have h8 : ¬ cap < j := by omega
  go_simp

theorem islIndexAt_any (a : Option Addr) (n c : Nat) (f : Nat → Int) (v : Int) (j : Nat) (w : World) (hn : n ≤ 1048576) (hr : Row .i64 w a n f) (hj : j < n) (hv : f j = v) (hno : ∀ i, i < j → f i ≠ v) :
    Calls Try.prog 85 #[.slice a n c, .int .i64 v] w fun e w' => e = .returned (.int .i64 (j : Int)) ∧ w' = w := by
  have HR : Hid (Row .i64 w a n f) := hr
  have HNO : Hid (∀ i, i < j → f i ≠ v) := hno
  have HV : Hid (f j = v) := hv
  have hn' : (n : Int) ≤ 1048576 := by omega
  clear hr hn hno hv
  go_enter Try.func85, Try.ntmps85
  go_wp2
  go_loop [8] (fun i => ∃ k : Nat, k ≤ j ∧ i = .int .i64 k) (fun i => n - (intOf i).toNat)
  case atStart => exact ⟨0, Nat.zero_le _, rfl⟩
  case round =>
    obtain ⟨k, hk, rfl⟩ := hrel
    have hlt : k < n := by omega
    obtain ⟨b, off, rfl, hbl, hc⟩ := Row.at HR.out hlt
    have c1 := hc k hlt
    clear hc
    by_cases hkj : k = j
    · subst hkj
      rw [HV.out] at c1
      go_wp2
      go_ret
      exact ⟨rfl, rfl⟩
    · have hne : (v == f k) = false := by have := HNO.out k (by omega); simp; exact fun e => this e.symm
      go_wp2
      go_round
      case rel => exact ⟨k + 1, by omega, by go_num⟩
      case measure => simp [intOf]; omega

set_option maxRecDepth 100000 in
set_option maxHeartbeats 1000000 in
theorem igrow_any (n : Nat) (v : Int) (hv : v = (n : Int)) (w : World) (hn : n ≤ 1048576) :
    Calls Try.prog 100 #[.slice none 0 0, .int .i64 v] w fun e w' => ∃ (x : Option Addr) (cap : Nat), e = .returned (.slice x 0 cap) ∧ (∀ f, JO w.heap.size w' x 0 cap f) ∧ Below w.heap.size w w' := by
  subst hv
  have hni : (n : Int) ≤ 1048576 := by omega
  by_cases h0 : n = 0
  · subst h0
    go_enter Try.func100, Try.ntmps100
    go_wp2
    go_ret
    exact ⟨none, 0, rfl, fun f => JO.nil _ _ _, Below.refl _ _⟩
  · have h1 : (0 : Int) < (n : Int) := by omega
    obtain ⟨i0, hi0, hz0, hz1, hz2⟩ := info_parts infoInt
    have hrun := fun ty => Lib.run_append_nil_zeros (P := Try.prog) w 23 3 ty 3 i0 (.int .i64 0) .i64 .i64 Try.underlying23 Try.underlying3 hi0 hz0 n (by omega) (by omega) (by omega) (by rw [hz2]; omega)
    obtain ⟨GC, hGC⟩ : ∃ c, grownCap w n 0 3 = c := ⟨_, rfl⟩
    have hcap : n ≤ GC := by rw [← hGC]; exact grownCap_ge _ _ _ _
    rw [hGC] at hrun
    have hcm : GC ≤ maxLen := by rw [← hGC]; exact grownCap_le_maxLen _ _ _ _ (by unfold maxLen; omega)
    have HRUN : Hid _ := hrun
    clear hrun
    go_enter Try.func100, Try.ntmps100
    go_wp2_with (at_builtin; refine Lib.wpList_append_run _ rfl _ _ _ _ rfl _ _ rfl rfl _ _ (HRUN.out _) ?_)
    go_ret
    refine ⟨some ⟨w.heap.size, 0, none⟩, GC, rfl, fun f => ⟨rfl, .inr ⟨w.heap.size, GC, _, rfl, Nat.le_refl _, World.alloc_heap_new w _, Nat.zero_le _, hcm, ?_, by simp [inL]⟩⟩, ((Below.refl _ w).alloc (Nat.le_refl _) _).drew⟩
    simp [Builtin.zeroCells]
    omega

set_option maxRecDepth 100000 in
set_option maxHeartbeats 2000000 in
theorem iconcat2_any (D : Nat) (a : Option Addr) (n c : Nat) (f : Nat → Int) (b : Option Addr) (m d : Nat) (g : Nat → Int) (t : TypeId) (w : World) (hD : Sits w D #[.slice a n c, .slice b m d] t) (hn : n + m ≤ 1048576) (ha : Row .i64 w a n f) (hb : Row .i64 w b m g) :
    Calls Try.prog 86 #[.slice (some ⟨D, 0, none⟩) 2 2] w fun e w' => ∃ (x : Option Addr) (cap : Nat), e = .returned (.slice x (n + m) cap) ∧ JO w.heap.size w' x (n + m) cap (joinI f n g) ∧ Below w.heap.size w w' := by
  have HA : Hid (Row .i64 w a n f) := ha
  have HB : Hid (Row .i64 w b m g) := hb
  have HD : Hid (Sits w D #[.slice a n c, .slice b m d] t) := hD
  have HN : Hid (n + m ≤ 1048576) := hn
  have hni : (n : Int) ≤ 1048576 := by omega
  have hmi : (m : Int) ≤ 1048576 := by omega
  have hnm : (n : Int) + (m : Int) ≤ 1048576 := by omega
  have d0 := hD.cell 0
  have d1 := hD.cell 1
  clear ha hb hD hn
  go_enter Try.func86, Try.ntmps86
  go_wp2
  go_loop [3, 11] (fun s i => (i = .int .i64 0 ∧ s = .int .i64 0) ∨ (i = .int .i64 1 ∧ s = .int .i64 (n : Int)) ∨ (i = .int .i64 2 ∧ s = .int .i64 ((n : Int) + (m : Int)))) (fun _ i => 2 - (intOf i).toNat)
  case atStart => exact .inl ⟨rfl, rfl⟩
  case round =>
    rcases hrel with ⟨rfl, rfl⟩ | ⟨rfl, rfl⟩ | ⟨rfl, rfl⟩
    · go_wp2
      go_round
      case rel => exact .inr (.inl ⟨rfl, by go_num⟩)
      case measure => simp [intOf]
    · go_wp2
      go_round
      case rel => exact .inr (.inr ⟨rfl, by go_num⟩)
      case measure => simp [intOf]
    · go_wp2_with (go_at_call 100; refine (igrow_any (n + m) _ (by simp) _ HN.out).mono ?_; rintro e w1 ⟨x, cap, rfl, hjo, hb1⟩; have HJ1 : Hid (∀ f, JO w.heap.size w1 x 0 cap f) := hjo; have HB1 : Hid (Below w.heap.size w w1) := hb1; clear hjo hb1)
      go_loopw [6, 27] (fun v i wr => Below w.heap.size w wr ∧ ((i = .int .i64 0 ∧ ∃ x cap, v = .slice x 0 cap ∧ JO w.heap.size wr x 0 cap f) ∨ (i = .int .i64 1 ∧ ∃ x cap, v = .slice x n cap ∧ JO w.heap.size wr x n cap f) ∨ (i = .int .i64 2 ∧ ∃ x cap, v = .slice x (n + m) cap ∧ JO w.heap.size wr x (n + m) cap (joinI f n g)))) (fun _ i _ => 2 - (intOf i).toNat)
      case atStart => exact ⟨HB1.out, .inl ⟨rfl, x, cap, rfl, HJ1.out f⟩⟩
      case round =>
        obtain ⟨hB, hor⟩ := hrel
        have sD := Sits.below HD.out hB (Sits.lt HD.out)
        have e0 := sD.cell 0
        have e1 := sD.cell 1
        have hsz := hB.size
        have HBR : Hid (Below w.heap.size w wr) := hB
        have HBG : Hid (∀ (w2 : World) (v : Value), wr.grownBy w2 v.ownBlock → (∀ k, v.ownBlock = some k → w.heap.size ≤ k) → Below w.heap.size w w2) := fun w2 v hg hv => hB.grown hg hsz hv
        clear sD hB
        rcases hor with ⟨rfl, x2, cap2, rfl, hj⟩ | ⟨rfl, x2, cap2, rfl, hj⟩ | ⟨rfl, x2, cap2, rfl, hj⟩
        · have HJ : Hid (JO w.heap.size wr x2 0 cap2 f) := hj
          clear hj
          go_wp2_with (at_builtin; refine wpList_append_inN rfl _ _ rfl w.heap.size x2 0 cap2 f rfl HJ.out a n c f rfl (Row.below HA.out HBR.out) (by omega) hsz ?_; intro y2 cy2 w2 hjo hgr; have HJ2 : Hid (JO w.heap.size w2 y2 n cy2 f) := JO.congr (f := joinI f 0 f) (by simpa using hjo) (fun i _ => by simp [joinI]); have HB2 : Hid (Below w.heap.size w w2) := HBG.out _ _ hgr (fun k e => (JO.own_lt HJ.out k e).1); clear hjo hgr)
          go_roundw
          case rel => exact ⟨HB2.out, .inr (.inl ⟨rfl, y2, cy2, rfl, HJ2.out⟩)⟩
          case measure => simp [intOf]
        · have HJ : Hid (JO w.heap.size wr x2 n cap2 f) := hj
          clear hj
          go_wp2_with (at_builtin; refine wpList_append_inN rfl _ _ rfl w.heap.size x2 n cap2 f rfl HJ.out b m d g rfl (Row.below HB.out HBR.out) HN.out hsz ?_; intro y2 cy2 w2 hjo hgr; have HJ2 : Hid (JO w.heap.size w2 y2 (n + m) cy2 (joinI f n g)) := hjo; have HB2 : Hid (Below w.heap.size w w2) := HBG.out _ _ hgr (fun k e => (JO.own_lt HJ.out k e).1); clear hjo hgr)
          go_roundw
          case rel => exact ⟨HB2.out, .inr (.inr ⟨rfl, y2, cy2, rfl, HJ2.out⟩)⟩
          case measure => simp [intOf]
        · have HJ : Hid (JO w.heap.size wr x2 (n + m) cap2 (joinI f n g)) := hj
          clear hj
          go_wp2
          go_ret
          exact ⟨x2, cap2, rfl, HJ.out, HBR.out⟩

theorem iconcat2N_any (N : Nat) (h : Nat → Int) (D : Nat) (a : Option Addr) (n c : Nat) (f : Nat → Int) (b : Option Addr) (m d : Nat) (g : Nat → Int) (t : TypeId) (w : World) (hD : Sits w D #[.slice a n c, .slice b m d] t) (hN : n + m = N) (hh : ∀ i, i < N → joinI f n g i = h i) (hn : N ≤ 1048576) (ha : Row .i64 w a n f) (hb : Row .i64 w b m g) :
    Calls Try.prog 86 #[.slice (some ⟨D, 0, none⟩) 2 2] w fun e w' => ∃ (x : Option Addr) (cap : Nat), e = .returned (.slice x N cap) ∧ JO w.heap.size w' x N cap h ∧ Below w.heap.size w w' := by
  subst hN
  refine (iconcat2_any D a n c f b m d g t w hD hn ha hb).mono ?_
  rintro e w' ⟨x, cap, rfl, hj, hb⟩
  exact ⟨x, cap, rfl, hj.congr hh, hb⟩

end Go.Proofs.Ytmjggolllijamaa

/-
  TURNS PASSED ON BY THE PROGRAM: turnsOf and what it hands out; passTurns.
-/
namespace Go.Proofs.Ytmjggolllijamaa
open Go.RowKit
set_option linter.unusedVariables false
attribute [local go_sem ↓] slice_from_in slice_upto_in

theorem iturnsOf_any (y : Option Addr) (n c : Nat) (w : World) :
    Calls Try.prog 84 #[.slice y n c] w fun e w' => e = .returned (.func (.func 99) #[] #[.pointer (some ⟨w.heap.size, 0, none⟩), .pointer (some ⟨w.heap.size + 1, 0, none⟩)]) ∧ w' = (w.alloc (.cells #[.slice y n c] 23)).alloc (.cells #[.int .i64 0] 3) := by
  go_enter Try.func84, Try.ntmps84
  go_wp2
  go_ret
  exact ⟨rfl, rfl⟩

theorem inext_any (T A g n c j : Nat) (v : Int) (t u : TypeId) (w : World) (hT : Sits w T #[.slice (some ⟨g, 0, none⟩) n c] t) (hA : Sits w A #[.int .i64 (j : Int)] u) (hj : j < n) (hn : n ≤ 1048576) (hg : w.cell? ⟨g, j, none⟩ = some (.int .i64 v)) (hTA : T ≠ A) :
    Calls Try.prog 99 #[.pointer (some ⟨T, 0, none⟩), .pointer (some ⟨A, 0, none⟩)] w fun e w' => e = .returned (.int .i64 v) ∧ w' = w.setCell ⟨A, 0, none⟩ (.int .i64 (((j + 1) % n : Nat) : Int)) := by
  have t0 := hT.cell 0
  have a0 := hA.cell 0
  have af := hA.frozen
  have hji : (j : Int) < (n : Int) := by omega
  have hni : (n : Int) ≤ 1048576 := by omega
  have hn0 : (0 : Int) < (n : Int) := by omega
  have hE : Hid (((j : Int) + 1) % (n : Int) = (((j + 1) % n : Nat) : Int)) := by show _ = _; simp
  go_enter Try.func99, Try.ntmps99
  go_wp2
  go_ret
  refine ⟨rfl, ?_⟩
  rw [hE.out]

theorem tAt_first {L : Nat → Ln} {ts : List Int} (h : turnP L ts) (hne : ts ≠ []) (k : Nat) : ∀ i, i < k % ts.length → tAt ts i ≠ tAt ts k := fun i hi e => by
  have hl : 0 < ts.length := List.length_pos_iff.2 hne
  have hk := Nat.mod_lt k hl
  have hnd : ts.Nodup := (show List.Perm _ _ from h).nodup_iff.2 (wl_nodup L 4)
  rw [← tAt_mod ts k, tAt_lt hk, tAt_lt (show i < ts.length by omega)] at e
  have e1 : ts.getD i 0 = ts[i]'(by omega) := by rw [List.getD_eq_getElem?_getD, List.getElem?_eq_getElem (show i < ts.length by omega)]; rfl
  have e2 : ts.getD (k % ts.length) 0 = ts[k % ts.length]'hk := by rw [List.getD_eq_getElem?_getD, List.getElem?_eq_getElem hk]; rfl
  rw [e1, e2] at e
  exact (List.pairwise_iff_getElem.1 hnd) i (k % ts.length) (by omega) hk hi e
theorem rot_join (ts : List Int) (k : Nat) (n j : Nat) (hn : ts.length = n) (hj : k % n = j) (tn : Nat → Int) (ht : ∀ i, i < n → tn i = tAt ts i) (hjn : j < n) : ∀ i, i < n → joinI (fun i => tn (j + i)) (n - j) tn i = tAt ts (k + i) := fun i hi => by
  unfold joinI
  have hk : tAt ts (k + i) = tAt ts (j + i) := by rw [← tAt_add_mod ts k i, hn, hj]
  by_cases e : i < n - j
  · rw [if_pos e, hk]; exact ht (j + i) (by omega)
  · rw [if_neg e, ht _ (by omega), hk]
    have : j + i = (i - (n - j)) + ts.length := by omega
    rw [this, tAt_len]
/-- Nothing but V, B and what is new has turned. -/
def Two2 (V B : Nat) (w w' : World) : Prop := ∀ k, k < w.heap.size → k ≠ V → k ≠ B → w'.heap[k]? = w.heap[k]?

set_option maxRecDepth 100000 in
set_option maxHeartbeats 8000000 in
theorem ipassTurns_any (base V B cl m cy : Nat) (s : Sh) (y : Option Addr) (A : Nat → Option Addr) (C : Nat → Nat) (L : Nat → Ln) (tn : Nat → Int) (ts : List Int) (w : World)
    (hW : SW base w V B cl s A C L y (m + 1) cy tn) (hts : (List.range (m + 1)).map tn = ts) (hsp : shP s 4 L ts) :
    Calls Try.prog 66 #[.pointer (some ⟨V, 0, none⟩)] w fun e w' => ∃ K, StopK ts s.qt (fun i => (L i).sh) K ∧ e = .returned (.int .i64 (popHost ts K : Int)) ∧
      ∃ (y' : Option Addr) (cy' : Nat) (tn' : Nat → Int), SW base w' V B cl s A C (lnSh L (shK ts s.qt (fun i => (L i).sh) K)) y' (m + 1) cy' tn' ∧ (∀ i, i < m + 1 → tn' i = tAt ts (K + i)) ∧ Above w.heap.size y' ∧ Two2 V B w w' ∧ Below base w w' := by
  have HSW : Hid (SW base w V B cl s A C L y (m + 1) cy tn) := hW
  have HSP : Hid (shP s 4 L ts) := hsp
  have hlen : ts.length = m + 1 := by rw [← hts]; simp
  have HLEN : Hid (ts.length = m + 1) := hlen
  have HNE : Hid (ts ≠ []) := fun e => by rw [e] at hlen; simp at hlen
  have q0 : 1 ≤ s.qt := hsp.1.2.2.2.1.1
  have q1 : s.qt ≤ 10000 := hsp.1.2.2.2.1.2
  have HT0 : Hid (∀ i, i < m + 1 → tn i = tAt ts i) := fun i hi => by
    rw [tAt_lt (by rw [hlen]; exact hi), ← hts]
    simp [List.getD, hi]
  have HS0 : Hid (∀ i, i < 4 → -2000 ≤ (L i).sh ∧ (L i).sh ≤ 12000) := fun i hi => (hsp.2.2.2.2 i hi).2.1
  have hm4 : m + 1 ≤ 4 := by
    have h1 := (show List.Perm _ _ from hsp.2.2.2.1).length_eq
    have h2 := wl_len L 4
    omega
  have hlV := hW.sv.lt
  have hlB := hW.lq.lt
  have x6 := hW.sv.cell 6
  obtain ⟨g, rfl, hg, hcy, hcs⟩ := hW.slc (Nat.succ_pos m)
  obtain ⟨W1, hW1⟩ : ∃ W, (w.alloc (.cells #[.slice (some ⟨g, 0, none⟩) (m + 1) cy] 23)).alloc (.cells #[.int .i64 0] 3) = W := ⟨_, rfl⟩
  have HW1 : Hid ((w.alloc (.cells #[.slice (some ⟨g, 0, none⟩) (m + 1) cy] 23)).alloc (.cells #[.int .i64 0] 3) = W1) := hW1
  have b1 : Below w.heap.size w W1 := by rw [← hW1]; exact ((Below.refl _ w).alloc (Nat.le_refl _) _).alloc (by simp) _
  have HB1 : Hid (Below w.heap.size w W1) := b1
  have HT1 : Hid (Sits W1 w.heap.size #[.slice (some ⟨g, 0, none⟩) (m + 1) cy] 23) := by show Sits _ _ _ _; rw [← hW1]; exact (Sits.new _ _ _).alloc _
  have HA1 : Hid (Sits W1 (w.heap.size + 1) #[.int .i64 ((0 : Nat) : Int)] 3) := by show Sits _ _ _ _; rw [← hW1]; exact Sits.new' (by simp)
  have HCS : Hid (∀ i, i < m + 1 → w.cell? ⟨g, i, none⟩ = some (.int .i64 (tn i))) := hcs
  have HGW : Hid (g < w.heap.size) := hg
  obtain ⟨h0, hh0, h04, hn0⟩ := tAt_bd hsp.2.2.2.1 HNE.out 0
  have HH0 : Hid (tAt ts 0 = (h0 : Int)) := hh0
  have HG0 : Hid (W1.cell? ⟨g, 0, none⟩ = some (.int .i64 (h0 : Int))) := by
    show _ = _
    rw [b1.cell (p := ⟨g, 0, none⟩) hg, hcs 0 (Nat.succ_pos m), HT0.out 0 (Nat.succ_pos m), hh0]
  clear hW hts hsp hlen hcs hW1 b1 hh0
  go_enter Try.func66, Try.ntmps66
  go_upto_region 2 with (go_at_call 84; refine (iturnsOf_any (some ⟨g, 0, none⟩) (m + 1) cy _).mono ?_; rintro e w2 ⟨rfl, hw2⟩; rw [HW1.out] at hw2; subst hw2)
  clear x6
  go_wp2_with (go_at_call 99; refine (inext_any w.heap.size (w.heap.size + 1) g (m + 1) cy 0 (h0 : Int) 23 3 _ HT1.out HA1.out (by omega) (by omega) HG0.out (by omega)).mono ?_; rintro e w3 ⟨rfl, hw3⟩; have HW3 : Hid (w3 = w2.setCell ⟨w.heap.size + 1, 0, none⟩ (.int .i64 (((0 + 1) % (m + 1) : Nat) : Int))) := hw3; clear hw3)
  go_loopw [4] (fun s4 wr => ∃ (k h : Nat), s4 = .int .i64 (h : Int) ∧ tAt ts k = (h : Int) ∧ h < 4 ∧ SW base wr V B cl s A C (lnSh L (shK ts s.qt (fun i => (L i).sh) k)) (some ⟨g, 0, none⟩) (m + 1) cy tn ∧ Past ts s.qt (fun i => (L i).sh) k ∧ Sits wr w.heap.size #[.slice (some ⟨g, 0, none⟩) (m + 1) cy] 23 ∧ Sits wr (w.heap.size + 1) #[.int .i64 (((k + 1) % (m + 1) : Nat) : Int)] 3 ∧ Two2 V B w wr ∧ Below base w wr) (fun _ wr => lackW B wr)
  case atStart =>
    have e3 := HW3.out
    have sw3 : SW base w3 V B cl s A C L (some ⟨g, 0, none⟩) (m + 1) cy tn := by
      rw [e3]
      refine ((HSW.out).below HB1.out).other (by omega) (by omega) (fun i hi a ha => ?_) (fun a ha => ?_) _ _
      · have := ((HSW.out).lq.own i hi).under a ha; omega
      · have := (HSW.out).tq.1.undr a ha; omega
    refine ⟨0, h0, rfl, HH0.out, h04, sw3, Past.zero _ _ _, ?_, ?_, ?_, ?_⟩
    · rw [e3]; exact Sits.other HT1.out (by omega) _
    · rw [e3]; exact Sits.set HA1.out 0 _
    · intro k hk h1 h2
      rw [e3, Below.heap_setCell _ _ _ k (by show k ≠ w.heap.size + 1; omega)]
      exact (HB1.out).block k hk
    · rw [e3]; exact ((HB1.out).mono (HSW.out).bw).setCell (by show base ≤ w.heap.size + 1; have := (HSW.out).bw; omega) _
  case round =>
    clear HT1 HA1 HG0 HW3 HB1
    obtain ⟨k, h, rfl, hh, h4, sw, hpast, hT, hAA, h2, hB⟩ := hrel
    have sb := shK_bd q0 q1 HS0.out k hpast h h4
    have ab : wr.cell? ⟨B, h * 9 + 1, none⟩ = some (.int .i64 (shK ts s.qt (fun i => (L i).sh) k h)) := (sw.at h4).2
    have fB := sw.lq.frozen
    have x3 := sw.sv.cell 3
    have x5 := sw.sv.cell 5
    have x6 := sw.sv.cell 6
    have h4i : (h : Int) < 4 := by omega
    obtain ⟨sh, hsh⟩ : ∃ v, shK ts s.qt (fun i => (L i).sh) k h = v := ⟨_, rfl⟩
    rw [hsh] at ab sb
    obtain ⟨sb0, sb1⟩ := sb
    by_cases hle : sh ≤ 0
    · go_wp2
      go_region
      go_upto_region 5 with fail
      obtain ⟨v5, hv5⟩ : ∃ v, (wr.setCell ⟨B, h * 9 + 1, none⟩ (.int .i64 (sh + s.qt))).drew = v := ⟨_, rfl⟩
      have sw5 : SW base v5 V B cl s A C (lnSh L (shK ts s.qt (fun i => (L i).sh) (k + 1))) (some ⟨g, 0, none⟩) (m + 1) cy tn := by rw [← hv5, ← lnSh_hit hh, hsh]; exact (sw.short h4 _).drew
      have T5 : Sits v5 w.heap.size #[.slice (some ⟨g, 0, none⟩) (m + 1) cy] 23 := by rw [← hv5]; exact Sits.drew' (hT.other (by omega) _)
      have A5 : Sits v5 (w.heap.size + 1) #[.int .i64 (((k + 1) % (m + 1) : Nat) : Int)] 3 := by rw [← hv5]; exact Sits.drew' (hAA.other (by omega) _)
      have B5 : Below base w v5 := by rw [← hv5]; exact (hB.setCell sw.lq.lo _).drew
      have K5 : Two2 V B w v5 := fun j hj e1 e2 => by rw [← hv5]; exact (Below.heap_setCell _ _ _ j e2).trans (h2 j hj e1 e2)
      have L5 : lackW B v5 < lackW B wr := by rw [sw5.lack, sw.lack]; exact lack_less q0 hh h4 (by rw [hsh]; exact hle)
      have hp5 : Past ts s.qt (fun i => (L i).sh) (k + 1) := hpast.next (by rw [hh]; show shK ts s.qt (fun i => (L i).sh) k (h : Int).toNat ≤ 0; rw [Int.toNat_natCast, hsh]; exact hle)
      obtain ⟨h', hh', h4', _⟩ := tAt_bd (HSP.out).2.2.2.1 HNE.out (k + 1)
      have hj : (k + 1) % (m + 1) < m + 1 := Nat.mod_lt _ (Nat.succ_pos m)
      obtain ⟨j, hjj⟩ : ∃ j, (k + 1) % (m + 1) = j := ⟨_, rfl⟩
      rw [hjj] at A5 hj
      have HJJ : Hid ((k + 1) % (m + 1) = j) := hjj
      have HG5 : Hid (v5.cell? ⟨g, j, none⟩ = some (.int .i64 (h' : Int))) := by
        obtain ⟨g', e, e1, e2, e3⟩ := sw5.slc (Nat.succ_pos m)
        cases e
        show _ = _
        rw [e3 j hj, HT0.out j hj, ← hh', ← tAt_mod ts (k + 1), HLEN.out, hjj]
      rw [hv5]
      have HSW5 : Hid (SW base v5 V B cl s A C (lnSh L (shK ts s.qt (fun i => (L i).sh) (k + 1))) (some ⟨g, 0, none⟩) (m + 1) cy tn) := sw5
      have HT5 : Hid (Sits v5 w.heap.size #[.slice (some ⟨g, 0, none⟩) (m + 1) cy] 23) := T5
      have HA5 : Hid (Sits v5 (w.heap.size + 1) #[.int .i64 (j : Int)] 3) := A5
      have HB5 : Hid (Below base w v5) := B5
      have HK5 : Hid (Two2 V B w v5) := K5
      have HL5 : Hid (lackW B v5 < lackW B wr) := L5
      have HPA5 : Hid (Past ts s.qt (fun i => (L i).sh) (k + 1)) := hp5
      have HH5 : Hid (tAt ts (k + 1) = (h' : Int)) := hh'
      clear hv5 sw sw5 T5 A5 B5 K5 L5 hp5 hpast hT hAA h2 hB ab fB x3 x5 x6 hsh hjj hh hh'
      go_wp2_with (go_at_call 99; refine (inext_any w.heap.size (w.heap.size + 1) g (m + 1) cy j (h' : Int) 23 3 _ HT5.out HA5.out hj (by omega) HG5.out (by omega)).mono ?_; rintro e w6 ⟨rfl, hw6⟩; have HW6 : Hid (w6 = v5.setCell ⟨w.heap.size + 1, 0, none⟩ (.int .i64 (((j + 1) % (m + 1) : Nat) : Int))) := hw6; clear hw6)
      go_roundw
      case rel =>
        have e6 := HW6.out
        have hbw := (HSW.out).bw
        refine ⟨k + 1, h', rfl, HH5.out, h4', ?_, HPA5.out, ?_, ?_, ?_, ?_⟩
        · rw [e6]
          refine (HSW5.out).other (by omega) (by omega) (fun i hi a ha => ?_) (fun a ha => ?_) _ _
          · have := ((HSW.out).lq.own i hi).under a ha; omega
          · have := (HSW.out).tq.1.undr a ha; omega
        · rw [e6]; exact Sits.other HT5.out (by omega) _
        · rw [e6]
          have : (k + 1 + 1) % (m + 1) = (j + 1) % (m + 1) := by rw [← HJJ.out, Nat.mod_add_mod]
          rw [this]
          exact Sits.set HA5.out 0 _
        · intro i hi h1 h2
          rw [e6, Below.heap_setCell _ _ _ i (by show i ≠ w.heap.size + 1; omega)]
          exact HK5.out i hi h1 h2
        · rw [e6]; exact (HB5.out).setCell (by show base ≤ w.heap.size + 1; omega) _
      case measure =>
        have e6 := HW6.out
        have sw6 : SW base w6 V B cl s A C (lnSh L (shK ts s.qt (fun i => (L i).sh) (k + 1))) (some ⟨g, 0, none⟩) (m + 1) cy tn := by
          rw [e6]
          refine (HSW5.out).other (by omega) (by omega) (fun i hi a ha => ?_) (fun a ha => ?_) _ _
          · have := ((HSW.out).lq.own i hi).under a ha; omega
          · have := (HSW.out).tq.1.undr a ha; omega
        rw [sw6.lack, ← (HSW5.out).lack]; exact HL5.out
    · have hst : StopK ts s.qt (fun i => (L i).sh) k := ⟨by rw [hh]; show 0 < shK ts s.qt (fun i => (L i).sh) k (h : Int).toNat; rw [Int.toNat_natCast, hsh]; omega, hpast⟩
      have hph : (popHost ts k : Int) = (h : Int) := by unfold popHost; rw [hh]; simp
      have hj : k % (m + 1) < m + 1 := Nat.mod_lt _ (Nat.succ_pos m)
      have hjt : tn (k % (m + 1)) = (h : Int) := by rw [HT0.out _ hj, ← hh, ← tAt_mod ts k, HLEN.out]
      have hjn : ∀ i, i < k % (m + 1) → tn i ≠ (h : Int) := fun i hi => by
        rw [HT0.out i (by omega), ← hh]
        exact tAt_first (HSP.out).2.2.2.1 HNE.out k i (by rw [HLEN.out]; exact hi)
      have hrj := rot_join ts k (m + 1) (k % (m + 1)) HLEN.out rfl tn HT0.out hj
      obtain ⟨j, hjj⟩ : ∃ j, k % (m + 1) = j := ⟨_, rfl⟩
      rw [hjj] at hj hjt hjn hrj
      have HST : Hid (StopK ts s.qt (fun i => (L i).sh) k) := hst
      have HPH : Hid ((popHost ts k : Int) = (h : Int)) := hph
      have HJT : Hid (tn j = (h : Int)) := hjt
      have HJN : Hid (∀ i, i < j → tn i ≠ (h : Int)) := hjn
      have HRJ : Hid (∀ i, i < m + 1 → joinI (fun i => tn (j + i)) (m + 1 - j) tn i = tAt ts (k + i)) := hrj
      have HSWr : Hid (SW base wr V B cl s A C (lnSh L (shK ts s.qt (fun i => (L i).sh) k)) (some ⟨g, 0, none⟩) (m + 1) cy tn) := sw
      have HRr : Hid (Row .i64 wr (some ⟨g, 0, none⟩) (m + 1) tn) := sw.row
      have HBr : Hid (Below base w wr) := hB
      have HKr : Hid (Two2 V B w wr) := h2
      have lVr := sw.sv.lt
      have fVr := sw.sv.frozen
      have lgr := sw.tq.1.undr _ rfl
      replace lgr : g < wr.heap.size := lgr
      clear hst hph hjt hjn hrj sw hpast hT hAA h2 hB fB hsh hh hjj
      go_upto_region 7 with (go_at_call 85; refine (islIndexAt_any (some ⟨g, 0, none⟩) (m + 1) cy tn (h : Int) j _ (by omega) HRr.out hj HJT.out HJN.out).mono ?_; rintro e w6 ⟨rfl, hw6⟩; replace hw6 := hw6.symm; subst hw6)
      have HR2 : Hid (∀ W, Below wr.heap.size wr W → Row .i64 W (some ⟨g, j, none⟩) (m + 1 - j) (fun i => tn (j + i)) ∧ Row .i64 W (some ⟨g, 0, none⟩) j tn) := fun W hb => by
        obtain ⟨g', e, e1, e2, e3⟩ := (HSWr.out).slc (Nat.succ_pos m)
        cases e
        have hgW : g < W.heap.size := Nat.lt_of_lt_of_le e1 hb.size
        exact ⟨.inr ⟨g, j, rfl, hgW, fun i hi => (hb.cell (p := ⟨g, j + i, none⟩) e1).trans (e3 (j + i) (by omega))⟩, .inr ⟨g, 0, rfl, hgW, fun i hi => by rw [Nat.zero_add]; exact (hb.cell (p := ⟨g, i, none⟩) e1).trans (e3 i (by omega))⟩⟩
      go_region_with (go_at_call 86; refine (iconcat2N_any (m + 1) (fun i => tAt ts (k + i)) wr.heap.size (some ⟨g, j, none⟩) (m + 1 - j) (cy - j) (fun i => tn (j + i)) (some ⟨g, 0, none⟩) j cy tn 23 _ (by first | exact Sits.drew' (Sits.new' rfl) | exact Sits.new' rfl) (by omega) HRJ.out (by omega) (HR2.out _ (by go_grown)).1 (HR2.out _ (by go_grown)).2).mono ?_; rintro e w7 ⟨x, cx, rfl, hj7, hb7⟩; have b7 : Below wr.heap.size wr w7 := Below.trans (b := _) (by go_grown) (hb7.mono (by simp)); have HJ7 : Hid (JO wr.heap.size w7 x (m + 1) cx (fun i => tAt ts (k + i))) := hj7.mono (by simp); have HB7 : Hid (Below wr.heap.size wr w7) := b7; have sv7 := (SW.below HSWr.out b7).sv; have a67 := sv7.cell 6; have f67 := sv7.frozen; clear hj7 hb7 b7 sv7)
      all_goals go_wp2
      all_goals
        go_ret
        have hzw := (HBr.out).size
        refine ⟨k, HST.out, ret_int (HPH.out).symm, x, cx, fun i => tAt ts (k + i), SW.turn HSWr.out HB7.out HJ7.out, fun i _ => rfl, fun a ha => ?_, fun i hi e1 e2 => ?_, ?_⟩
        · have := (HJ7.out).abov a ha; omega
        · rw [Below.heap_setCell _ _ _ i (by show i ≠ V; omega)]
          exact ((HB7.out).block i (by omega)).trans (HKr.out i hi e1 e2)
        · exact ((HBr.out).trans ((HB7.out).mono (HSWr.out).bw)).setCell (HSWr.out).bV _

end Go.Proofs.Ytmjggolllijamaa

/-
  WHO GOES OUT OF A SHAPER, AS THE SPECIFICATION SAYS: ShapePop.
-/
namespace Go.Proofs.Ytmjggolllijamaa
open Go.RowKit
set_option linter.unusedVariables false

theorem ret_shpb {fn : Func} {tmps : Array Value} {W : World} {i j k B P : Nat} {v0 v1 v2 v3 v4 v5 v6 : Value} {p : Pk} {b : Bool} {t u : TypeId} (hr : fn.results = #[.cell i 29, .cell j 31, .tmp k]) (hi : tmps[i]?.getD undef = .pointer (some ⟨B, 0, none⟩)) (hj : tmps[j]?.getD undef = .pointer (some ⟨P, 0, none⟩)) (hk : tmps[k]?.getD undef = .bool b) (hs : Sits W B #[v0, v1, v2, v3, v4, v5, v6] t) (hp : Sits W P (pkCells p) u) : (results fn tmps).run Try.prog W = .ok (.tuple #[.agg #[v0, v1, v2, v3, v4, v5, v6], p.val, .bool b]) W := by
  have c0 : W.cell? ⟨B, 0, none⟩ = some v0 := hs.cell 0
  have c1 : W.cell? ⟨B, 1, none⟩ = some v1 := hs.cell 1
  have c2 : W.cell? ⟨B, 2, none⟩ = some v2 := hs.cell 2
  have c3 : W.cell? ⟨B, 3, none⟩ = some v3 := hs.cell 3
  have c4 : W.cell? ⟨B, 4, none⟩ = some v4 := hs.cell 4
  have c5 : W.cell? ⟨B, 5, none⟩ = some v5 := hs.cell 5
  have c6 : W.cell? ⟨B, 6, none⟩ = some v6 := hs.cell 6
  have d0 : W.cell? ⟨P, 0, none⟩ = some (.int .i64 p.id) := hp.cell 0
  have d1 : W.cell? ⟨P, 1, none⟩ = some (.int .i64 p.flow) := hp.cell 1
  have d2 : W.cell? ⟨P, 2, none⟩ = some (.int .i64 p.host) := hp.cell 2
  have d3 : W.cell? ⟨P, 3, none⟩ = some (.int .i64 p.size) := hp.cell 3
  have d4 : W.cell? ⟨P, 4, none⟩ = some (.int .i64 p.tm) := hp.cell 4
  have d5 : W.cell? ⟨P, 5, none⟩ = some (.int .i64 p.ecn) := hp.cell 5
  simp [results, hr, hi, hj, hk, go_sem, c0, c1, c2, c3, c4, c5, c6, d0, d1, d2, d3, d4, d5]
/-- Seven cells of a Shape set. -/
@[reducible] def set7 (w : World) (V : Nat) (s : Sh) (a : Option Addr) (N ca : Nat) (b : Option Addr) (n c : Nat) : World := (((((((w.setCell ⟨V, 0, none⟩ (.int .i64 s.rt)).setCell ⟨V, 1, none⟩ (.int .i64 s.ov)).setCell ⟨V, 2, none⟩ (.int .i64 s.nx)).setCell ⟨V, 3, none⟩ (.int .i64 s.qt)).setCell ⟨V, 4, none⟩ (.int .i64 s.lim)).setCell ⟨V, 5, none⟩ (.slice a N ca)).setCell ⟨V, 6, none⟩ (.slice b n c))
@[reducible] def set6 (w : World) (V : Nat) (p : Pk) : World := ((((((w.setCell ⟨V, 0, none⟩ (.int .i64 p.id)).setCell ⟨V, 1, none⟩ (.int .i64 p.flow)).setCell ⟨V, 2, none⟩ (.int .i64 p.host)).setCell ⟨V, 3, none⟩ (.int .i64 p.size)).setCell ⟨V, 4, none⟩ (.int .i64 p.tm)).setCell ⟨V, 5, none⟩ (.int .i64 p.ecn))
theorem sh_put7 {W : World} {V : Nat} {v0 v1 v2 v3 v4 v5 v6 : Value} {t : TypeId} (h : Sits W V #[v0, v1, v2, v3, v4, v5, v6] t) (s : Sh) (a : Option Addr) (N ca : Nat) (b : Option Addr) (n cb : Nat) : Sits (set7 W V s a N ca b n cb) V (shCells s a N ca b n cb) t := by
  have := ((((((h.set 0 (.int .i64 s.rt)).set 1 (.int .i64 s.ov)).set 2 (.int .i64 s.nx)).set 3 (.int .i64 s.qt)).set 4 (.int .i64 s.lim)).set 5 (.slice a N ca)).set 6 (.slice b n cb)
  simpa using this
theorem set7_keep {w : World} {V k : Nat} (hk : k ≠ V) (s : Sh) (a : Option Addr) (N ca : Nat) (b : Option Addr) (n cb : Nat) : (set7 w V s a N ca b n cb).heap[k]? = w.heap[k]? := by
  unfold set7
  rw [Below.heap_setCell _ _ _ k hk, Below.heap_setCell _ _ _ k hk, Below.heap_setCell _ _ _ k hk, Below.heap_setCell _ _ _ k hk, Below.heap_setCell _ _ _ k hk, Below.heap_setCell _ _ _ k hk, Below.heap_setCell _ _ _ k hk]
theorem set6_keep' {w : World} {V k : Nat} (hk : k ≠ V) (p : Pk) : (set6 w V p).heap[k]? = w.heap[k]? := set6_keep hk _ _ _ _ _ _
theorem set76_chg (w : World) (V P lo up : Nat) (h1 : lo ≤ V) (h2 : V < up) (h3 : lo ≤ P) (h4 : P < up) (s : Sh) (a : Option Addr) (N ca : Nat) (b : Option Addr) (n cb : Nat) (p : Pk) : Chg lo up w (set6 (set7 w V s a N ca b n cb) P p) :=
  chg_set (chg_set (chg_set (chg_set (chg_set (chg_set (chg_set (chg_set (chg_set (chg_set (chg_set (chg_set (chg_set (Chg.refl _ _ w) h1 h2 _ _) h1 h2 _ _) h1 h2 _ _) h1 h2 _ _) h1 h2 _ _) h1 h2 _ _) h1 h2 _ _) h3 h4 _ _) h3 h4 _ _) h3 h4 _ _) h3 h4 _ _) h3 h4 _ _) h3 h4 _ _
theorem set67_chg (w : World) (V P lo up : Nat) (h1 : lo ≤ V) (h2 : V < up) (h3 : lo ≤ P) (h4 : P < up) (s : Sh) (a : Option Addr) (N ca : Nat) (b : Option Addr) (n cb : Nat) (p : Pk) : Chg lo up w (set7 (set6 w P p) V s a N ca b n cb) :=
  chg_set (chg_set (chg_set (chg_set (chg_set (chg_set (chg_set (chg_set (chg_set (chg_set (chg_set (chg_set (chg_set (Chg.refl _ _ w) h3 h4 _ _) h3 h4 _ _) h3 h4 _ _) h3 h4 _ _) h3 h4 _ _) h3 h4 _ _) h1 h2 _ _) h1 h2 _ _) h1 h2 _ _) h1 h2 _ _) h1 h2 _ _) h1 h2 _ _) h1 h2 _ _
theorem MO0.of_lq {base : Nat} {w : World} {B : Nat} {A : Nat → Option Addr} {C : Nat → Nat} {L : Nat → Ln} {y : Option Addr} {n cy : Nat} {tn : Nat → Int} {ts : List Int} (h : LQ base w B 4 A C L) (ht : TQ base w y n cy tn B 4 A) (e : (List.range n).map tn = ts) : MO0 base w (some ⟨B, 0, none⟩) 4 L y ts.length (seqT ts) := by
  obtain ⟨e1, e2⟩ := seqT_of e
  rw [← e1]
  exact .inr ⟨B, A, C, rfl, (MO.of_mk (MK.of_lq h ht)).congr e2⟩
/-- What ShapePop answers, and where it lies. -/
def PopAt (s : Sh) (N : Nat) (L : Nat → Ln) (ts : List Int) (now : Int) (w : World) (e : Ending) (w' : World) : Prop :=
  ∃ (S1 : Sh) (N1 : Nat) (L1 : Nat → Ln) (T1 : List Int) (p1 : Pk) (ok : Bool) (x : Option Addr) (cl : Nat) (y : Option Addr) (cy : Nat), PopIs s N L ts now S1 N1 L1 T1 p1 ok ∧ e = .returned (.tuple #[shVal S1 x N1 cl y T1.length cy, p1.val, .bool ok]) ∧ MO0 w.heap.size w' x N1 L1 y T1.length (seqT T1) ∧ Below w.heap.size w w'
theorem pop_no {s : Sh} {N : Nat} {L : Nat → Ln} {ts : List Int} {now : Int} {w w' : World} (h : mayP s N L ts now = false) (hb : Below w.heap.size w w') : PopAt s N L ts now w (.returned (.tuple #[shVal ⟨0, 0, 0, 0, 0⟩ none 0 0 none 0 0, pk0.val, .bool false])) w' :=
  ⟨_, _, _, _, _, _, none, 0, none, 0, .inl ⟨h, rfl, rfl, rfl, rfl, rfl, rfl⟩, rfl, .inl ⟨rfl, rfl⟩, hb⟩
theorem pop_none {s : Sh} {L : Nat → Ln} {ts : List Int} {now : Int} {w w' : World} {B cl n cy : Nat} {y : Option Addr} {S1 : Sh} {L1 : Nat → Ln} (h : mayP s 4 L ts now = true) (h2 : noneB ts s.nx now = true) (e1 : S1 = s) (e2 : L1 = L) (hm : MO0 w.heap.size w' (some ⟨B, 0, none⟩) 4 L1 y ts.length (seqT ts)) (hn : n = ts.length) (hb : Below w.heap.size w w') : PopAt s 4 L ts now w (.returned (.tuple #[shVal S1 (some ⟨B, 0, none⟩) 4 cl y n cy, pk0.val, .bool false])) w' := by
  subst hn
  exact ⟨S1, 4, L1, ts, pk0, false, some ⟨B, 0, none⟩, cl, y, cy, .inr (.inl ⟨h, h2, e1, rfl, e2, rfl, rfl, rfl⟩), rfl, hm, hb⟩
theorem pop_some {s : Sh} {L : Nat → Ln} {ts : List Int} {now : Int} {w w' : World} {B cl n cy K : Nat} {y : Option Addr} {S1 : Sh} {L1 : Nat → Ln} {p1 : Pk} {T1 : List Int} (h : mayP s 4 L ts now = true) (h2 : noneB ts s.nx now = false) (hK : StopK ts s.qt (fun i => (L i).sh) K) (e1 : S1 = ⟨s.rt, s.ov, now + costF s ((L (popHost ts K)).f 0).size, s.qt, s.lim⟩) (e2 : L1 = popLn L (shK ts s.qt (fun i => (L i).sh) K) (popHost ts K)) (e3 : T1 = popTs L ts K) (e4 : p1 = (L (popHost ts K)).f 0)
    (hm : MO0 w.heap.size w' (some ⟨B, 0, none⟩) 4 L1 y T1.length (seqT T1)) (hn : n = T1.length) (hb : Below w.heap.size w w') : PopAt s 4 L ts now w (.returned (.tuple #[shVal S1 (some ⟨B, 0, none⟩) 4 cl y n cy, p1.val, .bool true])) w' := by
  subst hn
  exact ⟨S1, 4, L1, T1, p1, true, some ⟨B, 0, none⟩, cl, y, cy, .inr (.inr ⟨h, h2, K, hK, e1, rfl, e2, e3, e4, rfl⟩), rfl, hm, hb⟩

set_option maxRecDepth 100000 in
set_option maxHeartbeats 8000000 in
theorem sshapePop_any (s : Sh) (a : Option Addr) (N ca : Nat) (b : Option Addr) (n c : Nat) (L : Nat → Ln) (tn : Nat → Int) (now : Int) (w : World)
    (hN : N ≤ 1048576) (hcn : cntF L N ≤ 1048576) (hnn : n ≤ 1048576) (hP : LR w.heap.size w a N L) (hb : Row .i64 w b n tn) :
    Calls Try.prog 7 #[shVal s a N ca b n c, .int .i64 now] w fun e w' => PopAt s N L ((List.range n).map tn) now w e w' := by
  have HP : Hid (LR w.heap.size w a N L) := hP
  have HRB : Hid (Row .i64 w b n tn) := hb
  have HN : Hid (N ≤ 1048576) := hN
  have HCN : Hid (cntF L N ≤ 1048576) := hcn
  have HNN : Hid (n ≤ 1048576) := hnn
  clear hP hb hN hcn hnn
  obtain ⟨ts, hts⟩ : ∃ l, (List.range n).map tn = l := ⟨_, rfl⟩
  have HTS : Hid ((List.range n).map tn = ts) := hts
  rw [hts]
  clear hts
  obtain ⟨W0, hW0⟩ : ∃ W, ((w.alloc (.cells (shCells s a N ca b n c) 29)).alloc (.cells shZero 29)).alloc (.cells (pkCells pk0) 31) = W := ⟨_, rfl⟩
  have s0 : Sits W0 w.heap.size (shCells s a N ca b n c) 29 := by rw [← hW0]; exact ((Sits.new _ _ _).alloc _).alloc _
  have s1 : Sits W0 (w.heap.size + 1) shZero 29 := by rw [← hW0]; exact (Sits.new' (by simp)).alloc _
  have s2 : Sits W0 (w.heap.size + 1 + 1) (pkCells pk0) 31 := by rw [← hW0]; exact Sits.new' (by simp)
  have b0 : Below w.heap.size w W0 := by rw [← hW0]; exact (((Below.refl _ w).alloc (Nat.le_refl _) _).alloc (by simp) _).alloc (by simp; omega) _
  have z0 : W0.heap.size = w.heap.size + 1 + 1 + 1 := by rw [← hW0]; simp
  have HW0 : Hid (((w.alloc (.cells (shCells s a N ca b n c) 29)).alloc (.cells shZero 29)).alloc (.cells (pkCells pk0) 31) = W0) := hW0
  have HB0 : Hid (Below w.heap.size w W0) := b0
  have HZ0 : Hid (W0.heap.size = w.heap.size + 1 + 1 + 1) := z0
  have x0 := s0.cell 0
  have x1 := s0.cell 1
  have x2 := s0.cell 2
  have x3 := s0.cell 3
  have x4 := s0.cell 4
  have x5 := s0.cell 5
  have x6 := s0.cell 6
  have HA : Hid (∀ W, Below W0.heap.size W0 W → (Sits W w.heap.size (shCells s a N ca b n c) 29 ∧ Sits W (w.heap.size + 1) shZero 29 ∧ Sits W (w.heap.size + 1 + 1) (pkCells pk0) 31) ∧ Below w.heap.size w W) := fun W hW => ⟨⟨s0.below hW s0.lt, s1.below hW s1.lt, s2.below hW s2.lt⟩, b0.trans (hW.mono b0.size)⟩
  clear s0 s1 s2 b0 z0 hW0
  have hVP : w.heap.size + 1 ≠ w.heap.size + 1 + 1 := by omega
  have HOUT : Hid (∀ W, Below W0.heap.size W0 W → Below w.heap.size w (set6 (set7 W (w.heap.size + 1) ⟨0, 0, 0, 0, 0⟩ none 0 0 none 0 0) (w.heap.size + 1 + 1) pk0) ∧ Sits (set6 (set7 W (w.heap.size + 1) ⟨0, 0, 0, 0, 0⟩ none 0 0 none 0 0) (w.heap.size + 1 + 1) pk0) (w.heap.size + 1) (shCells ⟨0, 0, 0, 0, 0⟩ none 0 0 none 0 0) 29 ∧ Sits (set6 (set7 W (w.heap.size + 1) ⟨0, 0, 0, 0, 0⟩ none 0 0 none 0 0) (w.heap.size + 1 + 1) pk0) (w.heap.size + 1 + 1) (pkCells pk0) 31) := fun W hW => by
    obtain ⟨⟨_, t1, t2⟩, bw⟩ := HA.out W hW
    refine ⟨(set76_chg W (w.heap.size + 1) (w.heap.size + 1 + 1) w.heap.size (w.heap.size + 3) (by omega) (by omega) (by omega) (by omega) _ _ _ _ _ _ _ _).bel bw (Nat.le_refl _), ?_, ?_⟩
    · exact (set6_keep' hVP _).trans (sh_put7 t1 _ _ _ _ _ _ _)
    · exact pk_put ((set7_keep (fun e => hVP e.symm) _ _ _ _ _ _ _).trans t2) pk0
  have TAIL : Hid (∀ W, Below W0.heap.size W0 W → True) := fun _ _ => trivial
  clear TAIL
  cases t0 : shB s N L ts
  case false =>
    have HE : Hid (mayP s N L ts now = false) := by show _ = _; unfold mayP; rw [t0]; rfl
    go_enter Try.func7, Try.ntmps7
    go_upto_region 1 with fail
    rw [HW0.out]
    go_wp2_with (go_at_call 16; refine (sshapeOk_any s a N ca b n c L tn _ HN.out HCN.out HNN.out (LR.go HP.out HB0.out (HB0.out).size) (Row.below HRB.out HB0.out)).mono ?_; rintro e w1 ⟨rfl, b1⟩; rw [HTS.out, t0]; obtain ⟨⟨_, r1, r2⟩, _⟩ := HA.out _ b1; have r1_0 := r1.cell 0; have r1_1 := r1.cell 1; have r1_2 := r1.cell 2; have r1_3 := r1.cell 3; have r1_4 := r1.cell 4; have r1_5 := r1.cell 5; have r1_6 := r1.cell 6; have r1f := r1.frozen; have r2_0 := r2.cell 0; have r2_1 := r2.cell 1; have r2_2 := r2.cell 2; have r2_3 := r2.cell 3; have r2_4 := r2.cell 4; have r2_5 := r2.cell 5; have r2f := r2.frozen; have HB1 : Hid (Below W0.heap.size W0 w1) := b1; clear r1 r2 b1)
    obtain ⟨bo, so, po⟩ := HOUT.out _ HB1.out
    exact bodyPost_ret (ret_shpb Try.results7 rfl rfl rfl so po) rfl (pop_no HE.out bo)
  case true =>
  by_cases c0 : now < 0
  · have HE : Hid (mayP s N L ts now = false) := by show _ = _; unfold mayP; rw [decide_eq_false (by omega)]; exact Bool.and_false _
    go_enter Try.func7, Try.ntmps7
    go_upto_region 1 with fail
    rw [HW0.out]
    go_wp2_with (go_at_call 16; refine (sshapeOk_any s a N ca b n c L tn _ HN.out HCN.out HNN.out (LR.go HP.out HB0.out (HB0.out).size) (Row.below HRB.out HB0.out)).mono ?_; rintro e w1 ⟨rfl, b1⟩; rw [HTS.out, t0]; obtain ⟨⟨_, r1, r2⟩, _⟩ := HA.out _ b1; have r1_0 := r1.cell 0; have r1_1 := r1.cell 1; have r1_2 := r1.cell 2; have r1_3 := r1.cell 3; have r1_4 := r1.cell 4; have r1_5 := r1.cell 5; have r1_6 := r1.cell 6; have r1f := r1.frozen; have r2_0 := r2.cell 0; have r2_1 := r2.cell 1; have r2_2 := r2.cell 2; have r2_3 := r2.cell 3; have r2_4 := r2.cell 4; have r2_5 := r2.cell 5; have r2f := r2.frozen; have HB1 : Hid (Below W0.heap.size W0 w1) := b1; clear r1 r2 b1)
    obtain ⟨bo, so, po⟩ := HOUT.out _ HB1.out
    exact bodyPost_ret (ret_shpb Try.results7 rfl rfl rfl so po) rfl (pop_no HE.out bo)
  by_cases c1 : 1000000000000 < now
  · have HE : Hid (mayP s N L ts now = false) := by show _ = _; unfold mayP; rw [decide_eq_false (by omega)]; exact Bool.and_false _
    go_enter Try.func7, Try.ntmps7
    go_upto_region 1 with fail
    rw [HW0.out]
    go_wp2_with (go_at_call 16; refine (sshapeOk_any s a N ca b n c L tn _ HN.out HCN.out HNN.out (LR.go HP.out HB0.out (HB0.out).size) (Row.below HRB.out HB0.out)).mono ?_; rintro e w1 ⟨rfl, b1⟩; rw [HTS.out, t0]; obtain ⟨⟨_, r1, r2⟩, _⟩ := HA.out _ b1; have r1_0 := r1.cell 0; have r1_1 := r1.cell 1; have r1_2 := r1.cell 2; have r1_3 := r1.cell 3; have r1_4 := r1.cell 4; have r1_5 := r1.cell 5; have r1_6 := r1.cell 6; have r1f := r1.frozen; have r2_0 := r2.cell 0; have r2_1 := r2.cell 1; have r2_2 := r2.cell 2; have r2_3 := r2.cell 3; have r2_4 := r2.cell 4; have r2_5 := r2.cell 5; have r2f := r2.frozen; have HB1 : Hid (Below W0.heap.size W0 w1) := b1; clear r1 r2 b1)
    obtain ⟨bo, so, po⟩ := HOUT.out _ HB1.out
    exact bodyPost_ret (ret_shpb Try.results7 rfl rfl rfl so po) rfl (pop_no HE.out bo)
  have hE : mayP s N L ts now = true := by unfold mayP; rw [t0, decide_eq_true ⟨by omega, by omega⟩]; rfl
  have HE : Hid (mayP s N L ts now = true) := hE
  obtain ⟨hsp, n0, n1⟩ := mayP_parts hE
  obtain rfl : N = 4 := hsp.2.1
  have HSP : Hid (shP s 4 L ts) := hsp
  clear hE hsp
  go_enter Try.func7, Try.ntmps7
  go_upto_region 1 with fail
  rw [HW0.out]
  clear HW0
  go_upto_region 3 with (go_at_call 16; refine (sshapeOk_any s a 4 ca b n c L tn _ HN.out HCN.out HNN.out (LR.go HP.out HB0.out (HB0.out).size) (Row.below HRB.out HB0.out)).mono ?_; rintro e w1 ⟨rfl, b1⟩; rw [HTS.out, t0]; obtain ⟨⟨r0, _, _⟩, bw1⟩ := HA.out _ b1; have HB1 : Hid (Below W0.heap.size W0 w1) := b1; have HBW1 : Hid (Below w.heap.size w w1) := bw1; have r0_0 := r0.cell 0; have r0_1 := r0.cell 1; have r0_2 := r0.cell 2; have r0_3 := r0.cell 3; have r0_4 := r0.cell 4; have r0_5 := r0.cell 5; have r0_6 := r0.cell 6; clear r0 bw1 b1 x0 x1 x2 x3 x4 x5 x6)
  go_upto_region 4 with (go_at_call 27; refine (l8own_any s a ca b n c L tn _ HCN.out HNN.out (LR.go HP.out HBW1.out (HBW1.out).size) (Row.below HRB.out HBW1.out)).mono ?_; rintro e w3 ⟨B, A, C, cl, y, cy, rfl, lq, tq, b3⟩; have HLQ : Hid (LQ w1.heap.size w3 B 4 A C L) := lq; have HTQ : Hid (TQ w1.heap.size w3 y n cy tn B 4 A) := tq; have HB3 : Hid (Below w1.heap.size w1 w3) := b3; clear lq tq b3)
  obtain ⟨v3, hv3⟩ : ∃ v, w3.alloc (.cells (shCells s (some ⟨B, 0, none⟩) 4 cl y n cy) 29) = v := ⟨_, rfl⟩
  obtain ⟨V, hV⟩ : ∃ V, w3.heap.size = V := ⟨_, rfl⟩
  have sV : Sits v3 V (shCells s (some ⟨B, 0, none⟩) 4 cl y n cy) 29 := by rw [← hv3]; exact Sits.new' hV
  have ba : Below w3.heap.size w3 v3 := by rw [← hv3]; exact (Below.refl _ _).alloc (Nat.le_refl _) _
  have sw3 : SW w1.heap.size v3 V B cl s A C L y n cy tn := ⟨sV, by rw [← hV]; exact (HB3.out).size, by have := (HLQ.out).lt; omega, fun i hi g hg => by have := ((HLQ.out).own i hi).under g hg; omega, fun g hg => by have := (HTQ.out).1.undr g hg; omega, (HLQ.out).below ba, (HTQ.out).below ba⟩
  have b13 : Below w1.heap.size w1 v3 := (HB3.out).trans (ba.mono (HB3.out).size)
  have HSW3 : Hid (SW w1.heap.size v3 V B cl s A C L y n cy tn) := sw3
  have HB13 : Hid (Below w1.heap.size w1 v3) := b13
  have HPU := l8pop_any w1.heap.size V B cl n cy s y A C L tn ts now v3 sw3 HTS.out HSP.out n0 n1
  have HPOP : Hid (Calls Try.prog 28 #[.pointer (some ⟨V, 0, none⟩), .int .i64 now] v3 _) := HPU
  rw [hv3, hV]
  clear hv3 hV sV ba sw3 b13 HPU HLQ HTQ HB3 r0_0 r0_1 r0_2 r0_3 r0_4 r0_5 r0_6
  cases hnb : noneB ts s.nx now
  case true =>
    go_upto_region 5 with (go_at_call 28; refine (HPOP.out).mono ?_; rintro e w4 hor; have hor2 : e = .returned (.tuple #[pk0.val, .bool false]) ∧ Below v3.heap.size v3 w4 := (by rcases hor with ⟨_, h1, h2⟩ | ⟨h1, _⟩; exact ⟨h1, h2⟩; rw [hnb] at h1; cases h1); clear hor; obtain ⟨rfl, b4⟩ := hor2; have HB4 : Hid (Below v3.heap.size v3 w4) := b4; clear b4)
    obtain ⟨S1, hS1⟩ : ∃ S, S = s := ⟨s, rfl⟩
    obtain ⟨LL, hLL⟩ : ∃ l, l = L := ⟨L, rfl⟩
    obtain ⟨tnv, htv⟩ : ∃ l, l = tn := ⟨tn, rfl⟩
    obtain ⟨yv, hyv⟩ : ∃ l, l = y := ⟨y, rfl⟩
    obtain ⟨nv, hnv⟩ : ∃ l, l = n := ⟨n, rfl⟩
    obtain ⟨cyv, hcv⟩ : ∃ l, l = cy := ⟨cy, rfl⟩
    have HV4 : Hid (Sits w4 V (shCells S1 (some ⟨B, 0, none⟩) 4 cl yv nv cyv) 29) := by rw [hS1, hyv, hnv, hcv]; exact (SW.below HSW3.out HB4.out).sv
    have HRR : Hid (Row .i64 w4 yv nv tnv) := by rw [hyv, hnv, htv]; exact (SW.below HSW3.out HB4.out).row
    have HLL : Hid (LR w4.heap.size w4 (some ⟨B, 0, none⟩) 4 LL) := by rw [hLL]; exact (SW.below HSW3.out HB4.out).lq.lr
    have HVO : Hid (w.heap.size + 3 ≤ V) := by show _ ≤ _; have := (HSW3.out).bV; have := (HB1.out).size; have := HZ0.out; omega
    have HCL : Hid (cntF LL 4 ≤ 1048576) := by rw [hLL]; exact HCN.out
    have HNV : Hid (nv ≤ 1048576) := by rw [hnv]; exact HNN.out
    have HTE : Hid ((List.range nv).map tnv = ts) := by rw [hnv, htv]; exact HTS.out
    have H03 : Hid (Below W0.heap.size W0 w4) := (HB1.out).trans (((HB13.out).trans ((HB4.out).mono (HB13.out).size)).mono (HB1.out).size)
    have HS1 : Hid (S1 = s) := hS1
    have HL1 : Hid (LL = L) := hLL
    clear hS1 hLL htv hyv hnv hcv HB4
    --REG5
    obtain ⟨u4, hu4⟩ : ∃ v, w4.alloc (.cells (pkCells pk0) 31) = v := ⟨_, rfl⟩
    obtain ⟨P, hPP⟩ : ∃ P, w4.heap.size = P := ⟨_, rfl⟩
    have ba4 : Below w4.heap.size w4 u4 := by rw [← hu4]; exact (Below.refl _ _).alloc (Nat.le_refl _) _
    have sP : Sits u4 P (pkCells pk0) 31 := by rw [← hu4]; exact Sits.new' hPP
    have sV4 : Sits u4 V (shCells S1 (some ⟨B, 0, none⟩) 4 cl yv nv cyv) 29 := Sits.below HV4.out ba4 (Sits.lt HV4.out)
    have HL4 : Hid (LR u4.heap.size u4 (some ⟨B, 0, none⟩) 4 LL) := LR.go HLL.out ba4 ba4.size
    have HR4 : Hid (Row .i64 u4 yv nv tnv) := Row.below HRR.out ba4
    have H04 : Hid (Below W0.heap.size W0 u4) := (H03.out).trans (ba4.mono (H03.out).size)
    have lV4 := sV4.lt
    have lP4 := sP.lt
    have z0 := HZ0.out
    have hz4 := (H04.out).size
    have hVo := HVO.out
    have hPo : w.heap.size + 3 ≤ P := by have := (H03.out).size; omega
    have HK : Hid (∀ w' : World, w'.heap[V]? = u4.heap[V]? → w'.heap[P]? = u4.heap[P]? → (w'.cell? ⟨V, 0, none⟩ = some (.int .i64 S1.rt) ∧ w'.cell? ⟨V, 1, none⟩ = some (.int .i64 S1.ov) ∧ w'.cell? ⟨V, 2, none⟩ = some (.int .i64 S1.nx) ∧ w'.cell? ⟨V, 3, none⟩ = some (.int .i64 S1.qt) ∧ w'.cell? ⟨V, 4, none⟩ = some (.int .i64 S1.lim) ∧ w'.cell? ⟨V, 5, none⟩ = some (.slice (some ⟨B, 0, none⟩) 4 cl) ∧ w'.cell? ⟨V, 6, none⟩ = some (.slice yv nv cyv)) ∧ (w'.cell? ⟨P, 0, none⟩ = some (.int .i64 pk0.id) ∧ w'.cell? ⟨P, 1, none⟩ = some (.int .i64 pk0.flow) ∧ w'.cell? ⟨P, 2, none⟩ = some (.int .i64 pk0.host) ∧ w'.cell? ⟨P, 3, none⟩ = some (.int .i64 pk0.size) ∧ w'.cell? ⟨P, 4, none⟩ = some (.int .i64 pk0.tm) ∧ w'.cell? ⟨P, 5, none⟩ = some (.int .i64 pk0.ecn))) := fun w' e1 e2 => by
      have t1 : Sits w' V (shCells S1 (some ⟨B, 0, none⟩) 4 cl yv nv cyv) 29 := e1.trans sV4
      have t2 : Sits w' P (pkCells pk0) 31 := e2.trans sP
      exact ⟨⟨t1.cell 0, t1.cell 1, t1.cell 2, t1.cell 3, t1.cell 4, t1.cell 5, t1.cell 6⟩, ⟨t2.cell 0, t2.cell 1, t2.cell 2, t2.cell 3, t2.cell 4, t2.cell 5⟩⟩
    have hV1 : V ≠ w.heap.size + 1 := by omega
    have hV2 : V ≠ w.heap.size + 1 + 1 := by omega
    have hP1 : P ≠ w.heap.size + 1 := by omega
    have hP2 : P ≠ w.heap.size + 1 + 1 := by omega
    rw [hu4]
    try rw [hPP]
    clear hu4 ba4 sP sV4 hPP HV4 HLL HRR H03
    have hd1 : u4.drew.heap[V]? = u4.heap[V]? := rfl
    have hd2 : u4.drew.heap[P]? = u4.heap[P]? := rfl
    set_option maxRecDepth 100000 in go_region_held3 (fun w' => (w'.cell? ⟨V, 0, none⟩ = some (.int .i64 S1.rt) ∧ w'.cell? ⟨V, 1, none⟩ = some (.int .i64 S1.ov) ∧ w'.cell? ⟨V, 2, none⟩ = some (.int .i64 S1.nx) ∧ w'.cell? ⟨V, 3, none⟩ = some (.int .i64 S1.qt) ∧ w'.cell? ⟨V, 4, none⟩ = some (.int .i64 S1.lim) ∧ w'.cell? ⟨V, 5, none⟩ = some (.slice (some ⟨B, 0, none⟩) 4 cl) ∧ w'.cell? ⟨V, 6, none⟩ = some (.slice yv nv cyv)) ∧ (w'.cell? ⟨P, 0, none⟩ = some (.int .i64 pk0.id) ∧ w'.cell? ⟨P, 1, none⟩ = some (.int .i64 pk0.flow) ∧ w'.cell? ⟨P, 2, none⟩ = some (.int .i64 pk0.host) ∧ w'.cell? ⟨P, 3, none⟩ = some (.int .i64 pk0.size) ∧ w'.cell? ⟨P, 4, none⟩ = some (.int .i64 pk0.tm) ∧ w'.cell? ⟨P, 5, none⟩ = some (.int .i64 pk0.ecn))) (first | (with_reducible exact HK.out _ hd1 hd2) | (with_reducible exact HK.out _ hV5 hP5) | (with_reducible exact HK.out _ ((set7_keep hV1 S1 (some ⟨B5, 0, none⟩) 4 cl5 y5 nv cy5).trans hV5) ((set7_keep hP1 S1 (some ⟨B5, 0, none⟩) 4 cl5 y5 nv cy5).trans hP5)) | (with_reducible exact HK.out _ ((set6_keep' hV2 pk0).trans ((set7_keep hV1 S1 (some ⟨B5, 0, none⟩) 4 cl5 y5 nv cy5).trans hV5)) ((set6_keep' hP2 pk0).trans ((set7_keep hP1 S1 (some ⟨B5, 0, none⟩) 4 cl5 y5 nv cy5).trans hP5))) | fail) (first | (go_at_call 27; refine (l8own_any S1 (some ⟨B, 0, none⟩) cl yv nv cyv LL tnv _ HCL.out HNV.out (LR.go HL4.out ((Below.refl _ u4).drew) (Nat.le_refl _)) (Row.below HR4.out ((Below.refl _ u4).drew))).mono ?_; rintro e w5 ⟨B5, A5, C5, cl5, y5, cy5, rfl, lq5, tq5, b5'⟩; have b5 : Below u4.heap.size u4 w5 := ((Below.refl _ u4).drew).trans b5'; have hV5 : w5.heap[V]? = u4.heap[V]? := b5.block V lV4; have hP5 : w5.heap[P]? = u4.heap[P]? := b5.block P lP4; have b05 : Below W0.heap.size W0 w5 := (H04.out).trans (Below.mono b5 (H04.out).size); obtain ⟨⟨_, r1, r2⟩, bw5⟩ := HA.out _ b05; have r1_0 := r1.cell 0; have r1_1 := r1.cell 1; have r1_2 := r1.cell 2; have r1_3 := r1.cell 3; have r1_4 := r1.cell 4; have r1_5 := r1.cell 5; have r1_6 := r1.cell 6; have r1f := r1.frozen; have r2_0 := r2.cell 0; have r2_1 := r2.cell 1; have r2_2 := r2.cell 2; have r2_3 := r2.cell 3; have r2_4 := r2.cell 4; have r2_5 := r2.cell 5; have r2f := r2.frozen; have HR1 : Hid (Sits w5 (w.heap.size + 1) shZero 29) := r1; have HR2 : Hid (Sits w5 (w.heap.size + 1 + 1) (pkCells pk0) 31) := r2; have HLQ5 : Hid (LQ u4.heap.size w5 B5 4 A5 C5 LL) := lq5; have HTQ5 : Hid (TQ u4.heap.size w5 y5 nv cy5 tnv B5 4 A5) := tq5; have HBW5 : Hid (Below w.heap.size w w5) := bw5; clear r1 r2 lq5 tq5 bw5 b05 b5'))
    all_goals go_wp2
    all_goals
      have so : Sits (set6 (set7 w5 (w.heap.size + 1) S1 (some ⟨B5, 0, none⟩) 4 cl5 y5 nv cy5) (w.heap.size + 1 + 1) pk0) (w.heap.size + 1) (shCells S1 (some ⟨B5, 0, none⟩) 4 cl5 y5 nv cy5) 29 := (set6_keep' hVP _).trans (sh_put7 HR1.out _ _ _ _ _ _ _)
      have po : Sits (set6 (set7 w5 (w.heap.size + 1) S1 (some ⟨B5, 0, none⟩) 4 cl5 y5 nv cy5) (w.heap.size + 1 + 1) pk0) (w.heap.size + 1 + 1) (pkCells pk0) 31 := pk_put (W := set7 w5 (w.heap.size + 1) S1 (some ⟨B5, 0, none⟩) 4 cl5 y5 nv cy5) (p := pk0) ((set7_keep (fun e => hVP e.symm) _ _ _ _ _ _ _).trans HR2.out) pk0
      have c9 := set76_chg w5 (w.heap.size + 1) (w.heap.size + 1 + 1) (w.heap.size + 1) (w.heap.size + 3) (by omega) (by omega) (by omega) (by omega) S1 (some ⟨B5, 0, none⟩) 4 cl5 y5 nv cy5 pk0
      have hm := MO0.mono (MO0.of_lq (LQ.chg HLQ5.out c9 (by omega)) (TQ.chg HTQ5.out c9 (by omega)) HTE.out) (show w.heap.size ≤ u4.heap.size by omega)
      refine bodyPost_ret (ret_shpb (p := pk0) Try.results7 rfl rfl rfl so po) rfl ?_
      exact pop_none HE.out hnb HS1.out HL1.out hm (by rw [← HTE.out]; simp) (c9.bel HBW5.out (Nat.le_succ _))
  case false =>
    go_upto_region 5 with (go_at_call 28; refine (HPOP.out).mono ?_; rintro e w4 hor; have hor2 : ∃ (K : Nat) (p1 : Pk) (S1 : Sh) (LL : Nat → Ln) (A' : Nat → Option Addr) (C' : Nat → Nat) (y' : Option Addr) (n' cy' : Nat) (tn' : Nat → Int), e = .returned (.tuple #[p1.val, .bool true]) ∧ StopK ts s.qt (fun i => (L i).sh) K ∧ p1 = (L (popHost ts K)).f 0 ∧ S1 = ⟨s.rt, s.ov, now + costF s ((L (popHost ts K)).f 0).size, s.qt, s.lim⟩ ∧ LL = popLn L (shK ts s.qt (fun i => (L i).sh) K) (popHost ts K) ∧ SW w1.heap.size w4 V B cl S1 A' C' LL y' n' cy' tn' ∧ (List.range n').map tn' = popTs L ts K ∧ Below w1.heap.size v3 w4 := (by rcases hor with ⟨h1, _⟩ | ⟨_, K, h1, h2, A', C', y', n', cy', tn', h3, h4, h5⟩; rw [hnb] at h1; cases h1; exact ⟨K, _, _, _, A', C', y', n', cy', tn', h2, h1, rfl, rfl, rfl, h3, h4, h5⟩); clear hor; obtain ⟨K, p1, S1, LL, A', C', yv, nv, cyv, tnv, rfl, hK, hp1, hS1, hLL, sw4, ht4, b4⟩ := hor2; have HK4 : Hid (StopK ts s.qt (fun i => (L i).sh) K) := hK; have HP1 : Hid (p1 = (L (popHost ts K)).f 0) := hp1; have HS1 : Hid (S1 = ⟨s.rt, s.ov, now + costF s ((L (popHost ts K)).f 0).size, s.qt, s.lim⟩) := hS1; have HL1 : Hid (LL = popLn L (shK ts s.qt (fun i => (L i).sh) K) (popHost ts K)) := hLL; have HSW4 : Hid (SW w1.heap.size w4 V B cl S1 A' C' LL yv nv cyv tnv) := sw4; have HTE0 : Hid ((List.range nv).map tnv = popTs L ts K) := ht4; have HB4 : Hid (Below w1.heap.size v3 w4) := b4; clear hK hp1 hS1 hLL sw4 ht4 b4)
    have HV4 : Hid (Sits w4 V (shCells S1 (some ⟨B, 0, none⟩) 4 cl yv nv cyv) 29) := (HSW4.out).sv
    have HRR : Hid (Row .i64 w4 yv nv tnv) := (HSW4.out).row
    have HLL : Hid (LR w4.heap.size w4 (some ⟨B, 0, none⟩) 4 LL) := (HSW4.out).lq.lr
    have HVO : Hid (w.heap.size + 3 ≤ V) := by show _ ≤ _; have := (HSW3.out).bV; have := (HB1.out).size; have := HZ0.out; omega
    have HCL : Hid (cntF LL 4 ≤ 1048576) := by rw [HL1.out]; exact Nat.le_trans (popLn_cnt _ _ _ _) HCN.out
    obtain ⟨TT, hTT⟩ : ∃ l, popTs L ts K = l := ⟨_, rfl⟩
    have HTT : Hid (TT = popTs L ts K) := hTT.symm
    have HTE : Hid ((List.range nv).map tnv = TT) := by rw [← hTT]; exact HTE0.out
    have HNL : Hid (nv = TT.length) := by show _ = _; have := congrArg List.length HTE.out; simpa using this
    have HNV : Hid (nv ≤ 1048576) := by
      show _ ≤ _
      have h1 := HNL.out
      have h2 := popTs_len L ts K
      have h3 := congrArg List.length HTS.out
      simp at h3
      have := HNN.out
      rw [← hTT] at h1
      omega
    have H03 : Hid (Below W0.heap.size W0 w4) := (HB1.out).trans (((HB13.out).trans HB4.out).mono (HB1.out).size)
    clear hTT HTE0 HB4 HSW4
    --REG5
    obtain ⟨u4, hu4⟩ : ∃ v, w4.alloc (.cells (pkCells p1) 31) = v := ⟨_, rfl⟩
    obtain ⟨P, hPP⟩ : ∃ P, w4.heap.size = P := ⟨_, rfl⟩
    have ba4 : Below w4.heap.size w4 u4 := by rw [← hu4]; exact (Below.refl _ _).alloc (Nat.le_refl _) _
    have sP : Sits u4 P (pkCells p1) 31 := by rw [← hu4]; exact Sits.new' hPP
    have sV4 : Sits u4 V (shCells S1 (some ⟨B, 0, none⟩) 4 cl yv nv cyv) 29 := Sits.below HV4.out ba4 (Sits.lt HV4.out)
    have HL4 : Hid (LR u4.heap.size u4 (some ⟨B, 0, none⟩) 4 LL) := LR.go HLL.out ba4 ba4.size
    have HR4 : Hid (Row .i64 u4 yv nv tnv) := Row.below HRR.out ba4
    have H04 : Hid (Below W0.heap.size W0 u4) := (H03.out).trans (ba4.mono (H03.out).size)
    have lV4 := sV4.lt
    have lP4 := sP.lt
    have z0 := HZ0.out
    have hz4 := (H04.out).size
    have hVo := HVO.out
    have hPo : w.heap.size + 3 ≤ P := by have := (H03.out).size; omega
    have HK : Hid (∀ w' : World, w'.heap[V]? = u4.heap[V]? → w'.heap[P]? = u4.heap[P]? → (w'.cell? ⟨V, 0, none⟩ = some (.int .i64 S1.rt) ∧ w'.cell? ⟨V, 1, none⟩ = some (.int .i64 S1.ov) ∧ w'.cell? ⟨V, 2, none⟩ = some (.int .i64 S1.nx) ∧ w'.cell? ⟨V, 3, none⟩ = some (.int .i64 S1.qt) ∧ w'.cell? ⟨V, 4, none⟩ = some (.int .i64 S1.lim) ∧ w'.cell? ⟨V, 5, none⟩ = some (.slice (some ⟨B, 0, none⟩) 4 cl) ∧ w'.cell? ⟨V, 6, none⟩ = some (.slice yv nv cyv)) ∧ (w'.cell? ⟨P, 0, none⟩ = some (.int .i64 p1.id) ∧ w'.cell? ⟨P, 1, none⟩ = some (.int .i64 p1.flow) ∧ w'.cell? ⟨P, 2, none⟩ = some (.int .i64 p1.host) ∧ w'.cell? ⟨P, 3, none⟩ = some (.int .i64 p1.size) ∧ w'.cell? ⟨P, 4, none⟩ = some (.int .i64 p1.tm) ∧ w'.cell? ⟨P, 5, none⟩ = some (.int .i64 p1.ecn))) := fun w' e1 e2 => by
      have t1 : Sits w' V (shCells S1 (some ⟨B, 0, none⟩) 4 cl yv nv cyv) 29 := e1.trans sV4
      have t2 : Sits w' P (pkCells p1) 31 := e2.trans sP
      exact ⟨⟨t1.cell 0, t1.cell 1, t1.cell 2, t1.cell 3, t1.cell 4, t1.cell 5, t1.cell 6⟩, ⟨t2.cell 0, t2.cell 1, t2.cell 2, t2.cell 3, t2.cell 4, t2.cell 5⟩⟩
    have hV1 : V ≠ w.heap.size + 1 := by omega
    have hV2 : V ≠ w.heap.size + 1 + 1 := by omega
    have hP1 : P ≠ w.heap.size + 1 := by omega
    have hP2 : P ≠ w.heap.size + 1 + 1 := by omega
    rw [hu4]
    try rw [hPP]
    clear hu4 ba4 sP sV4 hPP HV4 HLL HRR H03
    have hd1 : u4.drew.heap[V]? = u4.heap[V]? := rfl
    have hd2 : u4.drew.heap[P]? = u4.heap[P]? := rfl
    set_option maxRecDepth 100000 in go_region_held3 (fun w' => (w'.cell? ⟨V, 0, none⟩ = some (.int .i64 S1.rt) ∧ w'.cell? ⟨V, 1, none⟩ = some (.int .i64 S1.ov) ∧ w'.cell? ⟨V, 2, none⟩ = some (.int .i64 S1.nx) ∧ w'.cell? ⟨V, 3, none⟩ = some (.int .i64 S1.qt) ∧ w'.cell? ⟨V, 4, none⟩ = some (.int .i64 S1.lim) ∧ w'.cell? ⟨V, 5, none⟩ = some (.slice (some ⟨B, 0, none⟩) 4 cl) ∧ w'.cell? ⟨V, 6, none⟩ = some (.slice yv nv cyv)) ∧ (w'.cell? ⟨P, 0, none⟩ = some (.int .i64 p1.id) ∧ w'.cell? ⟨P, 1, none⟩ = some (.int .i64 p1.flow) ∧ w'.cell? ⟨P, 2, none⟩ = some (.int .i64 p1.host) ∧ w'.cell? ⟨P, 3, none⟩ = some (.int .i64 p1.size) ∧ w'.cell? ⟨P, 4, none⟩ = some (.int .i64 p1.tm) ∧ w'.cell? ⟨P, 5, none⟩ = some (.int .i64 p1.ecn))) (first | (with_reducible exact HK.out _ hd1 hd2) | (with_reducible exact HK.out _ hV5 hP5) | (with_reducible exact HK.out _ ((set7_keep hV1 S1 (some ⟨B5, 0, none⟩) 4 cl5 y5 nv cy5).trans hV5) ((set7_keep hP1 S1 (some ⟨B5, 0, none⟩) 4 cl5 y5 nv cy5).trans hP5)) | (with_reducible exact HK.out _ ((set6_keep' hV2 p1).trans ((set7_keep hV1 S1 (some ⟨B5, 0, none⟩) 4 cl5 y5 nv cy5).trans hV5)) ((set6_keep' hP2 p1).trans ((set7_keep hP1 S1 (some ⟨B5, 0, none⟩) 4 cl5 y5 nv cy5).trans hP5))) | fail) (first | (go_at_call 27; refine (l8own_any S1 (some ⟨B, 0, none⟩) cl yv nv cyv LL tnv _ HCL.out HNV.out (LR.go HL4.out ((Below.refl _ u4).drew) (Nat.le_refl _)) (Row.below HR4.out ((Below.refl _ u4).drew))).mono ?_; rintro e w5 ⟨B5, A5, C5, cl5, y5, cy5, rfl, lq5, tq5, b5'⟩; have b5 : Below u4.heap.size u4 w5 := ((Below.refl _ u4).drew).trans b5'; have hV5 : w5.heap[V]? = u4.heap[V]? := b5.block V lV4; have hP5 : w5.heap[P]? = u4.heap[P]? := b5.block P lP4; have b05 : Below W0.heap.size W0 w5 := (H04.out).trans (Below.mono b5 (H04.out).size); obtain ⟨⟨_, r1, r2⟩, bw5⟩ := HA.out _ b05; have r1_0 := r1.cell 0; have r1_1 := r1.cell 1; have r1_2 := r1.cell 2; have r1_3 := r1.cell 3; have r1_4 := r1.cell 4; have r1_5 := r1.cell 5; have r1_6 := r1.cell 6; have r1f := r1.frozen; have r2_0 := r2.cell 0; have r2_1 := r2.cell 1; have r2_2 := r2.cell 2; have r2_3 := r2.cell 3; have r2_4 := r2.cell 4; have r2_5 := r2.cell 5; have r2f := r2.frozen; have HR1 : Hid (Sits w5 (w.heap.size + 1) shZero 29) := r1; have HR2 : Hid (Sits w5 (w.heap.size + 1 + 1) (pkCells pk0) 31) := r2; have HLQ5 : Hid (LQ u4.heap.size w5 B5 4 A5 C5 LL) := lq5; have HTQ5 : Hid (TQ u4.heap.size w5 y5 nv cy5 tnv B5 4 A5) := tq5; have HBW5 : Hid (Below w.heap.size w w5) := bw5; clear r1 r2 lq5 tq5 bw5 b05 b5'))
    all_goals go_wp2
    all_goals
      have so : Sits (set6 (set7 w5 (w.heap.size + 1) S1 (some ⟨B5, 0, none⟩) 4 cl5 y5 nv cy5) (w.heap.size + 1 + 1) p1) (w.heap.size + 1) (shCells S1 (some ⟨B5, 0, none⟩) 4 cl5 y5 nv cy5) 29 := (set6_keep' hVP _).trans (sh_put7 HR1.out _ _ _ _ _ _ _)
      have po : Sits (set6 (set7 w5 (w.heap.size + 1) S1 (some ⟨B5, 0, none⟩) 4 cl5 y5 nv cy5) (w.heap.size + 1 + 1) p1) (w.heap.size + 1 + 1) (pkCells p1) 31 := pk_put (W := set7 w5 (w.heap.size + 1) S1 (some ⟨B5, 0, none⟩) 4 cl5 y5 nv cy5) (p := pk0) ((set7_keep (fun e => hVP e.symm) _ _ _ _ _ _ _).trans HR2.out) p1
      have c9 := set76_chg w5 (w.heap.size + 1) (w.heap.size + 1 + 1) (w.heap.size + 1) (w.heap.size + 3) (by omega) (by omega) (by omega) (by omega) S1 (some ⟨B5, 0, none⟩) 4 cl5 y5 nv cy5 p1
      have hm := MO0.mono (MO0.of_lq (LQ.chg HLQ5.out c9 (by omega)) (TQ.chg HTQ5.out c9 (by omega)) HTE.out) (show w.heap.size ≤ u4.heap.size by omega)
      refine bodyPost_ret (ret_shpb (p := p1) Try.results7 rfl rfl rfl so po) rfl ?_
      exact pop_some HE.out hnb HK4.out HS1.out HL1.out HTT.out HP1.out hm HNL.out (c9.bel HBW5.out (Nat.le_succ _))

end Go.Proofs.Ytmjggolllijamaa

/-
  WHO GOES OUT OF A SHAPER OF THE PROGRAM: sendFirst.
-/
namespace Go.Proofs.Ytmjggolllijamaa
open Go.RowKit
set_option linter.unusedVariables false
attribute [local go_sem ↓] slice_tail_in

/-- A Shape's own cells, its lines and its turns, these from anywhere in their block. -/
structure SX (base : Nat) (w : World) (V B cl : Nat) (s : Sh) (A : Nat → Option Addr) (C : Nat → Nat) (L : Nat → Ln) (y : Option Addr) (n cy : Nat) (tn : Nat → Int) : Prop where
  sv : Sits w V (shCells s (some ⟨B, 0, none⟩) 4 cl y n cy) 29
  bV : base ≤ V
  VB : V ≠ B
  VA : ∀ i, i < 4 → ∀ g, A i = some g → g.block ≠ V
  Vy : ∀ g, y = some g → g.block ≠ V
  mo : MO base w B 4 A C L y n tn
theorem SX.keep {base : Nat} {w w' : World} {V B cl : Nat} {s : Sh} {A : Nat → Option Addr} {C : Nat → Nat} {L : Nat → Ln} {y : Option Addr} {n cy : Nat} {tn : Nat → Int} (h : SX base w V B cl s A C L y n cy tn)
    (hV : w'.heap[V]? = w.heap[V]?) (hB : w'.heap[B]? = w.heap[B]?) (hA : ∀ i, i < 4 → ∀ g, A i = some g → w'.heap[g.block]? = w.heap[g.block]?) (hy : ∀ g, y = some g → w'.heap[g.block]? = w.heap[g.block]?) (hs : w.heap.size ≤ w'.heap.size) : SX base w' V B cl s A C L y n cy tn :=
  ⟨hV.trans h.sv, h.bV, h.VB, h.VA, h.Vy, h.mo.keep hB (fun i hi _ g ha => hA i hi _ ha) (fun Y o _ ha => hy _ ha) hs⟩
theorem SW.sx {base : Nat} {w : World} {V B cl : Nat} {s : Sh} {A : Nat → Option Addr} {C : Nat → Nat} {L : Nat → Ln} {y : Option Addr} {n cy : Nat} {tn : Nat → Int} (h : SW base w V B cl s A C L y n cy tn) : SX base w V B cl s A C L y n cy tn :=
  ⟨h.sv, h.bV, h.VB, h.VA, h.Vy, MO.of_mk (MK.of_lq h.lq h.tq)⟩
/-- The turns without their first. -/
theorem SW.cut {base : Nat} {w : World} {V B cl : Nat} {s : Sh} {A : Nat → Option Addr} {C : Nat → Nat} {L : Nat → Ln} {g m cy : Nat} {tn : Nat → Int} (h : SW base w V B cl s A C L (some ⟨g, 0, none⟩) (m + 1) cy tn) :
    SX base (w.setCell ⟨V, 6, none⟩ (.slice (tlA g cy 1) m (cy - 1))) V B cl s A C L (tlA g cy 1) m (cy - 1) (fun i => tn (i + 1)) := by
  have hgV : g ≠ V := h.Vy _ rfl
  have hgB : g ≠ B := h.tq.2.1 _ rfl
  have hVB := h.VB
  have hcap := h.tq.1.cap
  have tl : ∀ a, tlA g cy 1 = some a → a.block = g := fun a ha => by
    unfold tlA at ha
    split at ha <;> cases ha <;> rfl
  have k : ∀ b, b ≠ V → (w.setCell ⟨V, 6, none⟩ (.slice (tlA g cy 1) m (cy - 1))).heap[b]? = w.heap[b]? := fun b hb => Below.heap_setCell _ _ _ b hb
  refine ⟨h.sv.set 6 _, h.bV, h.VB, h.VA, fun a ha => by rw [tl a ha]; exact hgV, ?_, ?_⟩
  · exact (h.lq.lw).keep (k B (fun e => hVB e.symm)) (fun i hi _ b hb => k b (h.VA i hi _ hb)) (by simp)
  · by_cases hc : cy = 1
    · exact .inl (by omega)
    · right
      refine ⟨g, 1, by unfold tlA; rw [if_neg hc], ?_, hgB, fun i hi _ e => h.tq.2.2 i hi _ _ e rfl rfl, ?_⟩
      · exact h.tq.1.abov _ rfl
      · rcases h.tq.1.own with e | ⟨g', e, _, ho⟩
        · omega
        · cases e
          have ho' : OwnO w g 1 m (fun i => tn (i + 1)) := ⟨ho.1, fun i hi => by rw [Nat.add_comm 1 i]; exact ho.2 (i + 1) (by omega)⟩
          exact ho'.same (k g hgV) (by simp)

theorem ret_pk1 {fn : Func} {tmps : Array Value} {W : World} {i B : Nat} {p : Pk} {t : TypeId} (hr : fn.results = #[.cell i 31]) (hi : tmps[i]?.getD undef = .pointer (some ⟨B, 0, none⟩)) (hs : Sits W B (pkCells p) t) : (results fn tmps).run Try.prog W = .ok p.val W := by
  have c0 : W.cell? ⟨B, 0, none⟩ = some (.int .i64 p.id) := hs.cell 0
  have c1 : W.cell? ⟨B, 1, none⟩ = some (.int .i64 p.flow) := hs.cell 1
  have c2 : W.cell? ⟨B, 2, none⟩ = some (.int .i64 p.host) := hs.cell 2
  have c3 : W.cell? ⟨B, 3, none⟩ = some (.int .i64 p.size) := hs.cell 3
  have c4 : W.cell? ⟨B, 4, none⟩ = some (.int .i64 p.tm) := hs.cell 4
  have c5 : W.cell? ⟨B, 5, none⟩ = some (.int .i64 p.ecn) := hs.cell 5
  simp [results, hr, hi, go_sem, c0, c1, c2, c3, c4, c5]
theorem SX.set6 {base : Nat} {w : World} {V B cl : Nat} {s : Sh} {A : Nat → Option Addr} {C : Nat → Nat} {L : Nat → Ln} {y : Option Addr} {n cy : Nat} {tn : Nat → Int} (h : SX base w V B cl s A C L y n cy tn) {P : Nat} (hV : V ≠ P) (hB : B ≠ P) (hA : ∀ i, i < 4 → ∀ g, A i = some g → g.block ≠ P) (hy : ∀ g, y = some g → g.block ≠ P) (p : Pk) : SX base (Go.Proofs.Ytmjggolllijamaa.set6 w P p) V B cl s A C L y n cy tn :=
  h.keep (set6_keep' hV p) (set6_keep' hB p) (fun i hi g hg => set6_keep' (hA i hi g hg) p) (fun g hg => set6_keep' (hy g hg) p) (by simp [Go.Proofs.Ytmjggolllijamaa.set6])
theorem queue_ok {i : Int} {l : Ln} (h : hlnP i l) {r : Nat} (hr : l.n = r + 1) : popN l.f (r + 1) 40 = r ∧ popL l.f (r + 1) 40 = 40 ∧ popP l.f (r + 1) 40 = l.f 0 ∧ popB l.f (r + 1) 40 = true := by
  have hf := h.2.2.1
  rw [hr] at hf
  have hB : popB l.f (r + 1) 40 = true := by unfold popB; rw [hf]; simp
  refine ⟨by unfold popN; rw [hf]; rfl, by unfold popL; rw [hf]; rfl, by unfold popP; rw [hB]; rfl, hB⟩

theorem send_end {base V B cl : Nat} {s : Sh} {A : Nat → Option Addr} {C : Nat → Nat} {L : Nat → Ln} {ts : List Int} {w wc : World} {K h : Nat} {x : Option Addr} {cx : Nat} {y2 : Option Addr} {n2 cy2 : Nat} {tn2 : Nat → Int} {p : Pk}
    (hK : StopK ts s.qt (fun i => (L i).sh) K) (hph : popHost ts K = h) (hpp : (L h).f 0 = p) (sx : SX base wc V B cl s (fun i => if i = h then x else A i) (fun i => if i = h then cx else C i) (popLn L (shK ts s.qt (fun i => (L i).sh) K) h) y2 n2 cy2 tn2) (ht : (List.range n2).map tn2 = popTs L ts K)
    (hV : V < w.heap.size) (hB : B < w.heap.size) (hx : ∀ a, x = some a → a.block ≠ w.heap.size) (hA : ∀ i, i < 4 → ∀ g, A i = some g → g.block < w.heap.size) (hy : ∀ a, y2 = some a → a.block ≠ w.heap.size) (hk : Two2 V B w wc) (hbw : base ≤ w.heap.size) (hb : Below base w wc) :
    ∃ K, StopK ts s.qt (fun i => (L i).sh) K ∧ Ending.returned p.val = .returned ((L (popHost ts K)).f 0).val ∧
      ∃ (A' : Nat → Option Addr) (C' : Nat → Nat) (y' : Option Addr) (n' cy' : Nat) (tn' : Nat → Int), SX base (set6 wc w.heap.size p) V B cl s A' C' (popLn L (shK ts s.qt (fun i => (L i).sh) K) (popHost ts K)) y' n' cy' tn' ∧ (List.range n').map tn' = popTs L ts K ∧ Two2 V B w (set6 wc w.heap.size p) ∧ Below base w (set6 wc w.heap.size p) := by
  refine ⟨K, hK, by rw [hph, hpp], fun i => if i = h then x else A i, fun i => if i = h then cx else C i, y2, n2, cy2, tn2, ?_, ht, fun i hi e1 e2 => (set6_keep' (Nat.ne_of_lt hi) p).trans (hk i hi e1 e2), set6_below hb hbw (.int .i64 p.id) (.int .i64 p.flow) (.int .i64 p.host) (.int .i64 p.size) (.int .i64 p.tm) (.int .i64 p.ecn)⟩
  rw [hph]
  refine sx.set6 (by omega) (by omega) (fun i hi b hb => ?_) hy p
  by_cases e : i = h
  · rw [if_pos e] at hb; exact hx b hb
  · rw [if_neg e] at hb; have := hA i hi b hb; omega

set_option maxRecDepth 100000 in
set_option maxHeartbeats 8000000 in
theorem isendFirst_any (base V B cl m cy : Nat) (s : Sh) (y : Option Addr) (A : Nat → Option Addr) (C : Nat → Nat) (L : Nat → Ln) (tn : Nat → Int) (ts : List Int) (w : World)
    (hW : SW base w V B cl s A C L y (m + 1) cy tn) (hts : (List.range (m + 1)).map tn = ts) (hsp : shP s 4 L ts) :
    Calls Try.prog 35 #[.pointer (some ⟨V, 0, none⟩)] w fun e w' => ∃ K, StopK ts s.qt (fun i => (L i).sh) K ∧ e = .returned ((L (popHost ts K)).f 0).val ∧
      ∃ (A' : Nat → Option Addr) (C' : Nat → Nat) (y' : Option Addr) (n' cy' : Nat) (tn' : Nat → Int), SX base w' V B cl s A' C' (popLn L (shK ts s.qt (fun i => (L i).sh) K) (popHost ts K)) y' n' cy' tn' ∧ (List.range n').map tn' = popTs L ts K ∧ Two2 V B w w' ∧ Below base w w' := by
  have HSW : Hid (SW base w V B cl s A C L y (m + 1) cy tn) := hW
  have HSP : Hid (shP s 4 L ts) := hsp
  have HTS : Hid ((List.range (m + 1)).map tn = ts) := hts
  have HNE : Hid (ts ≠ []) := fun e => by have := congrArg List.length hts; rw [e] at this; simp at this
  have hlV := hW.sv.lt
  have hlB := hW.lq.lt
  have hbw := hW.bw
  obtain ⟨W0, hW0⟩ : ∃ W, w.alloc (.cells (pkCells pk0) 31) = W := ⟨_, rfl⟩
  have HW0 : Hid (w.alloc (.cells (pkCells pk0) 31) = W0) := hW0
  have b0 : Below w.heap.size w W0 := by rw [← hW0]; exact (Below.refl _ w).alloc (Nat.le_refl _) _
  have HB0 : Hid (Below w.heap.size w W0) := b0
  have HP0 : Hid (Sits W0 w.heap.size (pkCells pk0) 31) := by show Sits _ _ _ _; rw [← hW0]; exact Sits.new _ _ _
  have hz0 : W0.heap.size = w.heap.size + 1 := by rw [← hW0]; simp
  have HZ0 : Hid (W0.heap.size = w.heap.size + 1) := hz0
  have sw0 := hW.below b0
  have HSW0 : Hid (SW base W0 V B cl s A C L y (m + 1) cy tn) := sw0
  have x5 := sw0.sv.cell 5
  clear hW hts hsp hW0 b0 hz0 sw0
  go_enter Try.func35, Try.ntmps35
  go_upto_region 1 with fail
  rw [HW0.out]
  clear HW0
  go_cut [3] from 7 (fun s3 wx => ∃ (K h : Nat) (y' : Option Addr) (cy' : Nat) (tn' : Nat → Int), s3 = .pointer (some ⟨B, h * 9, none⟩) ∧ popHost ts K = h ∧ h < 4 ∧ (L h).n ≠ 0 ∧ StopK ts s.qt (fun i => (L i).sh) K ∧ SW base wx V B cl s A C (lnSh L (shK ts s.qt (fun i => (L i).sh) K)) y' (m + 1) cy' tn' ∧ (∀ i, i < m + 1 → tn' i = tAt ts (K + i)) ∧ Above W0.heap.size y' ∧ Two2 V B W0 wx ∧ Below base W0 wx)
  case first =>
    go_region_with (go_at_call 66; refine (ipassTurns_any base V B cl m cy s y A C L tn ts _ (SW.below HSW0.out (by go_grown)) HTS.out HSP.out).mono ?_; rintro e w2 ⟨K, hK, rfl, y', cy', tn', sw2, ht2, ha2, k2, b2⟩; obtain ⟨h, hh, h4, hnh⟩ := tAt_bd (HSP.out).2.2.2.1 HNE.out K; have hph : popHost ts K = h := (by unfold popHost; rw [hh]; simp); rw [hph]; have h4i : (h : Int) < 4 := (by omega); have z5 := sw2.sv.cell 5; have HSW2 : Hid (SW base w2 V B cl s A C (lnSh L (shK ts s.qt (fun i => (L i).sh) K)) y' (m + 1) cy' tn') := sw2; have HPH : Hid (popHost ts K = h) := hph; have HK2 : Hid (StopK ts s.qt (fun i => (L i).sh) K) := hK; have HT2 : Hid (∀ i, i < m + 1 → tn' i = tAt ts (K + i)) := ht2; have HA2 : Hid (Above W0.heap.size y') := ha2; have HKK : Hid (Two2 V B W0 w2) := k2; have HB2 : Hid (Below base W0 w2) := ((Below.refl base W0).drew).trans b2; clear hK hh sw2 ht2 ha2 k2 b2 hph)
    all_goals go_wp2_with fail
    all_goals go_meet
    all_goals exact ⟨K, h, y', cy', tn', rfl, HPH.out, h4, hnh, HK2.out, HSW2.out, HT2.out, HA2.out, HKK.out, HB2.out⟩
  case rest =>
    obtain ⟨K, h, y', cy', tn', rfl, hph, h4, hnh, hK, sw1, ht1, ha1, k1, b1⟩ := hcut
    have hP1 : Sits wc w.heap.size (pkCells pk0) 31 := (k1 w.heap.size (by have := HZ0.out; omega) (by omega) (by omega)).trans HP0.out
    have hln := (HSP.out).2.2.2.2 h h4
    obtain ⟨r, hr⟩ : ∃ r, (L h).n = r + 1 := ⟨(L h).n - 1, by omega⟩
    obtain ⟨p, hp⟩ : ∃ p, (L h).f 0 = p := ⟨_, rfl⟩
    obtain ⟨eN, eL, eP, eB⟩ := queue_ok hln hr
    rw [hp] at eP
    obtain ⟨hz0, hz1⟩ := size_good (show p.good = true by rw [← hp]; exact good_first hln (by omega))
    have at0 : wc.cell? ⟨B, h * 9, none⟩ = some (.slice (A h) (r + 1) (C h)) := by have := (sw1.at h4).1; rw [← hr]; exact this
    have HPR1 : Hid (PR wc.heap.size wc (A h) (r + 1) (L h).f) := by have := (sw1.lq.own h h4).pr; show PR _ _ _ _ _; rw [← hr]; exact this
    have hcap : r + 1 ≤ C h := by have := (sw1.lq.own h h4).cap; rw [← hr]; exact this
    have hnz : r + 1 ≤ 1048576 := by rw [← hr]; exact nl_le HSP.out h4
    have HEN : Hid (popN (L h).f (r + 1) 40 = r ∧ popL (L h).f (r + 1) 40 = 40 ∧ popP (L h).f (r + 1) 40 = p ∧ popB (L h).f (r + 1) 40 = true) := ⟨eN, eL, eP, eB⟩
    obtain ⟨sh, hsh⟩ : ∃ v, shK ts s.qt (fun i => (L i).sh) K h = v := ⟨_, rfl⟩
    have HSH : Hid (shK ts s.qt (fun i => (L i).sh) K h = sh) := hsh
    have sb := shK_bd (HSP.out).1.2.2.2.1.1 (HSP.out).1.2.2.2.1.2 (fun i hi => ((HSP.out).2.2.2.2 i hi).2.1) K hK.2 h h4
    rw [hsh] at sb
    obtain ⟨sb0, sb1⟩ := sb
    have HPH : Hid (popHost ts K = h) := hph
    have HKK : Hid (StopK ts s.qt (fun i => (L i).sh) K) := hK
    have HSW1 : Hid (SW base wc V B cl s A C (lnSh L (shK ts s.qt (fun i => (L i).sh) K)) y' (m + 1) cy' tn') := sw1
    have HT1 : Hid (∀ i, i < m + 1 → tn' i = tAt ts (K + i)) := ht1
    have HA1 : Hid (Above W0.heap.size y') := ha1
    have HK1 : Hid (Two2 V B W0 wc) := k1
    have HB1 : Hid (Below base W0 wc) := b1
    have HP1 : Hid (Sits wc w.heap.size (pkCells pk0) 31) := hP1
    have HLN : Hid ((L h).n = r + 1) := hr
    have HPP : Hid ((L h).f 0 = p) := hp
    have lBc := sw1.lq.lt
    have lVc := sw1.sv.lt
    clear hph hK sw1 ht1 ha1 k1 b1 hP1 hln hr hp eN eL eP eB hnh hsh
    go_upto_region 3 with (first
      | (go_at_call 49; refine (queueOf_any (A h) (r + 1) (C h) _).mono ?_; rintro e w2 ⟨rfl, b2⟩; have HB2 : Hid (Below wc.heap.size wc w2) := b2; clear b2)
      | (go_at_call 67; refine (ipop_any (A h) (r + 1) (C h) (L h).f 40 _ hnz hcap (PR.mono (PR.below HPR1.out HB2.out) (HB2.out).size)).mono ?_; rintro e w3 ⟨x, cx, rfl, po3, b3⟩; obtain ⟨eN, eL, eP, eB⟩ := HEN.out; rw [eN] at po3; rw [eN, eL, eP, eB]; have HPO3 : Hid (PO w2.heap.size w3 x r cx (popF (L h).f)) := po3; have HB3 : Hid (Below wc.heap.size wc w3) := (HB2.out).trans (b3.mono (HB2.out).size); clear po3 b3 eN eL eP eB))
    obtain ⟨v3, hv3⟩ : ∃ v, (w3.alloc (.cells #[.slice x r cx, .int .i64 40] 84)).alloc (.cells (pkCells p) 31) = v := ⟨_, rfl⟩
    obtain ⟨F, hF⟩ : ∃ F, w3.heap.size = F := ⟨_, rfl⟩
    have ba3 : Below w3.heap.size w3 v3 := by rw [← hv3]; exact ((Below.refl _ w3).alloc (Nat.le_refl _) _).alloc (by simp) _
    have sF3 : Sits v3 F #[.slice x r cx, .int .i64 40] 84 := by rw [← hv3]; exact (Sits.new' hF).alloc _
    have sG3 : Sits v3 (F + 1) (pkCells p) 31 := by rw [← hv3]; exact Sits.new' (by simp [hF])
    have b13 : Below wc.heap.size wc v3 := (HB3.out).trans (ba3.mono (HB3.out).size)
    have HPO4 : Hid (PO wc.heap.size v3 x r cx (popF (L h).f)) := ((HPO3.out).below ba3).mono (HB2.out).size
    have HB13 : Hid (Below wc.heap.size wc v3) := b13
    have HG3 : Hid (Sits v3 (F + 1) (pkCells p) 31) := sG3
    have hFz : wc.heap.size ≤ F := by rw [← hF]; exact (HB3.out).size
    have hXG : Hid (∀ a, x = some a → a.block ≠ w.heap.size) := fun a ha => by have := (HPO4.out).above a ha; have := (HB1.out).size; have := HZ0.out; omega
    have sw3 := (HSW1.out).below b13
    have d0 := (sw3.at h4).1
    rw [show (lnSh L (shK ts s.qt (fun i => (L i).sh) K) h).n = r + 1 from HLN.out] at d0
    have df := sw3.lq.frozen
    have f0 := sF3.cell 0
    have hzc : w.heap.size + 1 ≤ wc.heap.size := by have := (HB1.out).size; have := HZ0.out; omega
    rw [hv3]
    try rw [hF]
    clear hv3 hF ba3 sF3 sG3 b13 sw3 HPO3 HB2 HB3 at0 HPR1 HEN
    go_upto_region 4 with fail
    obtain ⟨v4, hv4⟩ : ∃ v, v3.setCell ⟨B, h * 9, none⟩ (.slice x r cx) = v := ⟨_, rfl⟩
    have sw4 := SW.put HSW1.out HB13.out h4 HPO4.out
    rw [hv4] at sw4 ⊢
    have G4 : Sits v4 (F + 1) (pkCells p) 31 := by rw [← hv4]; exact Sits.other HG3.out (by omega) _
    have P4 : Sits v4 w.heap.size (pkCells pk0) 31 := by rw [← hv4]; exact (Sits.below HP1.out HB13.out (Sits.lt HP1.out)).other (by omega) _
    have B4 : Below base w v4 := by rw [← hv4]; exact ((((HB0.out).mono hbw).trans HB1.out).trans ((HB13.out).mono (HSW1.out).bw)).setCell (HSW1.out).lq.lo _
    have K4 : Two2 V B w v4 := fun i hi e1 e2 => by
      rw [← hv4, Below.heap_setCell _ _ _ i e2]
      have hz := HZ0.out
      exact ((HB13.out).block i (by omega)).trans ((HK1.out i (by omega) e1 e2).trans ((HB0.out).block i hi))
    have e1 : v4.cell? ⟨B, h * 9 + 1, none⟩ = some (.int .i64 sh) := by have := (sw4.at h4).2; simpa [lnSh, HSH.out] using this
    have g3 := G4.cell 3
    have df := sw4.lq.frozen
    have HSW4 : Hid (SW base v4 V B cl s _ _ _ y' (m + 1) cy' tn') := sw4
    have HG4 : Hid (Sits v4 (F + 1) (pkCells p) 31) := G4
    have HP4 : Hid (Sits v4 w.heap.size (pkCells pk0) 31) := P4
    have HB4 : Hid (Below base w v4) := B4
    have HK4 : Hid (Two2 V B w v4) := K4
    clear hv4 sw4 G4 P4 B4 K4 d0 f0 HB13 HPO4 HG3
    go_region
    go_upto_region 5 with fail
    obtain ⟨v5, hv5⟩ : ∃ v, (v4.setCell ⟨B, h * 9 + 1, none⟩ (.int .i64 (sh - p.size))).drew = v := ⟨_, rfl⟩
    have sw5 : SW base v5 V B cl s (fun i => if i = h then x else A i) (fun i => if i = h then cx else C i) (popLn L (shK ts s.qt (fun i => (L i).sh) K) h) y' (m + 1) cy' tn' := by
      have h1 := ((HSW4.out).short h4 (sh - p.size)).drew
      rw [hv5] at h1
      refine h1.congr ?_
      have e1 := HLN.out
      have e2 := HPP.out
      have e3 := HSH.out
      funext i
      unfold popLn
      by_cases e : i = h
      · subst e
        rw [if_pos rfl, if_pos rfl, e1, e2, e3]
        simp [lnSh]
        rfl
      · simp only [if_neg e]; rfl
    have G5 : Sits v5 (F + 1) (pkCells p) 31 := by rw [← hv5]; exact Sits.drew' (Sits.other HG4.out (by omega) _)
    have P5 : Sits v5 w.heap.size (pkCells pk0) 31 := by rw [← hv5]; exact Sits.drew' (Sits.other HP4.out (by omega) _)
    have B5 : Below base w v5 := by rw [← hv5]; exact ((HB4.out).setCell (HSW4.out).lq.lo _).drew
    have K5 : Two2 V B w v5 := fun i hi e1 e2 => by
      rw [← hv5]; exact (Below.heap_setCell _ _ _ i e2).trans (HK4.out i hi e1 e2)
    rw [hv5]
    have b0 : v5.cell? ⟨B, h * 9, none⟩ = some (.slice x r cx) := by
      have := (sw5.at h4).1
      have e1 := HLN.out
      simpa [popLn, e1] using this
    have HSW5 : Hid (SW base v5 V B cl s (fun i => if i = h then x else A i) (fun i => if i = h then cx else C i) (popLn L (shK ts s.qt (fun i => (L i).sh) K) h) y' (m + 1) cy' tn') := sw5
    have HG5 : Hid (Sits v5 (F + 1) (pkCells p) 31) := G5
    have HP5 : Hid (Sits v5 w.heap.size (pkCells pk0) 31) := P5
    have HB5 : Hid (Below base w v5) := B5
    have HK5 : Hid (Two2 V B w v5) := K5
    have hrot : (List.range (m + 1)).map tn' = rotT ts K := by
      unfold rotT
      have hl : ts.length = m + 1 := by rw [← HTS.out]; simp
      rw [hl]
      exact List.map_congr_left fun i hi => HT1.out i (by simpa using hi)
    have HY1 : Hid (∀ a, y' = some a → a.block ≠ w.heap.size) := fun a ha => by have := HA1.out a ha; have := HZ0.out; omega
    clear hv5 sw5 G5 P5 B5 K5 HSW4 HG4 HP4 HB4 HK4 e1 g3 df
    go_upto_if 43 with fail
    go_cut [5] from 7 (fun s5 wx => s5 = .pointer (some ⟨F + 1, 0, none⟩) ∧ ∃ (y2 : Option Addr) (n2 cy2 : Nat) (tn2 : Nat → Int), SX base wx V B cl s (fun i => if i = h then x else A i) (fun i => if i = h then cx else C i) (popLn L (shK ts s.qt (fun i => (L i).sh) K) h) y2 n2 cy2 tn2 ∧ (List.range n2).map tn2 = popTs L ts K ∧ (∀ a, y2 = some a → a.block ≠ w.heap.size) ∧ Sits wx (F + 1) (pkCells p) 31 ∧ Sits wx w.heap.size (pkCells pk0) 31 ∧ Two2 V B w wx ∧ Below base w wx)
    case first =>
      by_cases hr0 : r = 0
      case neg =>
        have hr0' : ((r : Int) == 0) = false := by simpa using hr0
        have HT : Hid ((List.range (m + 1)).map tn' = popTs L ts K) := by
          show _ = _
          unfold popTs
          rw [HPH.out, HLN.out, if_neg (by omega)]; exact hrot
        clear hrot
        go_wp2_with fail
        go_meet
        case rel => exact ⟨rfl, y', m + 1, cy', tn', (HSW5.out).sx, HT.out, HY1.out, HG5.out, HP5.out, HK5.out, HB5.out⟩
      case pos =>
        have hr0' : ((r : Int) == 0) = true := by simpa using hr0
        have HT : Hid ((List.range m).map (fun i => tn' (i + 1)) = popTs L ts K) := by
          show _ = _
          unfold popTs
          rw [HPH.out, HLN.out, if_pos (by omega), ← hrot]
          rw [List.range_succ_eq_map, List.map_cons, List.drop_succ_cons, List.drop_zero, List.map_map]; rfl
        obtain ⟨g, rfl, hg, hcy, hcs⟩ := (HSW5.out).slc (Nat.succ_pos m)
        have z6 := (HSW5.out).sv.cell 6
        have zf := (HSW5.out).sv.frozen
        clear hrot hcs
        go_wp2_with fail
        go_meet
        case rel =>
          have hG1 : F + 1 ≠ V := by omega
          have hP2 : w.heap.size ≠ V := by omega
          exact ⟨rfl, tlA g cy' 1, m, cy' - 1, fun i => tn' (i + 1), (HSW5.out).cut, HT.out, fun a ha => by
            have : a.block = g := by unfold tlA at ha; split at ha <;> cases ha <;> rfl
            rw [this]; exact HY1.out _ rfl, Sits.other HG5.out hG1 _, Sits.other HP5.out hP2 _, fun i hi e1 e2 => (Below.heap_setCell _ _ _ i e1).trans (HK5.out i hi e1 e2), (HB5.out).setCell (HSW5.out).bV _⟩
    case rest =>
      obtain ⟨rfl, y2, n2, cy2, tn2, sx, ht2, hy2, G6, P6, K6, B6⟩ := hcut
      have HSX : Hid (SX base wc V B cl s (fun i => if i = h then x else A i) (fun i => if i = h then cx else C i) (popLn L (shK ts s.qt (fun i => (L i).sh) K) h) y2 n2 cy2 tn2) := sx
      have HT2 : Hid ((List.range n2).map tn2 = popTs L ts K) := ht2
      have HY2 : Hid (∀ a, y2 = some a → a.block ≠ w.heap.size) := hy2
      have HK6 : Hid (Two2 V B w wc) := K6
      have HB6 : Hid (Below base w wc) := B6
      have HP6 : Hid (Sits wc w.heap.size (pkCells pk0) 31) := P6
      have f0 := G6.cell 0
      have f1 := G6.cell 1
      have f2 := G6.cell 2
      have f3 := G6.cell 3
      have f4 := G6.cell 4
      have f5 := G6.cell 5
      have r0 := P6.cell 0
      have r1 := P6.cell 1
      have r2 := P6.cell 2
      have r3 := P6.cell 3
      have r4 := P6.cell 4
      have r5 := P6.cell 5
      have rf := P6.frozen
      clear sx ht2 hy2 K6 B6 G6 P6 b0 HSW5 HG5 HP5 HB5 HK5
      go_wp2
      refine bodyPost_ret (ret_pk1 (p := p) Try.results35 rfl (pk_put HP6.out p)) rfl ?_
      exact send_end HKK.out HPH.out HPP.out HSX.out HT2.out hlV hlB hXG.out (fun i hi => ((HSW.out).lq.own i hi).under) HY2.out HK6.out hbw HB6.out

end Go.Proofs.Ytmjggolllijamaa

/-
  THE SIZES OF THOSE WHO GO OUT NEXT: firstSizes.
-/
namespace Go.Proofs.Ytmjggolllijamaa
open Go.RowKit
set_option linter.unusedVariables false

theorem jo_next {base : Nat} {w : World} {x : Option Addr} {k cap : Nat} {F : Nat → Int} {v : Int} (h : JO base w x (k + 1) cap (fun i => if i = k then v else F i)) (e : F k = v) : JO base w x (k + 1) cap F :=
  h.congr fun i hi => by
    by_cases e2 : i = k
    · rw [if_pos e2, e2, e]
    · rw [if_neg e2]

set_option maxRecDepth 100000 in
set_option maxHeartbeats 4000000 in
theorem ifirstSizes_any (s : Sh) (a : Option Addr) (ca : Nat) (b : Option Addr) (n c : Nat) (L : Nat → Ln) (tn : Nat → Int) (w : World)
    (hn : n ≤ 4) (hP : LR w.heap.size w a 4 L) (hb : Row .i64 w b n tn) (ht : ∀ i, i < n → ∃ h : Nat, tn i = (h : Int) ∧ h < 4 ∧ (L h).n ≠ 0) (hz : ∀ h, h < 4 → (L h).n ≤ 1048576) :
    Calls Try.prog 34 #[shVal s a 4 ca b n c] w fun e w' => ∃ (z : Option Addr) (cz : Nat), e = .returned (.slice z n cz) ∧ JO w.heap.size w' z n cz (fun i => ((L (tn i).toNat).f 0).size) ∧ Below w.heap.size w w' := by
  have HP : Hid (LR w.heap.size w a 4 L) := hP
  have HR : Hid (Row .i64 w b n tn) := hb
  have HT : Hid (∀ i, i < n → ∃ h : Nat, tn i = (h : Int) ∧ h < 4 ∧ (L h).n ≠ 0) := ht
  have HZ : Hid (∀ h, h < 4 → (L h).n ≤ 1048576) := hz
  have hni : (n : Int) ≤ 4 := by omega
  clear hP hb ht hz
  obtain ⟨W0, hW0⟩ : ∃ W, w.alloc (.cells (shCells s a 4 ca b n c) 29) = W := ⟨_, rfl⟩
  have s0 : Sits W0 w.heap.size (shCells s a 4 ca b n c) 29 := by rw [← hW0]; exact Sits.new _ _ _
  have b0 : Below w.heap.size w W0 := by rw [← hW0]; exact (Below.refl _ w).alloc (Nat.le_refl _) _
  have hz0 : W0.heap.size = w.heap.size + 1 := by rw [← hW0]; simp
  have HW0 : Hid (w.alloc (.cells (shCells s a 4 ca b n c) 29) = W0) := hW0
  have HS0 : Hid (Sits W0 w.heap.size (shCells s a 4 ca b n c) 29) := s0
  have HB0 : Hid (Below w.heap.size w W0) := b0
  have HZ0 : Hid (W0.heap.size = w.heap.size + 1) := hz0
  have x6 := s0.cell 6
  clear s0 b0 hz0 hW0
  go_enter Try.func34, Try.ntmps34
  go_upto_region 2 with fail
  rw [HW0.out]
  clear HW0
  go_wp2
  clear x6
  go_loopw [3, 9] (fun v i wr => ∃ (k : Nat) (z : Option Addr) (cz : Nat), k ≤ n ∧ i = .int .i64 (k : Int) ∧ v = .slice z k cz ∧ JO (w.heap.size + 1) wr z k cz (fun i => ((L (tn i).toNat).f 0).size) ∧ Below W0.heap.size W0 wr) (fun _ i _ => n - (intOf i).toNat)
  case atStart => exact ⟨0, none, 0, Nat.zero_le _, rfl, rfl, JO.nil _ _ _, Below.refl _ _⟩
  case round =>
    obtain ⟨k, z, cz, hk, rfl, rfl, hj, hB⟩ := hrel
    have HJ : Hid (JO (w.heap.size + 1) wr z k cz (fun i => ((L (tn i).toNat).f 0).size)) := hj
    have HB : Hid (Below W0.heap.size W0 wr) := hB
    have bw : Below w.heap.size w wr := (HB0.out).trans (hB.mono (HB0.out).size)
    have s1 := Sits.below HS0.out hB (Sits.lt HS0.out)
    have x5 := s1.cell 5
    by_cases hlt : k < n
    · obtain ⟨bb, off, rfl, hbl, hcs⟩ := Row.at HR.out hlt
      have c1 := (bw.cell (p := ⟨bb, off + k, none⟩) hbl).trans (hcs k hlt)
      obtain ⟨h, hh, h4, hnh⟩ := HT.out k hlt
      rw [hh] at c1
      obtain ⟨b1, o1, rfl, hb1, hls⟩ := LR.at HP.out h4
      obtain ⟨x, cp, hat, hnc, hpr⟩ := hls h h4
      have d0 := (hat.below bw hb1).1
      obtain ⟨b2, o2, rfl, hb2, hps⟩ := PR.at hpr (show 0 < (L h).n by omega)
      have hp0 := (hps 0 (by omega)).below bw hb2
      rw [Nat.zero_mul, Nat.add_zero] at hp0
      have e3 := hp0.2.2.2.1
      obtain ⟨sz, hsz⟩ : ∃ z, ((L h).f 0).size = z := ⟨_, rfl⟩
      rw [hsz] at e3
      have HSZ : Hid (((L (tn k).toNat).f 0).size = sz) := by show _ = _; rw [hh, Int.toNat_natCast, hsz]
      obtain ⟨ln, hln⟩ : ∃ n, (L h).n = n := ⟨_, rfl⟩
      rw [hln] at d0 hnc hnh
      have hlz : ln ≤ 1048576 := by rw [← hln]; exact HZ.out h h4
      have hl0 : (0 : Int) < (ln : Int) := by omega
      have h4i : (h : Int) < 4 := by omega
      have hzs : w.heap.size + 1 ≤ wr.heap.size := by have := hB.size; have := HZ0.out; omega
      have HRW : Hid ((wr.alloc (.cells #[.int .i64 sz] 3)).cell? ⟨wr.heap.size, 0, none⟩ = some (.int .i64 sz)) := (Sits.new wr #[.int .i64 sz] 3).cell 0
      clear hcs hls hat hpr hps hp0 hsz hln hh hj hB s1
      go_wp2_with (at_builtin; refine wpList_append_in1 rfl _ _ rfl (w.heap.size + 1) z k cz (fun i => ((L (tn i).toNat).f 0).size) rfl (JO.alloc HJ.out _) wr.heap.size sz rfl HRW.out (by omega) (by simp; omega) ?_; intro g2 cz2 w7 hj2 hgr2 hat2 hlt2; have HJ2 : Hid (JO (w.heap.size + 1) w7 (some ⟨g2, 0, none⟩) (k + 1) cz2 (fun i => ((L (tn i).toNat).f 0).size)) := jo_next hj2 HSZ.out; have HB7 : Hid (Below W0.heap.size W0 w7) := Below.grown (B := W0.heap.size) (a := W0) ((HB.out).alloc (HB.out).size _) hgr2 (by have := (HB.out).size; simp; omega) (fun j e => by have := (JO.own_lt HJ.out j e).1; have := HZ0.out; omega); clear hj2 hgr2 hat2 hlt2)
      go_roundw
      case rel => exact ⟨k + 1, some ⟨g2, 0, none⟩, cz2, by omega, by go_num, rfl, HJ2.out, HB7.out⟩
      case measure => simp [intOf]; omega
    · obtain rfl : k = n := by omega
      clear x5
      go_wp2
      go_ret
      exact ⟨z, cz, rfl, (HJ.out).mono (Nat.le_succ _), (HB0.out).trans ((HB.out).mono (HB0.out).size)⟩

end Go.Proofs.Ytmjggolllijamaa

/-
  A SHORT LIST OF NUMBERS IS SORTED: slices.Sort OF AT MOST TWELVE; slices.Equal; a list copied.
-/
namespace Go.Proofs.Ytmjggolllijamaa
open Go.RowKit
set_option linter.unusedVariables false

/-- In order on the first k. -/
def srt (g : Nat → Int) (k : Nat) : Prop := ∀ p q, p < q → q < k → g p ≤ g q
/-- In order up to i, but for what is at j. -/
def insI (g : Nat → Int) (i j : Nat) : Prop := ∀ p q, p < q → q ≤ i → q ≠ j → g p ≤ g q
/-- Two neighbours exchanged. -/
def swp (g : Nat → Int) (j : Nat) (i : Nat) : Int := if i = j then g (j - 1) else if i = j - 1 then g j else g i
theorem insI_start {g : Nat → Int} {i : Nat} (h : srt g i) : insI g i i := fun p q h1 h2 h3 => h p q h1 (by omega)
theorem insI_zero {g : Nat → Int} {i : Nat} (h : insI g i 0) : srt g (i + 1) := fun p q h1 h2 => h p q h1 (by omega) (by omega)
theorem insI_stop {g : Nat → Int} {i j : Nat} (h : insI g i j) (hj : ¬ g j < g (j - 1)) (hji : j ≤ i) : srt g (i + 1) := fun p q h1 h2 => by
  by_cases e : q = j
  · subst e
    by_cases e2 : p = q - 1
    · subst e2; omega
    · have := h p (q - 1) (by omega) (by omega) (by omega)
      omega
  · exact h p q h1 (by omega) e
theorem insI_step {g : Nat → Int} {i j : Nat} (h : insI g i j) (hj : g j < g (j - 1)) (h0 : 0 < j) (hji : j ≤ i) : insI (swp g j) i (j - 1) := fun p q h1 h2 h3 => by
  unfold swp
  by_cases e1 : q = j
  · subst e1
    rw [if_pos rfl, if_neg (by omega)]
    by_cases e2 : p = q - 1
    · rw [if_pos e2]; omega
    · rw [if_neg e2]; exact h p (q - 1) (by omega) (by omega) (by omega)
  · rw [if_neg e1, if_neg h3]
    by_cases e2 : p = j
    · rw [if_pos e2]; exact h (j - 1) q (by omega) h2 e1
    · rw [if_neg e2]
      by_cases e3 : p = j - 1
      · rw [if_pos e3]; exact h j q (by omega) h2 e1
      · rw [if_neg e3]; exact h p q h1 h2 e1
def swi (j i : Nat) : Nat := if i = j then j - 1 else if i = j - 1 then j else i
theorem swp_perm (g : Nat → Int) (n j : Nat) (h0 : 0 < j) (hj : j < n) : ((List.range n).map (swp g j)).Perm ((List.range n).map g) := by
  have e : (List.range n).map (swp g j) = ((List.range n).map (swi j)).map g := by
    rw [List.map_map]
    refine List.map_congr_left fun i _ => ?_
    simp only [swp, swi, Function.comp]
    split
    · rfl
    · split <;> rfl
  rw [e]
  refine List.Perm.map g ((List.perm_ext_iff_of_nodup ?_ List.nodup_range).2 fun v => ?_)
  · refine List.pairwise_map.2 (List.nodup_range.imp fun {a b} h e => h ?_)
    unfold swi at e
    split at e <;> split at e <;> (try split at e) <;> (try split at e) <;> omega
  · simp only [List.mem_map, List.mem_range]
    constructor
    · rintro ⟨i, hi, rfl⟩
      unfold swi
      split
      · omega
      · split <;> omega
    · intro hv
      refine ⟨swi j v, ?_, ?_⟩
      · unfold swi
        split
        · omega
        · split <;> omega
      · unfold swi
        by_cases a : v = j
        · subst a; rw [if_pos rfl, if_neg (by omega), if_pos rfl]
        · rw [if_neg a]
          by_cases b : v = j - 1
          · subst b; rw [if_pos rfl, if_pos rfl]
          · rw [if_neg b, if_neg a, if_neg b]

theorem cless_any (x y : Int) (w : World) :
    Calls Try.prog 108 #[.int .i64 x, .int .i64 y] w fun e w' => e = .returned (.bool (decide (x < y))) ∧ w' = w := by
  go_enter Try.func108, Try.ntmps108
  go_wp2
  go_ret
  exact ⟨rfl, rfl⟩

theorem own_drew {w : World} {B n : Nat} {f : Nat → Int} (h : Own .i64 w B n f) : Own .i64 w.drew B n f := h
theorem chg_drew {L U : Nat} {w w' : World} (h : Chg L U w w') : Chg L U w w'.drew := ⟨h.os, h.tape, h.output, h.size, h.block⟩
theorem Own.cellI {w : World} {B n : Nat} {f : Nat → Int} (h : Own .i64 w B n f) {i : Nat} (hi : i < n) : w.cell? ⟨B, i, none⟩ = some (.int .i64 (f i)) := (h.2 i hi).1

set_option maxHeartbeats 2000000 in
theorem iinsertion_any (B n cap : Nat) (f : Nat → Int) (w : World) (hn : n ≤ 1048576) (ho : Own .i64 w B n f) :
    Calls Try.prog 102 #[.slice (some ⟨B, 0, none⟩) n cap, .int .i64 0, .int .i64 n] w fun e w' => e = .returned (.tuple #[]) ∧ ∃ g : Nat → Int, Own .i64 w' B n g ∧ ((List.range n).map g).Perm ((List.range n).map f) ∧ srt g n ∧ Chg B (B + 1) w w' := by
  have hni : (n : Int) ≤ 1048576 := by omega
  have HO : Hid (Own .i64 w B n f) := ho
  clear ho hn
  go_enter Try.func102, Try.ntmps102
  go_wp2
  go_loopw [6] (fun vi wr => ∃ (i : Nat) (g : Nat → Int), vi = .int .i64 (i : Int) ∧ 1 ≤ i ∧ i ≤ n + 1 ∧ Own .i64 wr B n g ∧ ((List.range n).map g).Perm ((List.range n).map f) ∧ srt g (min i n) ∧ Chg B (B + 1) w wr) (fun vi _ => n + 1 - (intOf vi).toNat)
  case atStart => exact ⟨1, f, rfl, by omega, by omega, HO.out, List.Perm.refl _, fun p q h1 h2 => by omega, Chg.refl _ _ _⟩
  case round =>
    obtain ⟨i, g, rfl, hi1, hi2, hog, hpm, hsr, hch⟩ := hrel
    have HPM : Hid (((List.range n).map g).Perm ((List.range n).map f)) := hpm
    have HSR : Hid (srt g (min i n)) := hsr
    have HCH : Hid (Chg B (B + 1) w wr) := hch
    have HOG : Hid (Own .i64 wr B n g) := hog
    clear hpm hsr hch hog
    by_cases hlt : i < n
    case neg =>
      have hlt' : ¬ (i : Int) < (n : Int) := by omega
      go_wp2
      exact bodyPost_end (v := .tuple #[]) (by simp [results, Try.results102, go_sem]) rfl ⟨rfl, g, HOG.out, HPM.out, fun p q h1 h2 => HSR.out p q h1 (by omega), HCH.out⟩
    case pos =>
    have hlt' : (i : Int) < (n : Int) := by omega
    go_wp2
    go_loopw [7] (fun vj wr2 => ∃ (j : Nat) (h : Nat → Int), vj = .int .i64 (j : Int) ∧ j ≤ i ∧ Own .i64 wr2 B n h ∧ ((List.range n).map h).Perm ((List.range n).map f) ∧ insI h i j ∧ Chg B (B + 1) w wr2) (fun vj _ => (intOf vj).toNat)
    case atStart => exact ⟨i, g, rfl, Nat.le_refl _, HOG.out, HPM.out, insI_start (fun p q h1 h2 => HSR.out p q h1 (by omega)), HCH.out⟩
    case round =>
      clear HOG HPM HSR HCH
      obtain ⟨j, h, rfl, hji, hoh, hpm, hin, hch⟩ := hrel
      have HPM : Hid (((List.range n).map h).Perm ((List.range n).map f)) := hpm
      have HIN : Hid (insI h i j) := hin
      have HCH : Hid (Chg B (B + 1) w wr) := hch
      have HOH : Hid (Own .i64 wr B n h) := hoh
      have hlB := hoh.1
      clear hpm hin hch
      by_cases hj0 : 0 < j
      case neg =>
        have hj0' : decide ((0 : Int) < (j : Int)) = false := by simp; omega
        have HJ : Hid (j = 0) := by show _ = _; omega
        clear hoh
        go_wp2
        refine wp_region_quiet (C := fun w' => Below wr.heap.size wr w') (by kernel_rfl) (by kernel_rfl) ((Below.refl _ _).drew) ?_
        simp only []
        repeat (first
          | go_big_quiet_skip
          | (go_big_quiet_want
             unfold Oper.quiet
             apply Exists.intro
             refine ⟨fun w' hw' => ?_, ?_⟩
             (go_simp
              exact rfl)
             simp only [Act.put, List.setIfInBounds_toArray, List.set_cons_zero, List.set_cons_succ]
             go_big_quiet_on))
        refine wpQuiet_nil ?_
        intro w2 hw2
        go_wp2
        go_roundw
        case rel => exact ⟨i + 1, h, by go_num, by omega, by omega, Own.below HOH.out hw2, HPM.out, fun p q h1 h2 => insI_zero (by have := HIN.out; rw [HJ.out] at this; exact this) p q h1 (by omega), (HCH.out).trans (Chg.of_below hw2)⟩
        case measure => simp [intOf]; omega
      case pos =>
      have hj0' : decide ((0 : Int) < (j : Int)) = true := by simp; omega
      have cj := hoh.cellI (show j < n by omega)
      have fj := (hoh.2 j (by omega)).2
      obtain ⟨m, rfl⟩ : ∃ m, j = m + 1 := ⟨j - 1, by omega⟩
      have cm := hoh.cellI (show m < n by omega)
      have fm := (hoh.2 m (by omega)).2
      have hjn : (m : Int) + 1 < n := by omega
      have hjt : ((m : Int) + 1).toNat = m + 1 := by omega
      have hj1 : decide ((0 : Int) < (m : Int) + 1) = true := decide_eq_true (by omega)
      have hwm : IntKind.i64.wrap (m : Int) = m := by rw [IntKind.wrap_i64]; omega
      have hj2 : ¬ (m : Int) + 1 < 0 := by omega
      have hj3 : (m : Int) < n := by omega
      clear hj0'
      clear hoh
      obtain ⟨u, hu⟩ : ∃ u, h (m + 1) = u := ⟨_, rfl⟩
      obtain ⟨v, hv⟩ : ∃ v, h m = v := ⟨_, rfl⟩
      rw [hu] at cj
      rw [hv] at cm
      have HU : Hid (h (m + 1) = u) := hu
      have HV : Hid (h m = v) := hv
      clear hu hv
      cases hl : decide (u < v)
      case false =>
        go_wp2
        refine wp_region_quiet (C := fun w' => Below wr.heap.size wr w') (by kernel_rfl) (by kernel_rfl) ((Below.refl _ _).drew) ?_
        simp only []
        repeat (first
          | go_big_quiet_skip
          | (go_big_quiet_want
             unfold Oper.quiet
             apply Exists.intro
             refine ⟨fun w' hw' => ?_, ?_⟩
             (have zj := (hw'.cell (p := ⟨B, m + 1, none⟩) hlB).trans cj
              have zm := (hw'.cell (p := ⟨B, m, none⟩) hlB).trans cm
              go_simp
              first
                | (go_at_call 108; refine (cless_any _ _ _).mono ?_; rintro e w4 ⟨rfl, hw4⟩; exact ⟨by rw [hl], by rw [hw4]; exact hw'⟩)
                | exact rfl)
             simp only [Act.put, List.setIfInBounds_toArray, List.set_cons_zero, List.set_cons_succ]
             go_big_quiet_on))
        refine wpQuiet_nil ?_
        intro w2 hw2
        go_wp2
        go_roundw
        case rel => exact ⟨i + 1, h, by go_num, by omega, by omega, Own.below HOH.out hw2, HPM.out, fun p q h1 h2 => insI_stop HIN.out (by simp only [Nat.add_sub_cancel]; rw [HU.out, HV.out]; simpa using hl) hji p q h1 (by omega), (HCH.out).trans (Chg.of_below hw2)⟩
        case measure => simp [intOf]; omega
      case true =>
        have hl' : u < v := by simpa using hl
        have HL : Hid (h (m + 1) < h (m + 1 - 1)) := by show _ < _; simp only [Nat.add_sub_cancel]; rw [HU.out, HV.out]; exact hl'
        clear hl'
        go_wp2
        refine wp_region_quiet (C := fun w' => Below wr.heap.size wr w') (by kernel_rfl) (by kernel_rfl) ((Below.refl _ _).drew) ?_
        simp only []
        repeat (first
          | go_big_quiet_skip
          | (go_big_quiet_want
             unfold Oper.quiet
             apply Exists.intro
             refine ⟨fun w' hw' => ?_, ?_⟩
             (have zj := (hw'.cell (p := ⟨B, m + 1, none⟩) hlB).trans cj
              have zm := (hw'.cell (p := ⟨B, m, none⟩) hlB).trans cm
              go_simp
              first
                | (go_at_call 108; refine (cless_any _ _ _).mono ?_; rintro e w4 ⟨rfl, hw4⟩; exact ⟨by rw [hl], by rw [hw4]; exact hw'⟩)
                | exact rfl)
             simp only [Act.put, List.setIfInBounds_toArray, List.set_cons_zero, List.set_cons_succ]
             go_big_quiet_on))
        refine wpQuiet_nil ?_
        intro w2 hw2
        have zj := (hw2.cell (p := ⟨B, m + 1, none⟩) hlB).trans cj
        have zm := (hw2.cell (p := ⟨B, m, none⟩) hlB).trans cm
        have yj : w2.frozen? ⟨B, m + 1, none⟩ = false := ((Own.below HOH.out hw2).2 (m + 1) (by omega)).2
        have ym : w2.frozen? ⟨B, m, none⟩ = false := ((Own.below HOH.out hw2).2 m (by omega)).2
        have HW2 : Hid (Below wr.heap.size wr w2) := hw2
        clear hw2 cj cm fj fm hl
        go_wp2
        go_region
        all_goals go_wp2
        go_roundw
        case rel =>
          have o1 := Own.set (Own.set (Own.below HOH.out HW2.out) (m + 1) (by omega) v) m (by omega) u
          refine ⟨m, swp h (m + 1), rfl, by omega, own_drew (o1.congr fun t ht => ?_), (swp_perm h n (m + 1) (by omega) (by omega)).trans HPM.out, insI_step HIN.out HL.out (by omega) hji, chg_drew (chg_set (chg_set ((HCH.out).trans (Chg.of_below HW2.out)) (Nat.le_refl _) (Nat.lt_succ_self _) _ _) (Nat.le_refl _) (Nat.lt_succ_self _) _ _)⟩
          unfold swp
          simp only [Nat.add_sub_cancel]
          by_cases e1 : t = m + 1
          · rw [if_neg (by omega), if_pos e1, if_pos e1, HV.out]
          · rw [if_neg e1, if_neg e1]
            by_cases e2 : t = m
            · rw [if_pos e2, if_pos e2, HU.out]
            · rw [if_neg e2, if_neg e2]
        case measure => simp [intOf]

set_option maxHeartbeats 1000000 in
theorem ipdq_any (B n cap : Nat) (f : Nat → Int) (lim : Int) (w : World) (hn : n ≤ 12) (ho : Own .i64 w B n f) :
    Calls Try.prog 93 #[.slice (some ⟨B, 0, none⟩) n cap, .int .i64 0, .int .i64 n, .int .i64 lim] w fun e w' => e = .returned (.tuple #[]) ∧ ∃ g : Nat → Int, Own .i64 w' B n g ∧ ((List.range n).map g).Perm ((List.range n).map f) ∧ srt g n ∧ Chg B (B + 1) w w' := by
  have hni : (n : Int) ≤ 12 := by omega
  have HO : Hid (Own .i64 w B n f) := ho
  have HN : Hid (n ≤ 1048576) := by show _ ≤ _; omega
  clear ho hn
  go_enter Try.func93, Try.ntmps93
  go_wp2
  go_loopw [1, 2] (fun a b wr => a = .int .i64 0 ∧ b = .int .i64 n ∧ wr = w) (fun _ _ _ => 0)
  case atStart => exact ⟨rfl, rfl, rfl⟩
  case round =>
    obtain ⟨rfl, rfl, hwr⟩ := hrel
    subst hwr
    go_wp2_with (go_at_call 102; refine (iinsertion_any B n cap f _ HN.out HO.out).mono ?_; rintro e w1 ⟨rfl, hg⟩)
    exact bodyPost_ret (v := .tuple #[]) (by simp [results, Try.results93, go_sem]) rfl ⟨rfl, hg⟩

theorem ilen_any (x : Int) (h0 : 0 ≤ x) (h1 : x ≤ 12) (w : World) :
    Calls Try.prog 94 #[.int .u64 x] w fun e w' => (∃ r : Int, e = .returned (.int .i64 r)) ∧ w' = w := by
  by_cases hx : 1 ≤ x
  · go_enter Try.func94, Try.ntmps94
    go_wp2_with (go_at_call 112; refine (len64_any x hx (by omega) _).mono ?_; rintro e w1 ⟨rfl, rfl⟩)
    go_ret
    exact ⟨⟨_, rfl⟩, rfl⟩
  · obtain rfl : x = 0 := by omega
    have hz : Calls Try.prog 112 #[.int .u64 0] w fun e w' => (∃ r : Int, e = .returned (.int .i64 r)) ∧ w' = w := by
      have hs := tab_size
      have hg := tab_get
      go_enter Try.func112, Try.ntmps112
      go_wp2
      go_ret
      exact ⟨⟨_, rfl⟩, rfl⟩
    go_enter Try.func94, Try.ntmps94
    go_wp2_with (go_at_call 112; refine hz.mono ?_; rintro e w1 ⟨⟨r, rfl⟩, rfl⟩)
    go_ret
    exact ⟨⟨_, rfl⟩, rfl⟩

set_option maxHeartbeats 1000000 in
theorem isort_any (B n cap : Nat) (f : Nat → Int) (w : World) (hn : n ≤ 12) (ho : Own .i64 w B n f) :
    Calls Try.prog 76 #[.slice (some ⟨B, 0, none⟩) n cap] w fun e w' => e = .returned (.tuple #[]) ∧ ∃ g : Nat → Int, Own .i64 w' B n g ∧ ((List.range n).map g).Perm ((List.range n).map f) ∧ srt g n ∧ Chg B (B + 1) w w' := by
  have HO : Hid (Own .i64 w B n f) := ho
  have HN : Hid (n ≤ 12) := hn
  have hni : (n : Int) ≤ 12 := by omega
  clear ho hn
  go_enter Try.func76, Try.ntmps76
  go_wp2_with (first
    | (go_at_call 94; refine (ilen_any _ (by omega) (by omega) _).mono ?_; rintro e w1 ⟨⟨r, rfl⟩, rfl⟩)
    | (go_at_call 93; refine (ipdq_any B n cap f _ _ HN.out HO.out).mono ?_; rintro e w1 ⟨rfl, hg⟩))
  exact bodyPost_end (v := .tuple #[]) (by simp [results, Try.results76, go_sem]) rfl ⟨rfl, hg⟩

/-- Are both lists one? -/
def eqlB (f : Nat → Int) (n : Nat) (g : Nat → Int) (m : Nat) : Bool := decide ((List.range n).map f = (List.range m).map g)
theorem iequal_any (a : Option Addr) (n ca : Nat) (f : Nat → Int) (b : Option Addr) (m cb : Nat) (g : Nat → Int) (w : World) (hn : n ≤ 1048576) (hm : m ≤ 1048576) (ha : Row .i64 w a n f) (hb : Row .i64 w b m g) :
    Calls Try.prog 77 #[.slice a n ca, .slice b m cb] w fun e w' => e = .returned (.bool (eqlB f n g m)) ∧ Below w.heap.size w w' := by
  have HA : Hid (Row .i64 w a n f) := ha
  have HB : Hid (Row .i64 w b m g) := hb
  have hni : (n : Int) ≤ 1048576 := by omega
  have hmi : (m : Int) ≤ 1048576 := by omega
  clear ha hb hn hm
  by_cases hnm : n = m
  case neg =>
    have hnm' : ((n : Int) != (m : Int)) = true := by simp; omega
    have HE : Hid (false = eqlB f n g m) := by
      show _ = _; symm; unfold eqlB; rw [decide_eq_false_iff_not]; intro h
      have := congrArg List.length h
      simp at this
      exact hnm this
    go_enter Try.func77, Try.ntmps77
    go_wp2
    go_ret
    exact ⟨ret_bool HE.out, Below.refl _ _⟩
  case pos =>
  subst hnm
  go_enter Try.func77, Try.ntmps77
  go_wp2
  go_loopw [13] (fun i wr => ∃ k : Nat, k ≤ n ∧ i = .int .i64 (k : Int) ∧ (∀ j, j < k → f j = g j) ∧ Below w.heap.size w wr) (fun i _ => n - (intOf i).toNat)
  case atStart => exact ⟨0, Nat.zero_le _, rfl, fun j hj => absurd hj (Nat.not_lt_zero _), Below.refl _ _⟩
  case round =>
    obtain ⟨k, hk, rfl, hal, hB⟩ := hrel
    have HAL : Hid (∀ j, j < k → f j = g j) := hal
    clear hal
    by_cases hlt : k < n
    · obtain ⟨b1, o1, rfl, l1, h1⟩ := Row.at HA.out hlt
      obtain ⟨b2, o2, rfl, l2, h2⟩ := Row.at HB.out hlt
      have c1 := (hB.cell (p := ⟨b1, o1 + k, none⟩) l1).trans (h1 k hlt)
      have c2 := (hB.cell (p := ⟨b2, o2 + k, none⟩) l2).trans (h2 k hlt)
      clear h1 h2
      by_cases he : f k = g k
      · have he' : (f k != g k) = false := by simpa using he
        go_wp2
        go_region
        all_goals go_wp2
        all_goals
          go_roundw
          case rel => exact ⟨k + 1, by omega, by go_num, fun j hj => by by_cases e : j = k; · rw [e]; exact he
                                                                        · exact HAL.out j (by omega), hB.drew⟩
          case measure => simp [intOf]; omega
      · have he' : (f k != g k) = true := by simpa using he
        have HE : Hid (false = eqlB f n g n) := by
          show _ = _; symm; unfold eqlB; rw [decide_eq_false_iff_not]; intro h
          have := congrArg (fun l => l[k]?) h
          simp [hlt] at this
          exact he this
        go_wp2
        go_region
        all_goals go_wp2
        all_goals
          go_ret
          exact ⟨ret_bool HE.out, hB.drew⟩
    · obtain rfl : n = k := by omega
      have HE : Hid (true = eqlB f n g n) := by
        show _ = _; symm; unfold eqlB; rw [decide_eq_true_eq]
        exact List.map_congr_left fun j hj => HAL.out j (by simpa using hj)
      go_wp2
      go_ret
      exact ⟨ret_bool HE.out, hB⟩

theorem iinsertion_zero (a : Option Addr) (cap : Nat) (w : World) :
    Calls Try.prog 102 #[.slice a 0 cap, .int .i64 0, .int .i64 0] w fun e w' => e = .returned (.tuple #[]) ∧ w' = w := by
  go_enter Try.func102, Try.ntmps102
  go_wp2
  go_loopw [6] (fun vi wr => vi = .int .i64 1 ∧ wr = w) (fun _ _ => 0)
  case atStart => exact ⟨rfl, rfl⟩
  case round =>
    obtain ⟨rfl, hwr⟩ := hrel
    subst hwr
    go_wp2
    exact bodyPost_end (v := .tuple #[]) (by simp [results, Try.results102, go_sem]) rfl ⟨rfl, rfl⟩

theorem ipdq_zero (a : Option Addr) (cap : Nat) (lim : Int) (w : World) :
    Calls Try.prog 93 #[.slice a 0 cap, .int .i64 0, .int .i64 0, .int .i64 lim] w fun e w' => e = .returned (.tuple #[]) ∧ w' = w := by
  go_enter Try.func93, Try.ntmps93
  go_wp2
  go_loopw [1, 2] (fun a b wr => a = .int .i64 0 ∧ b = .int .i64 0 ∧ wr = w) (fun _ _ _ => 0)
  case atStart => exact ⟨rfl, rfl, rfl⟩
  case round =>
    obtain ⟨rfl, rfl, hwr⟩ := hrel
    subst hwr
    go_wp2_with (go_at_call 102; refine (iinsertion_zero a cap _).mono ?_; rintro e w1 ⟨rfl, rfl⟩)
    exact bodyPost_ret (v := .tuple #[]) (by simp [results, Try.results93, go_sem]) rfl ⟨rfl, rfl⟩

theorem isort_zero (a : Option Addr) (cap : Nat) (w : World) :
    Calls Try.prog 76 #[.slice a 0 cap] w fun e w' => e = .returned (.tuple #[]) ∧ w' = w := by
  go_enter Try.func76, Try.ntmps76
  go_wp2_with (first
    | (go_at_call 94; refine (ilen_any _ (by omega) (by omega) _).mono ?_; rintro e w1 ⟨⟨r, rfl⟩, rfl⟩)
    | (go_at_call 93; refine (ipdq_zero a cap _ _).mono ?_; rintro e w1 ⟨rfl, rfl⟩))
  exact bodyPost_end (v := .tuple #[]) (by simp [results, Try.results76, go_sem]) rfl ⟨rfl, rfl⟩

theorem ret_one {fn : Func} {tmps : Array Value} {W : World} {i B : Nat} {v0 : Value} {t : TypeId} (hr : fn.results = #[.cell i 102]) (hi : tmps[i]?.getD undef = .pointer (some ⟨B, 0, none⟩)) (hs : Sits W B #[v0] t) : (results fn tmps).run Try.prog W = .ok (.agg #[v0]) W := by
  have c0 : W.cell? ⟨B, 0, none⟩ = some v0 := hs.cell 0
  simp [results, hr, hi, go_sem, c0]

set_option maxHeartbeats 1000000 in
theorem ilistOf_any (b : Option Addr) (n c : Nat) (f : Nat → Int) (w : World) (hn : n ≤ 1048576) (hb : Row .i64 w b n f) :
    Calls Try.prog 63 #[.slice b n c] w fun e w' => ∃ (x : Option Addr) (cap : Nat), e = .returned (.agg #[.slice x n cap]) ∧ JO w.heap.size w' x n cap f ∧ Below w.heap.size w w' := by
  have HB : Hid (Row .i64 w b n f) := hb
  clear hb
  go_enter Try.func63, Try.ntmps63
  go_wp2_with (at_builtin; refine wpList_append_inN rfl _ _ rfl (w.heap.size + 1) none 0 0 f rfl (JO.nil _ _ _) b n c f rfl (Row.below HB.out (by go_grown)) (by omega) (by simp) ?_; intro x cap w1 hjo hgr; have hj1 : JO (w.heap.size + 1) w1 x n cap f := JO.congr (f := joinI f 0 f) (by simpa using hjo) (fun i _ => by simp [joinI]); clear hjo; have B1 : Below (w.heap.size + 1) (w.alloc (.cells #[.slice none 0 0] 102)) w1 := Below.grown (B := w.heap.size + 1) (a := w.alloc (.cells #[.slice none 0 0] 102)) (Below.refl _ _) hgr (by simp) (fun k e => by simp [Value.ownBlock] at e); have s1 := (Sits.new w #[.slice none 0 0] 102).below B1 (by omega); have x0 := s1.cell 0; have xf := s1.frozen; have HS1 : Hid (Sits _ _ _ _) := s1.set 0 (.slice x n cap); have HB1 : Hid (Below (w.heap.size + 1) (w.alloc (.cells #[.slice none 0 0] 102)) w1) := B1; have HJ : Hid (JO (w.heap.size + 1) w1 x n cap f) := hj1; clear s1 B1 hj1 hgr)
  refine bodyPost_ret (ret_one Try.results63 rfl HS1.out) rfl ⟨x, cap, rfl, (JO.far HJ.out (by omega) _ _).mono (by omega), ?_⟩
  exact (((Below.refl _ w).alloc (Nat.le_refl _) _).trans ((HB1.out).mono (by omega))).setCell (Nat.le_refl _) _

end Go.Proofs.Ytmjggolllijamaa

/-
  WHICH SHAPES ARE WELL, AS THE PROGRAM SAYS: hostLineOk, turnOk, shapeNumbersOk.
-/
namespace Go.Proofs.Ytmjggolllijamaa
open Go.RowKit Go.Shelf
set_option linter.unusedVariables false
attribute [local go_sem] Oper.semAt_some

/-- A line of a Shape, in the program's words. -/
def hlP (i : Int) (l : Ln) : Prop := cdzB l.cd = true ∧ waitB l = true ∧ ∀ k, k < l.n → (l.f k).host = i
instance (i : Int) (l : Ln) : Decidable (hlP i l) := by unfold hlP; infer_instance
def hlB (i : Int) (l : Ln) : Bool := decide (hlP i l)
theorem hl_iff {i : Int} {l : Ln} : hlnP i l ↔ hlP i l := by
  unfold hlnP hlP waitB inB
  constructor
  · rintro ⟨h1, h2, h3, h5⟩
    exact ⟨h1, by simp [h2, h3], h5⟩
  · rintro ⟨h1, h2, h5⟩
    simp at h2
    exact ⟨h1, h2.1, h2.2, h5⟩

set_option maxRecDepth 100000 in
set_option maxHeartbeats 4000000 in
theorem ihostLineOk_any (x : Option Addr) (c : Nat) (l : Ln) (num : Int) (w : World) (hn : l.n ≤ 1048576) (hnc : l.n ≤ c) (hP : PR w.heap.size w x l.n l.f) :
    Calls Try.prog 59 #[lnVal x c l, .int .i64 num] w fun e w' => e = .returned (.bool (hlB num l)) ∧ Below w.heap.size w w' := by
  have HP : Hid (PR w.heap.size w x l.n l.f) := hP
  have HN : Hid (l.n ≤ 1048576) := hn
  have HNC : Hid (l.n ≤ c) := hnc
  clear hP hn hnc
  obtain ⟨W0, hW0⟩ : ∃ W, ((w.alloc (.cells (lnCells x c l) 53)).alloc (.cells #[.int .i64 num] 3)).alloc (.cells #[.bool false] 4) = W := ⟨_, rfl⟩
  have s0 : Sits W0 w.heap.size (lnCells x c l) 53 := by rw [← hW0]; exact ((Sits.new _ _ _).alloc _).alloc _
  have s1 : Boxed W0 (w.heap.size + 1) 3 (.int .i64 num) := by rw [← hW0]; have := (Boxed.new (w.alloc (.cells (lnCells x c l) 53)) 3 (.int .i64 num)).alloc (.cells #[.bool false] 4); simpa using this
  have s2 : Boxed W0 (w.heap.size + 1 + 1) 4 (.bool false) := by rw [← hW0]; have := Boxed.new ((w.alloc (.cells (lnCells x c l) 53)).alloc (.cells #[.int .i64 num] 3)) 4 (.bool false); simpa using this
  have b0 : Below w.heap.size w W0 := by rw [← hW0]; exact (((Below.refl _ w).alloc (Nat.le_refl _) _).alloc (by simp) _).alloc (by simp; omega) _
  have HB1 : Hid (Below w.heap.size w W0) := b0
  have HT0 : Hid (Sits W0 w.heap.size (lnCells x c l) 53) := s0
  have HT1 : Hid (Boxed W0 (w.heap.size + 1) 3 (.int .i64 num)) := s1
  have HT2 : Hid (Boxed W0 (w.heap.size + 1 + 1) 4 (.bool false)) := s2
  have y0 := s0.cell 0
  have y1 := s0.cell 1
  have y2 := s0.cell 2
  have y3 := s0.cell 3
  have y4 := s0.cell 4
  have y5 := s0.cell 5
  have y6 := s0.cell 6
  have y7 := s0.cell 7
  have y8 := s0.cell 8
  have g2 := s2.cell
  have g2f := s2.frozen
  have HW0 : Hid (((w.alloc (.cells (lnCells x c l) 53)).alloc (.cells #[.int .i64 num] 3)).alloc (.cells #[.bool false] 4) = W0) := hW0
  clear s0 s1 s2 b0 hW0
  have hro : Fence.wide.round = none := rfl
  have hcd := equalIn_cd l.cd
  cases hg : cdzB l.cd
  case false =>
    have hE : hlB num l = false := by unfold hlB; rw [decide_eq_false_iff_not]; exact fun h => by have := h.1; rw [hg] at this; cases this
    have HE : Hid (hlB num l = false) := hE
    clear hE
    refine (callsIn_wide (n := 6)).1 ?_
    refine callsIn_of_wp_marks Try.func59 rfl trivial ?_ hro
    simp only [Try.ntmps59, List.size_toArray, List.length_cons, List.length_nil, Nat.reduceAdd, Nat.reduceSub, Array.replicate_succ, Array.replicate_zero, List.push_toArray, List.append_toArray, List.nil_append, List.cons_append]
    gi_wp2
    refine ⟨trivial, ?_⟩
    rename_i hK
    refine hK _ _ ?_
    rw [HW0.out]
    gi_wp2
    exact ⟨_, ret_b1 Try.results59 rfl (Boxed.set (.bool false) HT2.out), by rw [HE.out], (HB1.out).setCell (show w.heap.size ≤ w.heap.size + 1 + 1 by omega) _⟩
  case true =>
  cases hwt : waitB l
  case false =>
    have hE : hlB num l = false := by unfold hlB; rw [decide_eq_false_iff_not]; exact fun h => by have := h.2.1; rw [hwt] at this; cases this
    have HE : Hid (hlB num l = false) := hE
    clear hE
    refine (callsIn_wide (n := 6)).1 ?_
    refine callsIn_of_wp_marks Try.func59 rfl trivial ?_ hro
    simp only [Try.ntmps59, List.size_toArray, List.length_cons, List.length_nil, Nat.reduceAdd, Nat.reduceSub, Array.replicate_succ, Array.replicate_zero, List.push_toArray, List.append_toArray, List.nil_append, List.cons_append]
    gi_wp2_with (refine ⟨trivial, ?_⟩; gi_at_call 78; rw [HW0.out]; refine (callsIn_wide.2 (iwaitingOk_any x c l _ HN.out HNC.out ((PR.below HP.out HB1.out).mono (HB1.out).size))).mono ?_; rintro e w2 ⟨rfl, b2⟩; rw [hwt]; have HB2 : Hid (Below w.heap.size w w2) := (HB1.out).trans (b2.mono (HB1.out).size); have t2 := boxed_below HT2.out b2 (Boxed.lt HT2.out); clear g2 g2f; have u2 := t2.cell; have u2f := t2.frozen; have HU2 : Hid (Boxed w2 (w.heap.size + 1 + 1) 4 (.bool false)) := t2; have t1 := boxed_below HT1.out b2 (Boxed.lt HT1.out); have HU1 : Hid (Boxed w2 (w.heap.size + 1) 3 (.int .i64 num)) := t1; have t0 := Sits.below HT0.out b2 (Sits.lt HT0.out); clear y0; have v0 := t0.cell 0; clear t0 t1 t2 b2)
    exact ⟨_, ret_b1 Try.results59 rfl (Boxed.set (.bool false) HU2.out), by rw [HE.out], (HB2.out).setCell (show w.heap.size ≤ w.heap.size + 1 + 1 by omega) _⟩
  case true =>
    have HG : Hid (cdzB l.cd = true ∧ waitB l = true) := ⟨hg, hwt⟩
    refine (callsIn_wide (n := 6)).1 ?_
    refine callsIn_of_wp_marks Try.func59 rfl trivial ?_ hro
    simp only [Try.ntmps59, List.size_toArray, List.length_cons, List.length_nil, Nat.reduceAdd, Nat.reduceSub, Array.replicate_succ, Array.replicate_zero, List.push_toArray, List.append_toArray, List.nil_append, List.cons_append]
    gi_wp2_with (first | (refine ⟨trivial, ?_⟩; gi_at_call 78; rw [HW0.out]; refine (callsIn_wide.2 (iwaitingOk_any x c l _ HN.out HNC.out ((PR.below HP.out HB1.out).mono (HB1.out).size))).mono ?_; rintro e w2 ⟨rfl, b2⟩; rw [hwt]; have HB2 : Hid (Below w.heap.size w w2) := (HB1.out).trans (b2.mono (HB1.out).size); have t2 := boxed_below HT2.out b2 (Boxed.lt HT2.out); clear g2 g2f; have u2 := t2.cell; have u2f := t2.frozen; have HU2 : Hid (Boxed w2 (w.heap.size + 1 + 1) 4 (.bool false)) := t2; have t1 := boxed_below HT1.out b2 (Boxed.lt HT1.out); have HU1 : Hid (Boxed w2 (w.heap.size + 1) 3 (.int .i64 num)) := t1; have t0 := Sits.below HT0.out b2 (Sits.lt HT0.out); clear y0; have v0 := t0.cell 0; clear t0 t1 t2 b2) | (refine ⟨trivial, ?_⟩; gi_at_call 75; refine (told_in 5 _ _ _ _).mono ?_; rintro e w' ⟨rfl, rfl⟩))
    have bN := Boxed.new w2 48 (.slice x l.n c)
    have hB0 : Below w2.heap.size w2 (w2.alloc (.cells #[.slice x l.n c] 48)) := (Below.refl _ w2).alloc (Nat.le_refl _) _
    have bR := Boxed.alloc HU2.out (.cells #[.slice x l.n c] 48)
    have bM := Boxed.alloc HU1.out (.cells #[.slice x l.n c] 48)
    have hls : w.heap.size + 1 + 1 < w2.heap.size := Boxed.lt HU2.out
    have hsz : (w2.alloc (.cells #[.slice x l.n c] 48)).heap.size = w2.heap.size + 1 := by simp
    have hP1 : PR w.heap.size w2 x l.n l.f := PR.below HP.out HB2.out
    have hBw := (HB2.out).alloc (HB2.out).size (.cells #[.slice x l.n c] 48)
    obtain ⟨V0, hV0⟩ : ∃ V0, w2.alloc (.cells #[.slice x l.n c] 48) = V0 := ⟨_, rfl⟩
    rw [hV0] at bR bN bM hB0 hsz hBw ⊢
    clear hV0
    refine wpIn_rangeFunc_ownH hro (by omega) (gf := 92) (lb := #[.pointer (some ⟨w2.heap.size, 0, none⟩)]) rfl trivial (enters_of Try.func92 (by kernel_rfl) rfl)
      (told_stops 5 (by omega) w2.heap.size w.heap.size l.n c x l.f HN.out V0 (by omega) (by omega) bN.cell (hP1.below (hB0.mono (by omega)))) belowK_t (belowK_b (by omega)) (Below.refl _ _) (fun _ => rfl)
      (fun pre W => (((∀ y ∈ pre, (l.f y.1).host = num) ∧ Boxed W (w.heap.size + 1 + 1) 4 (.bool false)) ∧ Boxed W (w.heap.size + 1) 3 (.int .i64 num)) ∧ Below w.heap.size w W)
      (fun ex pre W => ((ex = .ret ∧ ∃ y ∈ pre, ¬ (l.f y.1).host = num) ∧ Boxed W (w.heap.size + 1 + 1) 4 (.bool false)) ∧ Below w.heap.size w W)
      (OwnFrom.and (OwnFrom.and (OwnFrom.and (ownFrom_pure _ _) (Own.from (boxed_own _ _ _) _)) (Own.from (boxed_own _ _ _) _)) (ownFrom_below (Nat.le_refl _) (by omega)))
      (fun c => OwnFrom.and (OwnFrom.and (ownFrom_pure _ _) (Own.from (boxed_own _ _ _) _)) (ownFrom_below (Nat.le_refl _) (by omega)))
      ⟨⟨⟨by simp, bR⟩, bM⟩, hBw⟩
      (fun y a' W => ∃ Bx, w.heap.size + 1 + 1 < Bx ∧ Lies W Bx (pkCells (l.f y.1)) 31 ∧ a' = { tmps := #[lnVal x c l, .int .i64 num, .pointer (some ⟨w.heap.size, 0, none⟩), .pointer (some ⟨w.heap.size + 1, 0, none⟩), .pointer (some ⟨w.heap.size + 1 + 1, 0, none⟩), undef, .pointer (some ⟨Bx, 0, none⟩), .pointer (some ⟨w.heap.size, 2, none⟩), l.cd.val, .agg #[.int .i64 0, .int .i64 0, .int .i64 0, .int .i64 0, .int .i64 0, .int .i64 0, .bool false], .bool false, .bool false, lnVal x c l, .bool true, .bool false, .bool false, .pointer (some ⟨w.heap.size, 0, none⟩), .slice x l.n c, .func (.func 92) #[] #[.pointer (some ⟨w2.heap.size, 0, none⟩)], .int .i64 (y.1 : Int), (l.f y.1).val, undef, undef, undef, undef], defers := [] })
      (fun x a' _ X Y row hs hg hr => by obtain ⟨Bx, e1, e2, e3⟩ := hs; exact ⟨Bx, e1, lies_own Bx _ _ () X Y row e2 hg (fun r e => (hr r e).2), e3⟩)
      ?assign ?body ?done ?stop
    case assign =>
      rintro lp pre y W K ⟨⟨⟨hp, bR1⟩, bM1⟩, hBW⟩ hK
      gi_wp2
      exact hK _ _ ((KeepsOthers.alloc _ _).from _) ((Below.refl _ W).alloc hBW.size _) ⟨⟨⟨hp, bR1.alloc _⟩, bM1.alloc _⟩, hBW.alloc hBW.size _⟩ ⟨W.heap.size, bR1.lt, Lies.new W _ _, rfl⟩
    case body =>
      rintro lp pre y a' W hl ⟨r, hr⟩ ⟨⟨⟨hp, bR1⟩, bM1⟩, hBW⟩ ⟨Bx, hBx, bX, rfl⟩ hlt
      have cR := bR1.cell
      have fR := bR1.frozen
      have cM := bM1.cell
      obtain ⟨q0, q1, q2, q3, q4, q5⟩ := bX.pk
      simp only [Nat.zero_add] at q1 q2 q3 q4 q5
      clear hsz
      by_cases hq : (l.f y.1).host = num
      · have hq' : ((l.f y.1).host != num) = false := by simpa using hq
        gi_wp2
        exact ⟨KeepsFrom.refl _ _, Below.refl _ _, ⟨⟨⟨fun z hz => (List.mem_append.1 hz).elim (hp z) (fun e => by simp at e; subst e; exact hq), bR1⟩, bM1⟩, hBW⟩⟩
      · have hq' : ((l.f y.1).host != num) = true := by simpa using hq
        gi_wp2
        exact ⟨(KeepsOthers.setCell _ _ _).from _, ⟨⟨rfl, y, List.mem_append.2 (.inr (by simp)), hq⟩, bR1.set _⟩, hBW.setCell (p := ⟨w.heap.size + 1 + 1, 0, none⟩) (show w.heap.size ≤ w.heap.size + 1 + 1 by omega) _⟩
    case done =>
      rintro D zs W hD hz ⟨⟨⟨hp, bR1⟩, bM1⟩, hBW⟩ hK
      have cR := bR1.cell
      have fR := bR1.frozen
      have hne : D ≠ w.heap.size + 1 + 1 := by omega
      have hK' : (W.setCell ⟨w.heap.size + 1 + 1, 0, none⟩ (.bool true)).heap[D]? = some (.deferred (some [])) := (Below.heap_setCell W ⟨w.heap.size + 1 + 1, 0, none⟩ _ D hne).trans hK
      have hbk : Below V0.heap.size (W.setCell ⟨w.heap.size + 1 + 1, 0, none⟩ (.bool true)) ((W.setCell ⟨w.heap.size + 1 + 1, 0, none⟩ (.bool true)).putObj D (.deferred none)) := belowK_b (w := V0) (Nat.le_refl _) _ D _ _ hD hK' rfl rfl
      have hE : hlB num l = true := decide_eq_true ⟨(HG.out).1, (HG.out).2, fun k hk => by
        have hm : k ∈ zs.map (·.1) := by rw [hz]; exact List.mem_range.2 hk
        obtain ⟨z, hz, rfl⟩ := List.mem_map.1 hm
        exact hp z hz⟩
      gi_wp2
      refine ⟨by simp, .inl ⟨_, _, rfl, run_takeDeferred hK', ?_⟩⟩
      exact ⟨_, ret_b1 Try.results59 rfl (boxed_below (bR1.set (.bool true)) hbk (by omega)), by rw [hE], ((hBW.setCell (p := ⟨w.heap.size + 1 + 1, 0, none⟩) (show w.heap.size ≤ w.heap.size + 1 + 1 by omega) _)).trans (hbk.mono (by omega))⟩
    case stop =>
      rintro D ex pre W hD hpre ⟨⟨⟨rfl, y, hy, hyb⟩, bR1⟩, hBW⟩ hK
      have cR := bR1.cell
      have hbk : Below V0.heap.size W (W.putObj D (.deferred none)) := belowK_b (w := V0) (Nat.le_refl _) _ D _ _ hD hK rfl rfl
      have hE : hlB num l = false := decide_eq_false fun h => hyb (h.2.2 y.1 y.2)
      gi_wp2
      refine ⟨by simp, .inl ⟨_, _, rfl, run_takeDeferred hK, ?_⟩⟩
      exact ⟨_, ret_b1 Try.results59 rfl (boxed_below bR1 hbk (by omega)), by rw [hE], hBW.trans (hbk.mono (by omega))⟩

end Go.Proofs.Ytmjggolllijamaa

/-
  WHO TAKES TURNS, AS THE PROGRAM SAYS: turnOk; shapeNumbersOk.
-/
namespace Go.Proofs.Ytmjggolllijamaa
open Go.RowKit
set_option linter.unusedVariables false

theorem field_list (v : Value) (w : World) : (Instr.field 102 (.agg #[v]) 0).run Try.prog w = .ok v w := by kernel_rfl

def turnB (L : Nat → Ln) (ts : List Int) : Bool := decide (turnP L ts)
theorem srt_pairwise {g : Nat → Int} {n : Nat} (h : srt g n) : ((List.range n).map g).Pairwise (· ≤ ·) := by
  rw [List.pairwise_map]
  refine (List.pairwise_lt_range (n := n)).imp_of_mem fun {a b} ha hb hab => ?_
  exact h a b hab (by simpa using hb)
/-- Sorted, Turn is just those that wait. -/
theorem turn_sorted {L : Nat → Ln} {ts : List Int} {g : Nat → Int} {n : Nat} (hp : ((List.range n).map g).Perm ts) (hs : srt g n) : decide ((List.range n).map g = wl L 4) = turnB L ts := by
  unfold turnB turnP
  apply decide_eq_decide.2
  constructor
  · intro h; rw [← h]; exact hp.symm
  · intro h
    exact List.Perm.eq_of_pairwise (le := fun a b => a ≤ b) (fun a b _ _ h1 h2 => by omega) (srt_pairwise hs) ((wl_sorted L 4).1.imp fun {a b} h => by omega) (hp.trans h)
theorem map_join (f : Nat → Int) (m : Nat) (v : Int) : (List.range (m + 1)).map (joinI f m fun _ => v) = (List.range m).map f ++ [v] := by
  rw [List.range_succ, List.map_append]
  congr 1
  · refine List.map_congr_left fun j hj => ?_
    unfold joinI; rw [if_pos (by simpa using hj)]
  · simp [joinI]

set_option maxRecDepth 100000 in
set_option maxHeartbeats 4000000 in
theorem iturnOk_any (s : Sh) (a : Option Addr) (ca : Nat) (b : Option Addr) (n c : Nat) (L : Nat → Ln) (tn : Nat → Int) (w : World)
    (hcn : cntF L 4 ≤ 1048576) (hnn : n ≤ 1048576) (hP : LR w.heap.size w a 4 L) (hb : Row .i64 w b n tn) :
    Calls Try.prog 58 #[shVal s a 4 ca b n c] w fun e w' => e = .returned (.bool (turnB L ((List.range n).map tn))) ∧ Below w.heap.size w w' := by
  have HP : Hid (LR w.heap.size w a 4 L) := hP
  have HRB : Hid (Row .i64 w b n tn) := hb
  have HCN : Hid (cntF L 4 ≤ 1048576) := hcn
  have HNN : Hid (n ≤ 1048576) := hnn
  have hni : (n : Int) ≤ 1048576 := by omega
  clear hP hb hcn hnn
  obtain ⟨W0, hW0⟩ : ∃ W, w.alloc (.cells (shCells s a 4 ca b n c) 29) = W := ⟨_, rfl⟩
  have s0 : Sits W0 w.heap.size (shCells s a 4 ca b n c) 29 := by rw [← hW0]; exact Sits.new _ _ _
  have b0 : Below w.heap.size w W0 := by rw [← hW0]; exact (Below.refl _ w).alloc (Nat.le_refl _) _
  have z0 : W0.heap.size = w.heap.size + 1 := by rw [← hW0]; simp
  have HW0 : Hid (w.alloc (.cells (shCells s a 4 ca b n c) 29) = W0) := hW0
  have HS0 : Hid (Sits _ _ _ _) := s0
  have HB0 : Hid (Below w.heap.size w W0) := b0
  have HZ0 : Hid (W0.heap.size = w.heap.size + 1) := z0
  have x5 := s0.cell 5
  have l0 := s0.lt
  clear s0 b0 hW0 z0
  have HBB : Hid (∀ w', Below W0.heap.size W0 w' → Below w.heap.size w w') := fun w' hw' => (HB0.out).trans (hw'.mono (HB0.out).size)
  go_enter Try.func58, Try.ntmps58
  go_upto_region 1 with fail
  rw [HW0.out]
  clear HW0
  go_wp2
  go_loopw [3, 10] (fun v i wr => ∃ (k : Nat) (x : Option Addr) (m cap : Nat) (f : Nat → Int), k ≤ 4 ∧ i = .int .i64 (k : Int) ∧ v = .slice x m cap ∧ JO W0.heap.size wr x m cap f ∧ (List.range m).map f = wl L k ∧ Below W0.heap.size W0 wr) (fun _ i _ => 4 - (intOf i).toNat)
  case atStart => exact ⟨0, none, 0, 0, fun _ => 0, Nat.zero_le _, rfl, rfl, JO.nil _ _ _, rfl, Below.refl _ _⟩
  case round =>
    obtain ⟨k, x, m, cap, f, hk, rfl, rfl, hjo, hwl, hB⟩ := hrel
    have HJ : Hid (JO W0.heap.size wr x m cap f) := hjo
    have HWL : Hid ((List.range m).map f = wl L k) := hwl
    have HB : Hid (Below W0.heap.size W0 wr) := hB
    have hm : m ≤ 4 := by have h1 := congrArg List.length hwl; have h2 := wl_len L k; simp at h1; omega
    have HM : Hid (m ≤ 4) := hm
    have hmi : (m : Int) ≤ 4 := by omega
    clear hjo hwl hm
    by_cases hlt : k < 4
    · obtain ⟨b1, off, rfl, hbl, hcs⟩ := LR.at HP.out hlt
      obtain ⟨y, cy, hat, hnc, hpr⟩ := hcs k hlt
      obtain ⟨c0, c1, c2, c3, c4, c5, c6, c7, c8⟩ := hat.below (HBB.out _ hB) hbl
      have hnk : (L k).n ≤ 1048576 := Nat.le_trans (cntF_le L hlt) HCN.out
      have hlti : (k : Int) < 4 := by omega
      clear hcs hat hpr hnc x5
      by_cases hz : (L k).n = 0
      · have hz' : decide ((0 : Int) < ((L k).n : Int)) = false := decide_eq_false (by omega)
        have HWN : Hid (wl L (k + 1) = wl L k) := by show _ = _; rw [wl_succ, if_pos hz]
        have hz2 : ¬ 0 < (L k).n := by omega
        clear hz
        go_wp2
        go_roundw
        case rel => exact ⟨k + 1, x, m, cap, f, by omega, by go_num, rfl, JO.alloc HJ.out _, by rw [HWN.out]; exact HWL.out, hB.alloc hB.size _⟩
        case measure => simp [intOf]; omega
      · have hz' : decide ((0 : Int) < ((L k).n : Int)) = true := decide_eq_true (by omega)
        have HWN : Hid (wl L (k + 1) = wl L k ++ [(k : Int)]) := by show _ = _; rw [wl_succ, if_neg hz]
        have hz2 : 0 < (L k).n := by omega
        clear hz
        obtain ⟨V, hV⟩ : ∃ V, (wr.alloc (.cells (lnCells y cy (L k)) 53)).alloc (.cells #[.int .i64 (k : Int)] 3) = V := ⟨_, rfl⟩
        have sV : Sits V (wr.heap.size + 1) #[.int .i64 (k : Int)] 3 := by rw [← hV]; exact Sits.new' (by simp)
        have bV : Below W0.heap.size W0 V := by rw [← hV]; exact (hB.alloc hB.size _).alloc (by simp; have := hB.size; omega) _
        have jV : JO W0.heap.size V x m cap f := by rw [← hV]; exact JO.alloc (JO.alloc HJ.out _) _
        have HV : Hid ((wr.alloc (.cells (lnCells y cy (L k)) 53)).alloc (.cells #[.int .i64 (k : Int)] 3) = V) := hV
        have HBV : Hid (Below W0.heap.size W0 V) := bV
        have HJV : Hid (JO W0.heap.size V x m cap f) := jV
        have HRV : Hid (Row .i64 V (some ⟨wr.heap.size + 1, 0, none⟩) 1 (fun _ => (k : Int))) := .inr ⟨wr.heap.size + 1, 0, rfl, sV.lt, fun i hi => by have e : i = 0 := (by omega); subst e; exact sV.cell 0⟩
        clear hV sV bV jV HJ
        go_wp2_with (at_builtin; rw [HV.out]; refine wpList_append_inN rfl _ _ rfl W0.heap.size x m cap f rfl HJV.out (some ⟨wr.heap.size + 1, 0, none⟩) 1 1 (fun _ => (k : Int)) rfl HRV.out (by have := HM.out; omega) (HBV.out).size ?_; intro x2 cap2 w2 hjo2 hgr2)
        have HB2 : Hid (Below W0.heap.size W0 w2) := Below.grown (B := W0.heap.size) (a := W0) HBV.out hgr2 (HBV.out).size (fun j e => (JO.own_lt HJV.out j e).1)
        go_roundw
        case rel => exact ⟨k + 1, x2, m + 1, cap2, joinI f m (fun _ => (k : Int)), by omega, by go_num, rfl, hjo2, by rw [HWN.out, map_join, HWL.out], HB2.out⟩
        case measure => simp [intOf]; omega
    · obtain rfl : k = 4 := by omega
      have s1 := Sits.below HS0.out hB l0
      have x6 := s1.cell 6
      clear s1 x5
      by_cases hnm : n = m
      case neg =>
        have hnm' : ((n : Int) != (m : Int)) = true := by simp; omega
        have HE : Hid (false = turnB L ((List.range n).map tn)) := by
          show _ = _; symm; unfold turnB; rw [decide_eq_false_iff_not]; intro h
          have h1 := h.length_eq
          rw [← HWL.out] at h1
          simp at h1
          exact hnm h1
        go_wp2
        go_ret
        exact ⟨ret_bool HE.out, HBB.out _ hB⟩
      case pos =>
      have HMN : Hid (n = m) := hnm
      subst hnm
      have hfl := field_list
      have HRB1 : Hid (Row .i64 wr b n tn) := Row.below HRB.out (HBB.out _ hB)
      by_cases hn0 : n = 0
      · subst hn0
        have HE : Hid (true = turnB L ((List.range 0).map tn)) := by
          show _ = _; symm; unfold turnB; exact decide_eq_true (show List.Perm _ _ by rw [← HWL.out]; exact List.Perm.refl _)
        go_wp2_with (first
          | (go_at_call 63; refine (ilistOf_any b 0 c tn _ HNN.out HRB1.out).mono ?_; rintro e w1 ⟨y, cy, rfl, hj1, hb1⟩)
          | (go_at_call 76; refine (isort_zero y cy _).mono ?_; rintro e w2 ⟨rfl, rfl⟩)
          | (go_at_call 77; refine (iequal_any y 0 cy tn x 0 cap f _ HNN.out HNN.out (.inl rfl) (.inl rfl)).mono ?_; rintro e w3 ⟨rfl, hb3⟩))
        go_ret
        refine ⟨ret_bool ?_, HBB.out _ ((HB.out).trans ((hb1.trans (hb3.mono hb1.size)).mono (HB.out).size))⟩
        rw [← HE.out]; simp [eqlB]
      · go_wp2_with (first
          | (go_at_call 63; refine (ilistOf_any b n c tn _ HNN.out HRB1.out).mono ?_; rintro e w1 ⟨y, cy, rfl, hj1, hb1⟩; obtain ⟨g0, hg0, hge, how⟩ : ∃ g, y = some ⟨g, 0, none⟩ ∧ wr.heap.size ≤ g ∧ Own .i64 w1 g n tn := (by rcases hj1.own with e | h; exact absurd e hn0; exact h); subst hg0; have HOW : Hid (Own .i64 w1 g0 n tn) := how; have HB1 : Hid (Below wr.heap.size wr w1) := hb1; have HGE : Hid (wr.heap.size ≤ g0) := hge; clear how hb1 hj1 hge)
          | (go_at_call 76; refine (isort_any g0 n cy tn _ (by have := HM.out; omega) HOW.out).mono ?_; rintro e w2 ⟨rfl, g, hog, hpm, hsr, hch⟩; have HB2 : Hid (Below wr.heap.size wr w2) := (show Below wr.heap.size wr w2 from Chg.bel hch HB1.out HGE.out); have HOG : Hid (Own .i64 w2 g0 n g) := hog; have HPM : Hid (((List.range n).map g).Perm ((List.range n).map tn)) := hpm; have HSR : Hid (srt g n) := hsr; clear hog hpm hsr hch)
          | (go_at_call 77; refine (iequal_any (some ⟨g0, 0, none⟩) n cy g x n cap f _ HNN.out HNN.out (.inr ⟨g0, 0, rfl, (HOG.out).1, fun i hi => by rw [Nat.zero_add]; exact ((HOG.out).2 i hi).1⟩) (Row.below (JO.row HJ.out) HB2.out)).mono ?_; rintro e w3 ⟨rfl, hb3⟩))
        go_ret
        refine ⟨ret_bool ?_, HBB.out _ ((HB.out).trans (((HB2.out).trans (hb3.mono (HB2.out).size)).mono (HB.out).size))⟩
        unfold eqlB
        rw [HWL.out]
        exact turn_sorted HPM.out HSR.out

def numB (s : Sh) : Bool := decide (numP s)

set_option maxHeartbeats 2000000 in
theorem inumOk_any (s : Sh) (a : Option Addr) (N ca : Nat) (b : Option Addr) (n c : Nat) (w : World) :
    Calls Try.prog 57 #[shVal s a N ca b n c] w fun e w' => e = .returned (.bool (numB s)) ∧ Below w.heap.size w w' := by
  obtain ⟨rt, ov, nx, qt, lim⟩ := s
  have s0 := Sits.new w (shCells ⟨rt, ov, nx, qt, lim⟩ a N ca b n c) 29
  have b0 : Below w.heap.size w (w.alloc (.cells (shCells ⟨rt, ov, nx, qt, lim⟩ a N ca b n c) 29)) := (Below.refl _ w).alloc (Nat.le_refl _) _
  have HB0 : Hid (Below _ _ _) := b0
  have HN : Hid (numB ⟨rt, ov, nx, qt, lim⟩ = (inB rt 1000 1000000000000 && inB ov 0 200 && inB nx 0 4000000000000 && inB qt 1 10000 && inB lim 1 40)) := by
    show _ = _
    unfold numB inB
    rw [Bool.eq_iff_iff]
    simp only [numP, Bool.and_eq_true, decide_eq_true_eq, and_assoc]
  have HC : inB rt 1000 1000000000000 = false ∨ (inB rt 1000 1000000000000 = true ∧ inB ov 0 200 = false) ∨ (inB rt 1000 1000000000000 = true ∧ inB ov 0 200 = true ∧ inB nx 0 4000000000000 = false) ∨ (inB rt 1000 1000000000000 = true ∧ inB ov 0 200 = true ∧ inB nx 0 4000000000000 = true ∧ inB qt 1 10000 = false) ∨ (inB rt 1000 1000000000000 = true ∧ inB ov 0 200 = true ∧ inB nx 0 4000000000000 = true ∧ inB qt 1 10000 = true) := by
    cases inB rt 1000 1000000000000 <;> cases inB ov 0 200 <;> cases inB nx 0 4000000000000 <;> cases inB qt 1 10000 <;> simp
  clear s0 b0
  rcases HC with h1 | ⟨h1, h2⟩ | ⟨h1, h2, h3⟩ | ⟨h1, h2, h3, h4⟩ | ⟨h1, h2, h3, h4⟩
  all_goals
    go_enter Try.func57, Try.ntmps57
    go_wp2_with (go_at_call 31; refine (within_any _ _ _ _).mono ?_; rintro e w' ⟨rfl, rfl⟩)
    all_goals
      go_ret
      refine ⟨ret_bool ?_, HB0.out⟩
      rw [HN.out]
      simp [*]

end Go.Proofs.Ytmjggolllijamaa

/-
  WHICH SHAPES ARE WELL, AS THE PROGRAM SAYS: ShapeOk.
-/
namespace Go.Proofs.Ytmjggolllijamaa
open Go.RowKit
set_option linter.unusedVariables false

def hllP (L : Nat → Ln) (k : Nat) : Prop := ∀ i : Nat, i < k → hlnP (i : Int) (L i)

set_option maxRecDepth 100000 in
set_option maxHeartbeats 8000000 in
theorem ishapeOk_any (s : Sh) (a : Option Addr) (N ca : Nat) (b : Option Addr) (n c : Nat) (L : Nat → Ln) (tn : Nat → Int) (w : World)
    (hN : N ≤ 1048576) (hcn : cntF L N ≤ 1048576) (hnn : n ≤ 1048576) (hP : LR w.heap.size w a N L) (hb : Row .i64 w b n tn) :
    Calls Try.prog 21 #[shVal s a N ca b n c] w fun e w' => e = .returned (.bool (shB s N L ((List.range n).map tn))) ∧ Below w.heap.size w w' := by
  obtain ⟨rt, ov, nx, qt, lim⟩ := s
  have HP : Hid (LR w.heap.size w a N L) := hP
  have HRB : Hid (Row .i64 w b n tn) := hb
  have HN : Hid (N ≤ 1048576) := hN
  have HCN : Hid (cntF L N ≤ 1048576) := hcn
  have HNN : Hid (n ≤ 1048576) := hnn
  have hNi : (N : Int) ≤ 1048576 := by omega
  clear hP hb hN hcn hnn
  obtain ⟨ts, hts⟩ : ∃ l, (List.range n).map tn = l := ⟨_, rfl⟩
  have HTS : Hid ((List.range n).map tn = ts) := hts
  rw [hts]
  clear hts
  obtain ⟨W0, hW0⟩ : ∃ W, w.alloc (.cells (shCells ⟨rt, ov, nx, qt, lim⟩ a N ca b n c) 29) = W := ⟨_, rfl⟩
  have s0 : Sits W0 w.heap.size (shCells ⟨rt, ov, nx, qt, lim⟩ a N ca b n c) 29 := by rw [← hW0]; exact Sits.new _ _ _
  have b0 : Below w.heap.size w W0 := by rw [← hW0]; exact (Below.refl _ w).alloc (Nat.le_refl _) _
  have HW0 : Hid (w.alloc (.cells (shCells ⟨rt, ov, nx, qt, lim⟩ a N ca b n c) 29) = W0) := hW0
  have HB0 : Hid (Below _ _ _) := b0
  have x0 := s0.cell 0
  have x1 := s0.cell 1
  have x2 := s0.cell 2
  have x3 := s0.cell 3
  have x4 := s0.cell 4
  have x5 := s0.cell 5
  have x6 := s0.cell 6
  have l0 := s0.lt
  clear s0 b0 hW0
  have HBB : Hid (∀ w', Below W0.heap.size W0 w' → Below w.heap.size w w') := fun w' hw' => (HB0.out).trans (hw'.mono (HB0.out).size)
  go_enter Try.func21, Try.ntmps21
  go_upto_region 1 with fail
  rw [HW0.out]
  clear HW0
  cases t0 : numB ⟨rt, ov, nx, qt, lim⟩
  case false =>
    have HE : Hid (false = shB ⟨rt, ov, nx, qt, lim⟩ N L ts) := sh_no (fun h => by have h1 := h.1; unfold numB at t0; simp [h1] at t0)
    refine wp_region_quiet (C := fun w' => Below W0.heap.size W0 w') (by kernel_rfl) (by kernel_rfl) ((Below.refl _ _).drew) ?_
    simp only []
    repeat (first
      | go_big_quiet_skip
      | (go_big_quiet_want
         unfold Oper.quiet
         apply Exists.intro
         refine ⟨fun w' hw' => ?_, ?_⟩
         (have z0 := (hw'.cell (p := ⟨w.heap.size, 0, none⟩) (by show w.heap.size < _; omega)).trans x0
          have z1 := (hw'.cell (p := ⟨w.heap.size, 1, none⟩) (by show w.heap.size < _; omega)).trans x1
          have z2 := (hw'.cell (p := ⟨w.heap.size, 2, none⟩) (by show w.heap.size < _; omega)).trans x2
          have z3 := (hw'.cell (p := ⟨w.heap.size, 3, none⟩) (by show w.heap.size < _; omega)).trans x3
          have z4 := (hw'.cell (p := ⟨w.heap.size, 4, none⟩) (by show w.heap.size < _; omega)).trans x4
          have z5 := (hw'.cell (p := ⟨w.heap.size, 5, none⟩) (by show w.heap.size < _; omega)).trans x5
          have z6 := (hw'.cell (p := ⟨w.heap.size, 6, none⟩) (by show w.heap.size < _; omega)).trans x6
          go_simp
          first
            | (go_at_call 57; refine (inumOk_any ⟨rt, ov, nx, qt, lim⟩ a N ca b n c _).mono ?_; rintro e w1 ⟨rfl, hb1⟩; exact ⟨by rw [t0], hw'.trans (hb1.mono hw'.size)⟩)
            | exact rfl)
         simp only [Act.put, List.setIfInBounds_toArray, List.set_cons_zero, List.set_cons_succ]
         go_big_quiet_on))
    refine wpQuiet_nil ?_
    intro w2 hw2
    go_wp2
    go_ret
    exact ⟨ret_bool HE.out, HBB.out _ hw2⟩
  case true =>
  by_cases t1 : N = 4
  case neg =>
    have t1' : ((N : Int) != 4) = true := by simp; omega
    have HE : Hid (false = shB ⟨rt, ov, nx, qt, lim⟩ N L ts) := sh_no (fun h => by exact t1 h.2.1)
    refine wp_region_quiet (C := fun w' => Below W0.heap.size W0 w') (by kernel_rfl) (by kernel_rfl) ((Below.refl _ _).drew) ?_
    simp only []
    repeat (first
      | go_big_quiet_skip
      | (go_big_quiet_want
         unfold Oper.quiet
         apply Exists.intro
         refine ⟨fun w' hw' => ?_, ?_⟩
         (have z0 := (hw'.cell (p := ⟨w.heap.size, 0, none⟩) (by show w.heap.size < _; omega)).trans x0
          have z1 := (hw'.cell (p := ⟨w.heap.size, 1, none⟩) (by show w.heap.size < _; omega)).trans x1
          have z2 := (hw'.cell (p := ⟨w.heap.size, 2, none⟩) (by show w.heap.size < _; omega)).trans x2
          have z3 := (hw'.cell (p := ⟨w.heap.size, 3, none⟩) (by show w.heap.size < _; omega)).trans x3
          have z4 := (hw'.cell (p := ⟨w.heap.size, 4, none⟩) (by show w.heap.size < _; omega)).trans x4
          have z5 := (hw'.cell (p := ⟨w.heap.size, 5, none⟩) (by show w.heap.size < _; omega)).trans x5
          have z6 := (hw'.cell (p := ⟨w.heap.size, 6, none⟩) (by show w.heap.size < _; omega)).trans x6
          go_simp
          first
            | (go_at_call 57; refine (inumOk_any ⟨rt, ov, nx, qt, lim⟩ a N ca b n c _).mono ?_; rintro e w1 ⟨rfl, hb1⟩; exact ⟨by rw [t0], hw'.trans (hb1.mono hw'.size)⟩)
            | exact rfl)
         simp only [Act.put, List.setIfInBounds_toArray, List.set_cons_zero, List.set_cons_succ]
         go_big_quiet_on))
    refine wpQuiet_nil ?_
    intro w2 hw2
    go_wp2
    go_ret
    exact ⟨ret_bool HE.out, HBB.out _ hw2⟩
  case pos =>
  subst t1
  by_cases t2 : lim < (cntF L 4 : Int)
  · have t2' : decide (lim < (cntF L 4 : Int)) = true := by simpa using t2
    have HE : Hid (false = shB ⟨rt, ov, nx, qt, lim⟩ 4 L ts) := sh_no (fun h => by have := h.2.2.1; dsimp only at this; omega)
    refine wp_region_quiet (C := fun w' => Below W0.heap.size W0 w') (by kernel_rfl) (by kernel_rfl) ((Below.refl _ _).drew) ?_
    simp only []
    repeat (first
      | go_big_quiet_skip
      | (go_big_quiet_want
         unfold Oper.quiet
         apply Exists.intro
         refine ⟨fun w' hw' => ?_, ?_⟩
         (have z0 := (hw'.cell (p := ⟨w.heap.size, 0, none⟩) (by show w.heap.size < _; omega)).trans x0
          have z1 := (hw'.cell (p := ⟨w.heap.size, 1, none⟩) (by show w.heap.size < _; omega)).trans x1
          have z2 := (hw'.cell (p := ⟨w.heap.size, 2, none⟩) (by show w.heap.size < _; omega)).trans x2
          have z3 := (hw'.cell (p := ⟨w.heap.size, 3, none⟩) (by show w.heap.size < _; omega)).trans x3
          have z4 := (hw'.cell (p := ⟨w.heap.size, 4, none⟩) (by show w.heap.size < _; omega)).trans x4
          have z5 := (hw'.cell (p := ⟨w.heap.size, 5, none⟩) (by show w.heap.size < _; omega)).trans x5
          have z6 := (hw'.cell (p := ⟨w.heap.size, 6, none⟩) (by show w.heap.size < _; omega)).trans x6
          go_simp
          first
            | (go_at_call 57; refine (inumOk_any ⟨rt, ov, nx, qt, lim⟩ a 4 ca b n c _).mono ?_; rintro e w1 ⟨rfl, hb1⟩; exact ⟨by rw [t0], hw'.trans (hb1.mono hw'.size)⟩)
            | (go_at_call 50; refine (icountOf_any a 4 ca L _ HN.out HCN.out (LR.go HP.out (HBB.out _ hw') (HBB.out _ hw').size)).mono ?_; rintro e w1 ⟨rfl, hb1⟩; exact ⟨rfl, hw'.trans (hb1.mono hw'.size)⟩)
            | exact rfl)
         simp only [Act.put, List.setIfInBounds_toArray, List.set_cons_zero, List.set_cons_succ]
         go_big_quiet_on))
    refine wpQuiet_nil ?_
    intro w2 hw2
    go_wp2
    go_ret
    exact ⟨ret_bool HE.out, HBB.out _ hw2⟩
  have t2' : decide (lim < (cntF L 4 : Int)) = false := by simpa using t2
  cases t3 : turnB L ts
  case false =>
    have HE : Hid (false = shB ⟨rt, ov, nx, qt, lim⟩ 4 L ts) := sh_no (fun h => by have h1 := h.2.2.2.1; unfold turnB at t3; simp [h1] at t3)
    refine wp_region_quiet (C := fun w' => Below W0.heap.size W0 w') (by kernel_rfl) (by kernel_rfl) ((Below.refl _ _).drew) ?_
    simp only []
    repeat (first
      | go_big_quiet_skip
      | (go_big_quiet_want
         unfold Oper.quiet
         apply Exists.intro
         refine ⟨fun w' hw' => ?_, ?_⟩
         (have z0 := (hw'.cell (p := ⟨w.heap.size, 0, none⟩) (by show w.heap.size < _; omega)).trans x0
          have z1 := (hw'.cell (p := ⟨w.heap.size, 1, none⟩) (by show w.heap.size < _; omega)).trans x1
          have z2 := (hw'.cell (p := ⟨w.heap.size, 2, none⟩) (by show w.heap.size < _; omega)).trans x2
          have z3 := (hw'.cell (p := ⟨w.heap.size, 3, none⟩) (by show w.heap.size < _; omega)).trans x3
          have z4 := (hw'.cell (p := ⟨w.heap.size, 4, none⟩) (by show w.heap.size < _; omega)).trans x4
          have z5 := (hw'.cell (p := ⟨w.heap.size, 5, none⟩) (by show w.heap.size < _; omega)).trans x5
          have z6 := (hw'.cell (p := ⟨w.heap.size, 6, none⟩) (by show w.heap.size < _; omega)).trans x6
          go_simp
          first
            | (go_at_call 57; refine (inumOk_any ⟨rt, ov, nx, qt, lim⟩ a 4 ca b n c _).mono ?_; rintro e w1 ⟨rfl, hb1⟩; exact ⟨by rw [t0], hw'.trans (hb1.mono hw'.size)⟩)
            | (go_at_call 50; refine (icountOf_any a 4 ca L _ HN.out HCN.out (LR.go HP.out (HBB.out _ hw') (HBB.out _ hw').size)).mono ?_; rintro e w1 ⟨rfl, hb1⟩; exact ⟨rfl, hw'.trans (hb1.mono hw'.size)⟩)
            | (go_at_call 58; refine (iturnOk_any ⟨rt, ov, nx, qt, lim⟩ a ca b n c L tn _ HCN.out HNN.out (LR.go HP.out (HBB.out _ hw') (HBB.out _ hw').size) (Row.below HRB.out (HBB.out _ hw'))).mono ?_; rintro e w1 ⟨rfl, hb1⟩; exact ⟨by rw [HTS.out, t3], hw'.trans (hb1.mono hw'.size)⟩)
            | exact rfl)
         simp only [Act.put, List.setIfInBounds_toArray, List.set_cons_zero, List.set_cons_succ]
         go_big_quiet_on))
    refine wpQuiet_nil ?_
    intro w2 hw2
    go_wp2
    go_ret
    exact ⟨ret_bool HE.out, HBB.out _ hw2⟩
  case true =>
  refine wp_region_quiet (C := fun w' => Below W0.heap.size W0 w') (by kernel_rfl) (by kernel_rfl) ((Below.refl _ _).drew) ?_
  simp only []
  repeat (first
    | go_big_quiet_skip
    | (go_big_quiet_want
       unfold Oper.quiet
       apply Exists.intro
       refine ⟨fun w' hw' => ?_, ?_⟩
       (have z0 := (hw'.cell (p := ⟨w.heap.size, 0, none⟩) (by show w.heap.size < _; omega)).trans x0
        have z1 := (hw'.cell (p := ⟨w.heap.size, 1, none⟩) (by show w.heap.size < _; omega)).trans x1
        have z2 := (hw'.cell (p := ⟨w.heap.size, 2, none⟩) (by show w.heap.size < _; omega)).trans x2
        have z3 := (hw'.cell (p := ⟨w.heap.size, 3, none⟩) (by show w.heap.size < _; omega)).trans x3
        have z4 := (hw'.cell (p := ⟨w.heap.size, 4, none⟩) (by show w.heap.size < _; omega)).trans x4
        have z5 := (hw'.cell (p := ⟨w.heap.size, 5, none⟩) (by show w.heap.size < _; omega)).trans x5
        have z6 := (hw'.cell (p := ⟨w.heap.size, 6, none⟩) (by show w.heap.size < _; omega)).trans x6
        go_simp
        first
          | (go_at_call 57; refine (inumOk_any ⟨rt, ov, nx, qt, lim⟩ a 4 ca b n c _).mono ?_; rintro e w1 ⟨rfl, hb1⟩; exact ⟨by rw [t0], hw'.trans (hb1.mono hw'.size)⟩)
          | (go_at_call 50; refine (icountOf_any a 4 ca L _ HN.out HCN.out (LR.go HP.out (HBB.out _ hw') (HBB.out _ hw').size)).mono ?_; rintro e w1 ⟨rfl, hb1⟩; exact ⟨rfl, hw'.trans (hb1.mono hw'.size)⟩)
          | (go_at_call 58; refine (iturnOk_any ⟨rt, ov, nx, qt, lim⟩ a ca b n c L tn _ HCN.out HNN.out (LR.go HP.out (HBB.out _ hw') (HBB.out _ hw').size) (Row.below HRB.out (HBB.out _ hw'))).mono ?_; rintro e w1 ⟨rfl, hb1⟩; exact ⟨by rw [HTS.out, t3], hw'.trans (hb1.mono hw'.size)⟩)
          | exact rfl)
       simp only [Act.put, List.setIfInBounds_toArray, List.set_cons_zero, List.set_cons_succ]
       go_big_quiet_on))
  refine wpQuiet_nil ?_
  intro w2 hw2
  have HNUM : Hid (numP ⟨rt, ov, nx, qt, lim⟩) := (show numP ⟨rt, ov, nx, qt, lim⟩ by have h1 := t0; unfold numB at h1; simpa using h1)
  have HTU : Hid (turnP L ts) := (show turnP L ts by have h1 := t3; unfold turnB at h1; simpa using h1)
  have HCL : Hid ((cntF L 4 : Int) ≤ lim) := by show _ ≤ _; omega
  have zz := (hw2.cell (p := ⟨w.heap.size, 5, none⟩) l0).trans x5
  have HW2 : Hid (Below W0.heap.size W0 w2) := hw2
  clear hw2 t0 t2 t2' t3
  go_wp2
  go_loopw [30] (fun i wr => ∃ k : Nat, k ≤ 4 ∧ i = .int .i64 (k : Int) ∧ hllP L k ∧ Below W0.heap.size W0 wr) (fun i _ => 4 - (intOf i).toNat)
  case atStart => exact ⟨0, Nat.zero_le _, rfl, fun i hi => absurd hi (Nat.not_lt_zero _), HW2.out⟩
  case round =>
    obtain ⟨k, hk, rfl, hall, hB⟩ := hrel
    have HA : Hid (hllP L k) := hall
    have HB : Hid (Below W0.heap.size W0 wr) := hB
    clear hall zz HW2
    by_cases hlt : k < 4
    · obtain ⟨b1, off, rfl, hbl, hcs⟩ := LR.at HP.out hlt
      obtain ⟨x, cx, hat, hnc, hpr⟩ := hcs k hlt
      have hBw := HBB.out _ hB
      obtain ⟨c0, c1, c2, c3, c4, c5, c6, c7, c8⟩ := hat.below hBw hbl
      have HPR : Hid (PR w.heap.size w x (L k).n (L k).f) := hpr
      have HNK : Hid ((L k).n ≤ 1048576) := Nat.le_trans (cntF_le L hlt) HCN.out
      have HNC : Hid ((L k).n ≤ cx) := hnc
      have hlti : (k : Int) < 4 := by omega
      clear hcs hat hpr hnc hB hBw
      go_upto_region 6 with fail
      obtain ⟨v, hv⟩ : ∃ v, wr.alloc (.cells (lnCells x cx (L k)) 53) = v := ⟨_, rfl⟩
      have sv : Sits v wr.heap.size (lnCells x cx (L k)) 53 := by rw [← hv]; exact Sits.new _ _ _
      have bv : Below W0.heap.size W0 v := by rw [← hv]; exact (HB.out).alloc (HB.out).size _
      rw [hv]
      obtain ⟨B, hBq⟩ : ∃ B, wr.heap.size = B := ⟨_, rfl⟩
      rw [hBq] at sv ⊢
      have HBV : Hid (Below W0.heap.size W0 v) := bv
      have y0 := sv.cell 0
      have y1 := sv.cell 1
      have y2 := sv.cell 2
      have y3 := sv.cell 3
      have y4 := sv.cell 4
      have y5 := sv.cell 5
      have y6 := sv.cell 6
      have y7 := sv.cell 7
      have y8 := sv.cell 8
      clear hv sv bv hBq HB c0 c1 c2 c3 c4 c5 c6 c7 c8
      cases hf : hlB (k : Int) (L k)
      case false =>
        have HE : Hid (false = shB ⟨rt, ov, nx, qt, lim⟩ 4 L ts) := sh_no (fun h => by have := hl_iff.1 (h.2.2.2.2 k hlt); unfold hlB at hf; simp [this] at hf)
        go_wp2_with (go_at_call 59; refine (ihostLineOk_any x cx (L k) (k : Int) _ HNK.out HNC.out ((PR.below HPR.out (HBB.out _ HBV.out)).mono (HBB.out _ HBV.out).size)).mono ?_; rintro e w3 ⟨rfl, b3⟩; rw [hf]; have HB3 : Hid (Below W0.heap.size W0 w3) := (HBV.out).trans (b3.mono (HBV.out).size); clear b3)
        go_ret
        exact ⟨ret_bool HE.out, HBB.out _ HB3.out⟩
      case true =>
        have HFL : Hid (hlnP (k : Int) (L k)) := (show hlnP (k : Int) (L k) by have hf2 := hf; unfold hlB at hf2; exact hl_iff.2 (by simpa using hf2))
        go_wp2_with (go_at_call 59; refine (ihostLineOk_any x cx (L k) (k : Int) _ HNK.out HNC.out ((PR.below HPR.out (HBB.out _ HBV.out)).mono (HBB.out _ HBV.out).size)).mono ?_; rintro e w3 ⟨rfl, b3⟩; rw [hf]; have HB3 : Hid (Below W0.heap.size W0 w3) := (HBV.out).trans (b3.mono (HBV.out).size); clear b3)
        go_roundw
        case rel => exact ⟨k + 1, by omega, by go_num, fun i hi => by by_cases e : i = k; · rw [e]; exact HFL.out
                                                                      · exact HA.out i (by omega), HB3.out⟩
        case measure => simp [intOf]; omega
    · obtain rfl : k = 4 := by omega
      have HE : Hid (true = shB ⟨rt, ov, nx, qt, lim⟩ 4 L ts) := sh_yes ⟨HNUM.out, rfl, HCL.out, HTU.out, HA.out⟩
      go_wp2
      go_ret
      exact ⟨ret_bool HE.out, HBB.out _ hB⟩

end Go.Proofs.Ytmjggolllijamaa

/-
  WHEN A SHAPER IS READY; A NEW ONE: Ready AND ShapeNew OF BOTH SIDES.
-/
namespace Go.Proofs.Ytmjggolllijamaa
open Go.RowKit
set_option linter.unusedVariables false

/-- May a packet go, and when? -/
def rdyB (s : Sh) (N : Nat) (L : Nat → Ln) (ts : List Int) : Bool := shB s N L ts && decide (ts ≠ [])
def rdyV (s : Sh) (N : Nat) (L : Nat → Ln) (ts : List Int) : Int := if rdyB s N L ts then s.nx else 0
theorem rdy_no {s : Sh} {N : Nat} {L : Nat → Ln} {ts : List Int} (h : rdyB s N L ts = false) : Value.tuple #[.int .i64 0, .bool false] = .tuple #[.int .i64 (rdyV s N L ts), .bool (rdyB s N L ts)] := by unfold rdyV; rw [h]; rfl
theorem rdy_yes {s : Sh} {N : Nat} {L : Nat → Ln} {ts : List Int} (h : rdyB s N L ts = true) : Value.tuple #[.int .i64 s.nx, .bool true] = .tuple #[.int .i64 (rdyV s N L ts), .bool (rdyB s N L ts)] := by unfold rdyV; rw [h]; rfl
theorem rets {v v' : Value} (h : v = v') : Ending.returned v = Ending.returned v' := by rw [h]

theorem iready_any (s : Sh) (a : Option Addr) (N ca : Nat) (b : Option Addr) (n c : Nat) (L : Nat → Ln) (tn : Nat → Int) (w : World)
    (hN : N ≤ 1048576) (hcn : cntF L N ≤ 1048576) (hnn : n ≤ 1048576) (hP : LR w.heap.size w a N L) (hb : Row .i64 w b n tn) :
    Calls Try.prog 23 #[shVal s a N ca b n c] w fun e w' => e = .returned (.tuple #[.int .i64 (rdyV s N L ((List.range n).map tn)), .bool (rdyB s N L ((List.range n).map tn))]) ∧ Below w.heap.size w w' := by
  have HP : Hid (LR w.heap.size w a N L) := hP
  have HRB : Hid (Row .i64 w b n tn) := hb
  have HN : Hid (N ≤ 1048576) := hN
  have HCN : Hid (cntF L N ≤ 1048576) := hcn
  have HNN : Hid (n ≤ 1048576) := hnn
  have HTN : Hid (((List.range n).map tn = []) ↔ n = 0) := (show ((List.range n).map tn = []) ↔ n = 0 by simp)
  clear hP hb hN hcn hnn
  obtain ⟨ts, hts⟩ : ∃ l, (List.range n).map tn = l := ⟨_, rfl⟩
  have HTS : Hid ((List.range n).map tn = ts) := hts
  rw [hts] at HTN ⊢
  clear hts
  obtain ⟨W0, hW0⟩ : ∃ W, w.alloc (.cells (shCells s a N ca b n c) 29) = W := ⟨_, rfl⟩
  have s0 : Sits W0 w.heap.size (shCells s a N ca b n c) 29 := by rw [← hW0]; exact Sits.new _ _ _
  have b0 : Below w.heap.size w W0 := by rw [← hW0]; exact (Below.refl _ w).alloc (Nat.le_refl _) _
  have HW0 : Hid (w.alloc (.cells (shCells s a N ca b n c) 29) = W0) := hW0
  have HS0 : Hid (Sits _ _ _ _) := s0
  have HB0 : Hid (Below _ _ _) := b0
  have x0 := s0.cell 0
  have x1 := s0.cell 1
  have x2 := s0.cell 2
  have x3 := s0.cell 3
  have x4 := s0.cell 4
  have x5 := s0.cell 5
  have x6 := s0.cell 6
  clear s0 b0 hW0
  cases t0 : shB s N L ts
  case false =>
    have HE : Hid (rdyB s N L ts = false) := by show _ = _; unfold rdyB; rw [t0]; rfl
    go_enter Try.func23, Try.ntmps23
    go_upto_region 1 with fail
    rw [HW0.out]
    go_wp2_with (go_at_call 21; refine (ishapeOk_any s a N ca b n c L tn _ HN.out HCN.out HNN.out (LR.go HP.out HB0.out (HB0.out).size) (Row.below HRB.out HB0.out)).mono ?_; rintro e w1 ⟨rfl, b1⟩; rw [HTS.out, t0])
    exact bodyPost_ret (v := .tuple #[.int .i64 0, .bool false]) (by simp [results, Try.results23, go_sem]) rfl ⟨rets (rdy_no HE.out), (HB0.out).trans (b1.mono (HB0.out).size)⟩
  case true =>
  by_cases t1 : n = 0
  · have t1' : ((n : Int) == 0) = true := by simpa using t1
    have HE : Hid (rdyB s N L ts = false) := by show _ = _; unfold rdyB; rw [t0, (HTN.out).2 t1]; rfl
    clear t1
    go_enter Try.func23, Try.ntmps23
    go_upto_region 1 with fail
    rw [HW0.out]
    go_wp2_with (go_at_call 21; refine (ishapeOk_any s a N ca b n c L tn _ HN.out HCN.out HNN.out (LR.go HP.out HB0.out (HB0.out).size) (Row.below HRB.out HB0.out)).mono ?_; rintro e w1 ⟨rfl, b1⟩; rw [HTS.out, t0]; have s1 := Sits.below HS0.out b1 (Sits.lt HS0.out); have z6 := s1.cell 6; have z2 := s1.cell 2; clear s1)
    exact bodyPost_ret (v := .tuple #[.int .i64 0, .bool false]) (by simp [results, Try.results23, go_sem]) rfl ⟨rets (rdy_no HE.out), (HB0.out).trans (b1.mono (HB0.out).size)⟩
  · have t1' : ((n : Int) == 0) = false := by simpa using t1
    have HE : Hid (rdyB s N L ts = true) := by
      show _ = _; unfold rdyB; rw [t0]
      have : ts ≠ [] := fun e => t1 ((HTN.out).1 e)
      simp [this]
    go_enter Try.func23, Try.ntmps23
    go_upto_region 1 with fail
    rw [HW0.out]
    go_wp2_with (go_at_call 21; refine (ishapeOk_any s a N ca b n c L tn _ HN.out HCN.out HNN.out (LR.go HP.out HB0.out (HB0.out).size) (Row.below HRB.out HB0.out)).mono ?_; rintro e w1 ⟨rfl, b1⟩; rw [HTS.out, t0]; have s1 := Sits.below HS0.out b1 (Sits.lt HS0.out); have z6 := s1.cell 6; have z2 := s1.cell 2; clear s1)
    exact bodyPost_ret (v := .tuple #[.int .i64 s.nx, .bool true]) (by simp [results, Try.results23, go_sem]) rfl ⟨rets (rdy_yes HE.out), (HB0.out).trans (b1.mono (HB0.out).size)⟩

end Go.Proofs.Ytmjggolllijamaa

/-
  WHAT PACKETS COST: costsOf, Cost OF BOTH SIDES.
-/
namespace Go.Proofs.Ytmjggolllijamaa
open Go.RowKit Go.Maps
set_option linter.unusedVariables false

theorem lawInt : Keyed Try.prog 3 := int_keyed Try.underlying3
theorem zeroInt (w : World) : (zeroValue 3).run Try.prog w = .ok (.int .i64 0) w := by kernel_rfl
theorem ownsMap_below {H : Type} {P : Program} {k : TypeId} {R : Value → Option (DataW H × List MemPlace)} {w w' : World} {b n : Nat} {D : DataW H} (h : w.ownsMap P k R b n D) (hb : Below w.heap.size w w') : w'.ownsMap P k R b n D := by
  have hlt := h.lt
  obtain ⟨es, clock, h1, F, hs, hD⟩ := h
  exact ⟨es, clock, (hb.block b hlt).trans h1, F, hs, hD⟩
theorem keyLit (x : Int) : WideAt.IsKeyLit (.int .i64 x) := trivial
theorem has_next {D : DataW Unit} {f : Nat → Int} {k : Nat} (h : ∀ i, i < k → Maps.has D (.int .i64 (f i)) = true) (h2 : Maps.has D (.int .i64 (f k)) = true) : ∀ i, i < k + 1 → Maps.has D (.int .i64 (f i)) = true := fun i hi => by
  by_cases e : i = k
  · rw [e]; exact h2
  · exact h i (by omega)
/-- Each size that is there has its cost. -/
def Priced (s : Sh) (D : DataW Unit) : Prop := ∀ x : Int, Maps.has D (.int .i64 x) = true → D.atKey (.int .i64 x) (.lit (.int .i64 0)) = .lit (.int .i64 (costF s x))
theorem Priced.put {s : Sh} {D : DataW Unit} (h : Priced s D) (hm : IsMap D) (x : Int) : Priced s (D.put (.int .i64 x) (.lit (.int .i64 (costF s x)))) := by
  intro y hy
  by_cases e : y = x
  · subst e
    exact atKey_put_same hm (keyLit _) _ _
  · have hne : (Lit.int .i64 y) ≠ (Lit.int .i64 x) := by simpa using e
    rw [has_put_other hne] at hy
    rw [atKey_put_other hne]
    exact h y hy
theorem has_put_keep {D : DataW Unit} (hm : IsMap D) (x y : Int) (d : DataW Unit) (h : Maps.has D (.int .i64 y) = true) : Maps.has (D.put (.int .i64 x) d) (.int .i64 y) = true := by
  by_cases e : y = x
  · subst e; exact has_put_same hm (keyLit _) _
  · rw [has_put_other (by simpa using e)]; exact h

set_option maxRecDepth 100000 in
set_option maxHeartbeats 2000000 in
theorem icostsOf_any (s : Sh) (a : Option Addr) (N ca : Nat) (b : Option Addr) (n c : Nat) (z : Option Addr) (m cz : Nat) (f : Nat → Int) (w : World) (hs : numP s) (hm : m ≤ 1048576) (hr : Row .i64 w z m f) (hf : ∀ i, i < m → 1 ≤ f i ∧ f i ≤ 2000) :
    Calls Try.prog 33 #[shVal s a N ca b n c, .slice z m cz] w fun e w' => ∃ (B : Nat) (D : DataW Unit), e = .returned (.map (some B)) ∧ w'.ownsMap Try.prog 3 (plainElem Try.prog 3) B m D ∧ Priced s D ∧ (∀ i, i < m → Maps.has D (.int .i64 (f i)) = true) ∧ Below w.heap.size w w' := by
  obtain ⟨⟨r0, r1⟩, ⟨o0, o1⟩, _⟩ := hs
  have HR : Hid (Row .i64 w z m f) := hr
  have HF : Hid (∀ i, i < m → 1 ≤ f i ∧ f i ≤ 2000) := hf
  have hmi : (m : Int) ≤ 1048576 := by omega
  clear hr hf
  obtain ⟨W0, hW0⟩ : ∃ W, w.alloc (.cells (shCells s a N ca b n c) 29) = W := ⟨_, rfl⟩
  have s0 : Sits W0 w.heap.size (shCells s a N ca b n c) 29 := by rw [← hW0]; exact Sits.new _ _ _
  have b0 : Below w.heap.size w W0 := by rw [← hW0]; exact (Below.refl _ w).alloc (Nat.le_refl _) _
  have HW0 : Hid (w.alloc (.cells (shCells s a N ca b n c) 29) = W0) := hW0
  have HS0 : Hid (Sits _ _ _ _) := s0
  have HB0 : Hid (Below w.heap.size w W0) := b0
  clear s0 b0 hW0
  have HBB : Hid (∀ w', Below W0.heap.size W0 w' → Below w.heap.size w w') := fun w' hw' => (HB0.out).trans (hw'.mono (HB0.out).size)
  have hmm := @run_makeMap Try.prog
  go_enter Try.func33, Try.ntmps33
  go_upto_region 1 with fail
  rw [HW0.out]
  clear HW0
  go_wp2
  go_loopw [13] (fun i wr => ∃ (k : Nat) (D : DataW Unit), k ≤ m ∧ i = .int .i64 (k : Int) ∧ wr.ownsMap Try.prog 3 (plainElem Try.prog 3) W0.heap.size k D ∧ Priced s D ∧ (∀ i, i < k → Maps.has D (.int .i64 (f i)) = true) ∧ Below W0.heap.size W0 wr) (fun i _ => m - (intOf i).toNat)
  case atStart => exact ⟨0, .map [], Nat.zero_le _, rfl, World.ownsMap_made _ _ _ _, (fun x hx => by cases hx), (fun i hi => absurd hi (Nat.not_lt_zero _)), (Below.refl _ _).alloc (Nat.le_refl _) _⟩
  case round =>
    obtain ⟨k, D, hk, rfl, hown, hpr, hhas, hB⟩ := hrel
    have HPR : Hid (Priced s D) := hpr
    have HHAS : Hid (∀ i, i < k → Maps.has D (.int .i64 (f i)) = true) := hhas
    have HB : Hid (Below W0.heap.size W0 wr) := hB
    have HOWN : Hid (wr.ownsMap Try.prog 3 (plainElem Try.prog 3) W0.heap.size k D) := hown
    have HIM : Hid (IsMap D) := hown.isMap
    clear hpr hhas hown
    by_cases hlt : k < m
    · obtain ⟨b1, off, rfl, hbl, hcs⟩ := Row.at HR.out hlt
      have c1 := ((HBB.out _ hB).cell (p := ⟨b1, off + k, none⟩) hbl).trans (hcs k hlt)
      obtain ⟨f0, f1⟩ := HF.out k hlt
      obtain ⟨v, hv⟩ : ∃ v, f k = v := ⟨_, rfl⟩
      rw [hv] at c1 f0 f1
      have HV : Hid (f k = v) := hv
      have hlti : (k : Int) < m := by omega
      have hkey : keyOf Try.prog 3 (.int .i64 v) = some (.int .i64 v) := keyOf_int_mk Try.underlying3 (WalkArith.wf_i64 (by omega))
      have HKEY : Hid (keyOf Try.prog 3 (.int .i64 v) = some (.int .i64 v)) := hkey
      clear hcs hv hkey hB
      cases hh : Maps.has D (.int .i64 v)
      case true =>
        go_wp2_with (at_lookup; refine wpList_lookup_own_ok_int _ rfl _ _ 69 rfl 3 3 .i64 lawInt Try.underlying69 Try.underlying3 (zeroInt _) W0.heap.size k D rfl HOWN.out _ _ rfl HKEY.out ?_; intro c0 hat hwc; rw [hh]; clear hat hwc)
        go_roundw
        case rel => exact ⟨k + 1, D, by omega, by go_num, (HOWN.out).mono (Nat.le_succ _), HPR.out, has_next HHAS.out (by rw [HV.out]; exact hh), HB.out⟩
        case measure => simp [intOf]; omega
      case false =>
        have s1 := Sits.below HS0.out HB.out (Sits.lt HS0.out)
        have x0 := s1.cell 0
        have x1 := s1.cell 1
        clear s1
        obtain ⟨q0, q1⟩ := cost_small r0 r1 o0 o1 f0 f1
        have HC : Hid ((v + s.ov) * 1000000000 / s.rt < 9223372036854775807) := by show _ < _; omega
        have HWF : Hid ((Lit.int .i64 (upF ((v + s.ov) * 1000000000) s.rt)).wf = true) := by have := up_small q0 q1; exact WalkArith.wf_i64 (by omega)
        clear q0 q1
        go_wp2_with (first
          | (at_lookup; refine wpList_lookup_own_ok_int _ rfl _ _ 69 rfl 3 3 .i64 lawInt Try.underlying69 Try.underlying3 (zeroInt _) W0.heap.size k D rfl HOWN.out _ _ rfl HKEY.out ?_; intro c0 hat hwc; rw [hh]; clear hat hwc)
          | (go_at_call 65; refine (timeOf_impl_ok (v + s.ov) s.rt (by omega) (by omega) (by omega) (by omega) HC.out _).mono ?_; rintro e w1 ⟨rfl, hk1⟩; have HB1 : Hid (Below wr.heap.size wr w1) := hk1.1; clear hk1)
          | (at_mapUpdate; refine wpList_mapUpdate_own _ rfl _ _ _ 69 rfl 3 3 lawInt Try.underlying69 (plainElem (H := Unit) Try.prog 3) W0.heap.size k D rfl (ownsMap_below HOWN.out HB1.out) (by unfold maxLen; omega) _ _ _ rfl rfl HKEY.out _ [] (plainElem_int Try.underlying3 HWF.out) ?_; intro w2 hown2 hgrow2))
        have hb1 : Below W0.heap.size W0 w1 := (HB.out).trans ((HB1.out).mono (HB.out).size)
        have hb2 : Below W0.heap.size W0 w2 := hb1.grown hgrow2 hb1.size (fun j hj => by cases hj; exact Nat.le_refl _)
        go_roundw
        case rel => exact ⟨k + 1, D.put (.int .i64 v) (.lit (.int .i64 (costF s v))), by omega, by go_num, hown2, (HPR.out).put HIM.out v, has_next (fun i hi => has_put_keep HIM.out _ _ _ (HHAS.out i hi)) (by rw [HV.out]; exact has_put_same HIM.out (keyLit _) _), hb2⟩
        case measure => simp [intOf]; omega
    · obtain rfl : k = m := by omega
      go_wp2
      go_ret
      exact ⟨_, D, rfl, HOWN.out, HPR.out, HHAS.out, HBB.out _ hB⟩

/-- Does a packet of v bytes cost anything, and how much? -/
def cstB (s : Sh) (N : Nat) (L : Nat → Ln) (ts : List Int) (v : Int) : Bool := shB s N L ts && decide (1 ≤ v ∧ v ≤ 2000)
def cstV (s : Sh) (N : Nat) (L : Nat → Ln) (ts : List Int) (v : Int) : Int := if cstB s N L ts v then costF s v else 0
theorem cst_no {s : Sh} {N : Nat} {L : Nat → Ln} {ts : List Int} {v : Int} (h : cstB s N L ts v = false) : Value.tuple #[.int .i64 0, .bool false] = .tuple #[.int .i64 (cstV s N L ts v), .bool (cstB s N L ts v)] := by unfold cstV; rw [h]; rfl
theorem cst_yes {s : Sh} {N : Nat} {L : Nat → Ln} {ts : List Int} {v : Int} (h : cstB s N L ts v = true) : Value.tuple #[.int .i64 (costF s v), .bool true] = .tuple #[.int .i64 (cstV s N L ts v), .bool (cstB s N L ts v)] := by unfold cstV; rw [h]; rfl

set_option maxRecDepth 100000 in
set_option maxHeartbeats 1000000 in
theorem icost_any (s : Sh) (a : Option Addr) (N ca : Nat) (b : Option Addr) (n c : Nat) (L : Nat → Ln) (tn : Nat → Int) (v : Int) (w : World)
    (hN : N ≤ 1048576) (hcn : cntF L N ≤ 1048576) (hnn : n ≤ 1048576) (hP : LR w.heap.size w a N L) (hb : Row .i64 w b n tn) :
    Calls Try.prog 24 #[shVal s a N ca b n c, .int .i64 v] w fun e w' => e = .returned (.tuple #[.int .i64 (cstV s N L ((List.range n).map tn) v), .bool (cstB s N L ((List.range n).map tn) v)]) ∧ Below w.heap.size w w' := by
  have HP : Hid (LR w.heap.size w a N L) := hP
  have HRB : Hid (Row .i64 w b n tn) := hb
  have HN : Hid (N ≤ 1048576) := hN
  have HCN : Hid (cntF L N ≤ 1048576) := hcn
  have HNN : Hid (n ≤ 1048576) := hnn
  clear hP hb hN hcn hnn
  obtain ⟨ts, hts⟩ : ∃ l, (List.range n).map tn = l := ⟨_, rfl⟩
  have HTS : Hid ((List.range n).map tn = ts) := hts
  rw [hts]
  clear hts
  obtain ⟨W0, hW0⟩ : ∃ W, w.alloc (.cells (shCells s a N ca b n c) 29) = W := ⟨_, rfl⟩
  have s0 : Sits W0 w.heap.size (shCells s a N ca b n c) 29 := by rw [← hW0]; exact Sits.new _ _ _
  have b0 : Below w.heap.size w W0 := by rw [← hW0]; exact (Below.refl _ w).alloc (Nat.le_refl _) _
  have HW0 : Hid (w.alloc (.cells (shCells s a N ca b n c) 29) = W0) := hW0
  have HS0 : Hid (Sits _ _ _ _) := s0
  have HB0 : Hid (Below w.heap.size w W0) := b0
  have x0 := s0.cell 0
  have x1 := s0.cell 1
  have x2 := s0.cell 2
  have x3 := s0.cell 3
  have x4 := s0.cell 4
  have x5 := s0.cell 5
  have x6 := s0.cell 6
  clear s0 b0 hW0
  cases t0 : shB s N L ts
  case false =>
    have HE : Hid (cstB s N L ts v = false) := by show _ = _; unfold cstB; rw [t0]; rfl
    go_enter Try.func24, Try.ntmps24
    go_upto_region 1 with fail
    rw [HW0.out]
    go_wp2_with (go_at_call 21; refine (ishapeOk_any s a N ca b n c L tn _ HN.out HCN.out HNN.out (LR.go HP.out HB0.out (HB0.out).size) (Row.below HRB.out HB0.out)).mono ?_; rintro e w1 ⟨rfl, b1⟩; rw [HTS.out, t0]; have HB1 : Hid (Below w.heap.size w w1) := (HB0.out).trans (b1.mono (HB0.out).size); have HS1 : Hid (Sits w1 w.heap.size (shCells s a N ca b n c) 29) := Sits.below HS0.out b1 (Sits.lt HS0.out); clear b1)
    exact bodyPost_ret (v := .tuple #[.int .i64 0, .bool false]) (by simp [results, Try.results24, go_sem]) rfl ⟨rets (cst_no HE.out), HB1.out⟩
  case true =>
  cases t1 : inB v 1 2000
  case false =>
    have HE : Hid (cstB s N L ts v = false) := by show _ = _; unfold cstB; rw [t0]; unfold inB at t1; simp at t1 ⊢; omega
    go_enter Try.func24, Try.ntmps24
    go_upto_region 1 with fail
    rw [HW0.out]
    go_wp2_with (first | (go_at_call 21; refine (ishapeOk_any s a N ca b n c L tn _ HN.out HCN.out HNN.out (LR.go HP.out HB0.out (HB0.out).size) (Row.below HRB.out HB0.out)).mono ?_; rintro e w1 ⟨rfl, b1⟩; rw [HTS.out, t0]; have HB1 : Hid (Below w.heap.size w w1) := (HB0.out).trans (b1.mono (HB0.out).size); have HS1 : Hid (Sits w1 w.heap.size (shCells s a N ca b n c) 29) := Sits.below HS0.out b1 (Sits.lt HS0.out); clear b1) | (go_at_call 31; refine (within_any _ _ _ _).mono ?_; rintro e w9 ⟨rfl, hw9⟩; replace hw9 := hw9.symm; subst hw9; rw [t1]))
    exact bodyPost_ret (v := .tuple #[.int .i64 0, .bool false]) (by simp [results, Try.results24, go_sem]) rfl ⟨rets (cst_no HE.out), HB1.out⟩
  case true =>
  have t1' : 1 ≤ v ∧ v ≤ 2000 := by unfold inB at t1; simpa using t1
  have HE : Hid (cstB s N L ts v = true) := by show _ = _; unfold cstB; rw [t0]; simp; omega
  have HNUM : Hid (numP s) := (show numP s by have h1 := t0; unfold shB at h1; exact (of_decide_eq_true h1).1)
  go_enter Try.func24, Try.ntmps24
  go_upto_region 1 with fail
  rw [HW0.out]
  go_upto_region 3 with (first | (go_at_call 21; refine (ishapeOk_any s a N ca b n c L tn _ HN.out HCN.out HNN.out (LR.go HP.out HB0.out (HB0.out).size) (Row.below HRB.out HB0.out)).mono ?_; rintro e w1 ⟨rfl, b1⟩; rw [HTS.out, t0]; have HB1 : Hid (Below w.heap.size w w1) := (HB0.out).trans (b1.mono (HB0.out).size); have HS1 : Hid (Sits w1 w.heap.size (shCells s a N ca b n c) 29) := Sits.below HS0.out b1 (Sits.lt HS0.out); clear b1) | (go_at_call 31; refine (within_any _ _ _ _).mono ?_; rintro e w9 ⟨rfl, hw9⟩; replace hw9 := hw9.symm; subst hw9; rw [t1]))
  have y0 := Sits.cell HS1.out 0
  have y1 := Sits.cell HS1.out 1
  have y2 := Sits.cell HS1.out 2
  have y3 := Sits.cell HS1.out 3
  have y4 := Sits.cell HS1.out 4
  have y5 := Sits.cell HS1.out 5
  have y6 := Sits.cell HS1.out 6
  have HR1 : Hid (Row .i64 (w1.alloc (.cells #[.int .i64 v] 3)) (some ⟨w1.heap.size, 0, none⟩) 1 (fun _ => v)) := .inr ⟨w1.heap.size, 0, rfl, by simp, fun i hi => by have e : i = 0 := (by omega); subst e; exact (Sits.new w1 #[.int .i64 v] 3).cell 0⟩
  have HV1 : Hid (∀ i, i < 1 → 1 ≤ (fun _ => v : Nat → Int) i ∧ (fun _ => v : Nat → Int) i ≤ 2000) := fun i hi => t1'
  have HKEY : Hid (keyOf Try.prog 3 (.int .i64 v) = some (.int .i64 v)) := keyOf_int_mk Try.underlying3 (WalkArith.wf_i64 (by omega))
  go_wp2_with (first
    | (go_at_call 33; refine (icostsOf_any s a N ca b n c (some ⟨w1.heap.size, 0, none⟩) 1 1 (fun _ => v) _ HNUM.out (by omega) HR1.out HV1.out).mono ?_; rintro e w2 ⟨B, D, rfl, hown, hpr, hhas, b2⟩; have HOWN : Hid (w2.ownsMap Try.prog 3 (plainElem Try.prog 3) B 1 D) := hown; have HPR : Hid (D.atKey (.int .i64 v) (.lit (.int .i64 0)) = .lit (.int .i64 (costF s v))) := hpr v (hhas 0 (by omega)); have HB2 : Hid (Below w.heap.size w w2) := ((HB1.out).alloc (HB1.out).size _).trans (b2.mono (by simp; have := (HB1.out).size; omega)); clear hown hpr hhas b2)
    | (at_lookup; refine wpList_lookup_own_int _ rfl _ _ 69 rfl 3 3 .i64 lawInt Try.underlying69 Try.underlying3 (zeroInt _) B 1 D rfl HOWN.out _ _ rfl HKEY.out ?_; intro c0 hat hwc; obtain rfl : c0 = costF s v := by have := hat.symm.trans HPR.out; simpa using this))
  exact bodyPost_ret (v := .tuple #[.int .i64 (costF s v), .bool true]) (by simp [results, Try.results24, go_sem]) rfl ⟨rets (cst_yes HE.out), HB2.out⟩

end Go.Proofs.Ytmjggolllijamaa

/-
  A SHAPE COPIED BY THE PROGRAM: ownShape: all its memory is new, and no two lists share any.
-/
namespace Go.Proofs.Ytmjggolllijamaa
open Go.RowKit
set_option linter.unusedVariables false

/-- Where the lines of a list and their packets lie. -/
theorem LR.pick {n₀ : Nat} {w : World} {a : Option Addr} {N : Nat} {L : Nat → Ln} (h : LR n₀ w a N L) (hN : N ≠ 0) : ∃ (b off : Nat) (A : Nat → Option Addr) (C : Nat → Nat), a = some ⟨b, off, none⟩ ∧ b < n₀ ∧ ∀ i, i < N → LAt w b (off + i * 9) (A i) (C i) (L i) ∧ (L i).n ≤ C i ∧ PR n₀ w (A i) (L i).n (L i).f := by
  obtain ⟨b, off, ha, hb, hc⟩ := LR.at h (j := 0) (by omega)
  obtain ⟨A, hA⟩ := Go.Deep.choose_lt hc
  obtain ⟨C, hC⟩ := Go.Deep.choose_lt hA
  exact ⟨b, off, A, C, ha, hb, hC⟩

/-- Lines onto none. -/
theorem wp_append_lnN {w : World} {o : Oper} {a : Act} {K : Act → World → Prop} {Q : Exit → Act → World → Prop} (s x : Operand)
    (ho : o.op = .call { callee := .builtin .append, args := #[s, x], argTypes := #[27, 27] })
    (base : Nat) (hs : a.eval s = .slice none 0 0)
    (b off m c : Nat) (A : Nat → Option Addr) (C : Nat → Nat) (L : Nat → Ln) (hx : a.eval x = .slice (some ⟨b, off, none⟩) m c) (hr : ∀ i, i < m → LAt w b (off + i * 9) (A i) (C i) (L i)) (hm : m ≤ 1048576) (h0 : m ≠ 0) (hbase : base ≤ w.heap.size)
    (h : ∀ g cap w', LP base w' (some ⟨g, 0, none⟩) m cap A C L → w.grownBy w' none → K (a.put o.dst (.slice (some ⟨g, 0, none⟩) m cap)) w') : o.wp Try.prog a w K Q := by
  obtain ⟨i0, hi0, hz0, hz1, hz2⟩ := infoLine_parts
  refine wp_append_lies w s x 27 ho base 53 i0 _ 9 88 Try.underlying27 hi0 hz0 hz1 hz2 rfl (by omega) (.slice none 0 0) 0 [] hs (World.ownsRow_nil _ _ _ _) ⟨b, off, none⟩ m c (lnL A C L m) hx (lnL_len A C L m) ?_ ?_ (by omega) (by unfold maxLen; omega) (by omega) hbase _ rfl ?_
  · intro j u hu
    have hj : j < m * 9 := by
      have := (List.getElem?_eq_some_iff.1 hu).1
      rw [lnL_len] at this
      exact this
    have e : j = j / 9 * 9 + j % 9 := by omega
    rw [e, lnL_get A C L (j / 9) (j % 9) (Nat.mod_lt _ (by omega)) m (by omega)] at hu
    rw [WideShapes.add_plain]
    obtain ⟨c0, c1, c2, c3, c4, c5, c6, c7, c8⟩ := hr (j / 9) (by omega)
    have e2 : off + j = off + j / 9 * 9 + j % 9 := by omega
    rw [e2]
    have ht : j % 9 < 9 := Nat.mod_lt _ (by omega)
    generalize j % 9 = t at hu ht
    have hc : t = 0 ∨ t = 1 ∨ t = 2 ∨ t = 3 ∨ t = 4 ∨ t = 5 ∨ t = 6 ∨ t = 7 ∨ t = 8 := by omega
    rcases hc with rfl | rfl | rfl | rfl | rfl | rfl | rfl | rfl | rfl <;> (simp at hu; subst hu; simpa using ‹_›)
  · intro u hu
    unfold lnL at hu
    obtain ⟨l, hl, hul⟩ := List.mem_flatten.1 hu
    obtain ⟨i, _, rfl⟩ := List.mem_map.1 hl
    simp at hul
    rcases hul with rfl | rfl | rfl | rfl | rfl | rfl | rfl | rfl | rfl <;> rfl
  · intro g cp w' h1 h2 h3 h4
    rw [Nat.zero_add] at h1 ⊢
    exact h g cp w' (by simpa [LP] using h1) h2
theorem wpList_append_lnN {w : World} {ops : Array Oper} {rest : List Oper} {o : Oper} {a : Act} {Q : Exit → Act → World → Prop} (hgd : o.guard = none) (s x : Operand)
    (ho : o.op = .call { callee := .builtin .append, args := #[s, x], argTypes := #[27, 27] })
    (base : Nat) (hs : a.eval s = .slice none 0 0)
    (b off m c : Nat) (A : Nat → Option Addr) (C : Nat → Nat) (L : Nat → Ln) (hx : a.eval x = .slice (some ⟨b, off, none⟩) m c) (hr : ∀ i, i < m → LAt w b (off + i * 9) (A i) (C i) (L i)) (hm : m ≤ 1048576) (h0 : m ≠ 0) (hbase : base ≤ w.heap.size)
    (h : ∀ g cap w', LP base w' (some ⟨g, 0, none⟩) m cap A C L → w.grownBy w' none → wpList Try.prog ops Q rest (a.put o.dst (.slice (some ⟨g, 0, none⟩) m cap)) w') : wpList Try.prog ops Q (o :: rest) a w :=
  wpList_plain hgd fun _ hK => wp_append_lnN s x ho base hs b off m c A C L hx hr hm h0 hbase fun g cap w' h2 h3 => hK _ _ (h g cap w' h2 h3)

/-- Half copied: the first k lines have packets of their own. -/
structure OwnK (b2 : Nat) (wr : World) (X k : Nat) (A A0 : Nat → Option Addr) (C C0 : Nat → Nat) (L : Nat → Ln) (y : Option Addr) (n cy : Nat) (tn : Nat → Int) : Prop where
  lo : b2 ≤ X
  sits : ∃ vs t, Sits wr X vs t ∧ 4 * 9 ≤ vs.size ∧ ∀ i, i < 4 → LV vs (i * 9) (if i < k then A i else A0 i) (if i < k then C i else C0 i) (L i)
  po : ∀ i, i < k → PO b2 wr (A i) (L i).n (C i) (L i).f
  ox : ∀ i, i < k → ∀ g, A i = some g → g.block ≠ X
  oo : ∀ i j, i < k → j < k → i ≠ j → Off (A i) (A j)
  jo : JO b2 wr y n cy tn
  xy : ∀ g, y = some g → g.block ≠ X
  oy : ∀ i, i < k → Off (A i) y

/-- Where lines of one's own lie. -/
theorem LP.sv {base : Nat} {w : World} {X : Nat} {N cap : Nat} {A : Nat → Option Addr} {C : Nat → Nat} {L : Nat → Ln} (h : LP base w (some ⟨X, 0, none⟩) N cap A C L) (hN : N ≠ 0) :
    base ≤ X ∧ ∃ vs t, Sits w X vs t ∧ N * 9 ≤ vs.size ∧ ∀ i, i < N → LV vs (i * 9) (A i) (C i) (L i) := by
  obtain ⟨hl, ⟨hv, h0⟩ | ⟨g, cp, cur, hv, hbs, hh, e1, e2, e3, e4⟩⟩ := h
  · exact absurd h0 hN
  · simp only [Value.slice.injEq] at hv
    obtain ⟨ha, _, rfl⟩ := hv
    cases ha
    refine ⟨hbs, cur, _, hh, by rw [e3]; omega, fun i hi => ?_⟩
    have c : ∀ t, t < 9 → cur[i * 9 + t]? = (lnCells (A i) (C i) (L i))[t]? := fun t ht => by
      rw [← lnL_get A C L i t ht N hi, ← e4, List.getElem?_take_of_lt (by omega), Array.getElem?_toList]
    exact ⟨c 0 (by omega), c 1 (by omega), c 2 (by omega), c 3 (by omega), c 4 (by omega), c 5 (by omega), c 6 (by omega), c 7 (by omega), c 8 (by omega)⟩

theorem OwnK.lt {b2 : Nat} {wr : World} {X k : Nat} {A A0 : Nat → Option Addr} {C C0 : Nat → Nat} {L : Nat → Ln} {y : Option Addr} {n cy : Nat} {tn : Nat → Int} (h : OwnK b2 wr X k A A0 C C0 L y n cy tn) : X < wr.heap.size := by
  obtain ⟨vs, t, hs, _⟩ := h.sits
  exact hs.lt
/-- One more has its own. -/
theorem OwnK.next {b2 : Nat} {wr w1 : World} {X k : Nat} {A A0 : Nat → Option Addr} {C C0 : Nat → Nat} {L : Nat → Ln} {y : Option Addr} {n cy : Nat} {tn : Nat → Int} (h : OwnK b2 wr X k A A0 C C0 L y n cy tn) (hk : k < 4)
    (hb : Below wr.heap.size wr w1) {x' : Option Addr} {c' : Nat} (hp : PO wr.heap.size w1 x' (L k).n c' (L k).f) (h2 : b2 ≤ wr.heap.size) :
    OwnK b2 (w1.setCell ⟨X, k * 9, none⟩ (.slice x' (L k).n c')) X (k + 1) (fun i => if i = k then x' else A i) A0 (fun i => if i = k then c' else C i) C0 L y n cy tn := by
  have hX := h.lt
  have hab : Above wr.heap.size x' := hp.above
  obtain ⟨vs, t, hs, h1, hv⟩ := h.sits
  have hs1 : Sits w1 X vs t := hs.below hb hX
  have hxX : ∀ g, x' = some g → g.block ≠ X := fun g hg => by have := hab g hg; omega
  refine ⟨h.lo, ⟨_, t, hs1.set (k * 9) _, by simpa using h1, fun i hi => ?_⟩, fun i hi => ?_, fun i hi g hg => ?_, fun i j hi hj hne => ?_, (h.jo.keep (below_keep hb h.jo.undr)).keep (set_keep _ _ h.xy), h.xy, fun i hi => ?_⟩ <;> (try dsimp only at *)
  · have := lv_set0 h1 hk hv x' c' (L k).n (L k).f i hi
    by_cases e : i = k
    · subst e
      simp only [if_true] at this
      rw [if_pos (by omega), if_pos rfl, if_pos (by omega), if_pos rfl]
      exact this
    · rw [if_neg e, if_neg e, if_neg e] at this
      by_cases e2 : i < k
      · rw [if_pos e2, if_pos e2] at this
        rw [if_pos (by omega), if_neg e, if_pos (by omega), if_neg e]; exact this
      · rw [if_neg e2, if_neg e2] at this
        rw [if_neg (by omega), if_neg (by omega)]; exact this
  · by_cases e : i = k
    · subst e; simp only [if_true]; exact (hp.mono h2).keep (set_keep _ _ hxX)
    · rw [if_neg e, if_neg e]
      exact ((h.po i (by omega)).keep (below_keep hb (h.po i (by omega)).under)).keep (set_keep _ _ (h.ox i (by omega)))
  · by_cases e : i = k
    · rw [if_pos e] at hg; exact hxX g hg
    · rw [if_neg e] at hg; exact h.ox i (by omega) g hg
  · have an : ∀ i, i < k → Off (A i) x' := fun i hi => off_of (h.po i hi).under hab
    by_cases e1 : i = k
    · by_cases e2 : j = k
      · omega
      · rw [if_pos e1, if_neg e2]; exact (an j (by omega)).symm
    · by_cases e2 : j = k
      · rw [if_neg e1, if_pos e2]; exact an i (by omega)
      · rw [if_neg e1, if_neg e2]; exact h.oo i j (by omega) (by omega) hne
  · by_cases e : i = k
    · rw [if_pos e]; exact (off_of h.jo.undr hab).symm
    · rw [if_neg e]; exact h.oy i (by omega)
theorem OwnK.done {b2 : Nat} {wr : World} {X : Nat} {A A0 : Nat → Option Addr} {C C0 : Nat → Nat} {L : Nat → Ln} {y : Option Addr} {n cy : Nat} {tn : Nat → Int} (h : OwnK b2 wr X 4 A A0 C C0 L y n cy tn) : LQ b2 wr X 4 A C L ∧ TQ b2 wr y n cy tn X 4 A := by
  obtain ⟨vs, t, hs, h1, hv⟩ := h.sits
  exact ⟨⟨h.lo, ⟨vs, t, hs, h1, fun i hi => by have := hv i hi; rw [if_pos hi, if_pos hi] at this; exact this⟩, h.po, h.ox, h.oo⟩, h.jo, h.xy, h.oy⟩

set_option maxRecDepth 100000 in
set_option maxHeartbeats 4000000 in
theorem iownShape_any (s : Sh) (a : Option Addr) (ca : Nat) (b : Option Addr) (n c : Nat) (L : Nat → Ln) (tn : Nat → Int) (w : World)
    (hcn : cntF L 4 ≤ 1048576) (hnn : n ≤ 1048576) (hP : LR w.heap.size w a 4 L) (hb : Row .i64 w b n tn) :
    Calls Try.prog 32 #[shVal s a 4 ca b n c] w fun e w' => ∃ (B : Nat) (A : Nat → Option Addr) (C : Nat → Nat) (cl : Nat) (y : Option Addr) (cy : Nat), e = .returned (shVal s (some ⟨B, 0, none⟩) 4 cl y n cy) ∧ LQ w.heap.size w' B 4 A C L ∧ TQ w.heap.size w' y n cy tn B 4 A ∧ Below w.heap.size w w' := by
  obtain ⟨b1, off, A0, C0, rfl, hbl, hat0⟩ := LR.pick hP (by omega)
  have HAT : Hid (∀ i, i < 4 → LAt w b1 (off + i * 9) (A0 i) (C0 i) (L i) ∧ (L i).n ≤ C0 i ∧ PR w.heap.size w (A0 i) (L i).n (L i).f) := hat0
  have HRB : Hid (Row .i64 w b n tn) := hb
  have HCN : Hid (cntF L 4 ≤ 1048576) := hcn
  have HNN : Hid (n ≤ 1048576) := hnn
  clear hP hb hcn hnn hat0
  obtain ⟨W0, hW0⟩ : ∃ W, (w.alloc (.cells (shCells s (some ⟨b1, off, none⟩) 4 ca b n c) 29)).alloc (.cells shZero 29) = W := ⟨_, rfl⟩
  have s0 : Sits W0 w.heap.size (shCells s (some ⟨b1, off, none⟩) 4 ca b n c) 29 := by rw [← hW0]; exact (Sits.new _ _ _).alloc _
  have s1 : Sits W0 (w.heap.size + 1) shZero 29 := by rw [← hW0]; exact Sits.new' (by simp)
  have b0 : Below w.heap.size w W0 := by rw [← hW0]; exact ((Below.refl _ w).alloc (Nat.le_refl _) _).alloc (by simp) _
  have z0 : W0.heap.size = w.heap.size + 1 + 1 := by rw [← hW0]; simp
  have HW0 : Hid ((w.alloc (.cells (shCells s (some ⟨b1, off, none⟩) 4 ca b n c) 29)).alloc (.cells shZero 29) = W0) := hW0
  have HS0 : Hid (Sits _ _ _ _) := s0
  have HS1 : Hid (Sits _ _ _ _) := s1
  have HB0 : Hid (Below w.heap.size w W0) := b0
  have HZ0 : Hid (W0.heap.size = w.heap.size + 1 + 1) := z0
  have x6 := s0.cell 6
  clear s0 s1 b0 z0 hW0
  have hfl := field_list
  go_enter Try.func32, Try.ntmps32
  go_upto_region 1 with fail
  rw [HW0.out]
  clear HW0
  go_upto_region 2 with (go_at_call 63; refine (ilistOf_any b n c tn _ HNN.out (Row.below HRB.out HB0.out)).mono ?_; rintro e w1 ⟨y, cy, rfl, hj1, hb1⟩; have t0 := Sits.below HS0.out hb1 (Sits.lt HS0.out); have y6 := t0.cell 6; have yf := t0.frozen; have HJ1 : Hid (JO W0.heap.size w1 y n cy tn) := hj1; have HB1 : Hid (Below W0.heap.size W0 w1) := hb1; clear hj1 hb1 t0)
  obtain ⟨v1, hv1⟩ : ∃ v, w1.setCell ⟨w.heap.size, 6, none⟩ (.slice y n cy) = v := ⟨_, rfl⟩
  have t0 : Sits v1 w.heap.size (shCells s (some ⟨b1, off, none⟩) 4 ca y n cy) 29 := by rw [← hv1]; exact (Sits.below HS0.out HB1.out (Sits.lt HS0.out)).set 6 _
  have t1 : Sits v1 (w.heap.size + 1) shZero 29 := by rw [← hv1]; exact (Sits.below HS1.out HB1.out (Sits.lt HS1.out)).other (by omega) _
  have j1 : JO W0.heap.size v1 y n cy tn := by rw [← hv1]; exact JO.far HJ1.out (by have := HZ0.out; omega) _ _
  have bv1 : Below w.heap.size w v1 := by rw [← hv1]; exact ((HB0.out).trans (Below.mono HB1.out (HB0.out).size)).setCell (Nat.le_refl _) _
  have zv1 : W0.heap.size ≤ v1.heap.size := by rw [← hv1, size_set]; exact (HB1.out).size
  rw [hv1]
  clear hv1 HS0 HS1 HJ1 HB1 y6 yf x6
  have HT0 : Hid (Sits v1 w.heap.size (shCells s (some ⟨b1, off, none⟩) 4 ca y n cy) 29) := t0
  have HT1 : Hid (Sits v1 (w.heap.size + 1) shZero 29) := t1
  have HJ1 : Hid (JO W0.heap.size v1 y n cy tn) := j1
  have HBV : Hid (Below w.heap.size w v1) := bv1
  have x5 := t0.cell 5
  have HLA : Hid (∀ i, i < 4 → LAt v1 b1 (off + i * 9) (A0 i) (C0 i) (L i)) := fun i hi => (HAT.out i hi).1.below bv1 hbl
  clear t0 t1 j1 bv1
  go_upto_region 3 with (at_builtin; refine wpList_append_lnN rfl _ _ rfl v1.heap.size rfl b1 off 4 ca A0 C0 L rfl HLA.out (by omega) (by omega) (Nat.le_refl _) ?_; intro X cl w2 hlp hgr; have B2 : Below v1.heap.size v1 w2 := (Below.refl _ _).grown hgr (Nat.le_refl _) (fun k e => by cases e); have u0 := Sits.below HT0.out B2 (Sits.lt HT0.out); have y5 := u0.cell 5; have yf := u0.frozen; have HLP : Hid (LP v1.heap.size w2 (some ⟨X, 0, none⟩) 4 cl A0 C0 L) := hlp; have HB2 : Hid (Below v1.heap.size v1 w2) := B2; have HGR : Hid (v1.grownBy w2 none) := hgr; clear hlp hgr B2 u0)
  obtain ⟨v2, hv2⟩ : ∃ v, w2.setCell ⟨w.heap.size, 5, none⟩ (.slice (some ⟨X, 0, none⟩) 4 cl) = v := ⟨_, rfl⟩
  obtain ⟨hX, vs, t, hsX, hX1, hX2⟩ := LP.sv HLP.out (by omega)
  have u0 : Sits v2 w.heap.size (shCells s (some ⟨X, 0, none⟩) 4 cl y n cy) 29 := by rw [← hv2]; exact (Sits.below HT0.out HB2.out (Sits.lt HT0.out)).set 5 _
  have u1 : Sits v2 (w.heap.size + 1) shZero 29 := by rw [← hv2]; exact (Sits.below HT1.out HB2.out (Sits.lt HT1.out)).other (by omega) _
  have bv2 : Below w.heap.size w v2 := by rw [← hv2]; exact ((HBV.out).trans ((HB2.out).mono (HBV.out).size)).setCell (Nat.le_refl _) _
  have hz0 := HZ0.out
  have ok0 : OwnK W0.heap.size v2 X 0 (fun _ => none) A0 (fun _ => 0) C0 L y n cy tn := by
    refine ⟨Nat.le_trans zv1 hX, ⟨vs, t, ?_, hX1, fun i hi => by rw [if_neg (Nat.not_lt_zero i), if_neg (Nat.not_lt_zero i)]; exact hX2 i hi⟩, fun i hi => absurd hi (Nat.not_lt_zero _), fun i hi => absurd hi (Nat.not_lt_zero _), fun i j hi => absurd hi (Nat.not_lt_zero _), ?_, fun g hg => ?_, fun i hi => absurd hi (Nat.not_lt_zero _)⟩
    · rw [← hv2]; exact hsX.other (by omega) _
    · rw [← hv2]; exact JO.far (JO.below HJ1.out HB2.out) (by omega) _ _
    · have := JO.undr HJ1.out g hg; omega
  rw [hv2]
  clear hv2 HT0 HT1 HJ1 HBV HLA HLP HB2 HGR hsX hX2 hX1 y5 yf x5
  have x5 := u0.cell 5
  have OK0 : Hid (OwnK W0.heap.size v2 X 0 (fun _ => none) A0 (fun _ => 0) C0 L y n cy tn) := ok0
  have HU0 : Hid (Sits v2 w.heap.size (shCells s (some ⟨X, 0, none⟩) 4 cl y n cy) 29) := u0
  have HU1 : Hid (Sits v2 (w.heap.size + 1) shZero 29) := u1
  have HBV : Hid (Below w.heap.size w v2) := bv2
  clear ok0 u0 u1 bv2
  go_wp2
  go_loopw [16] (fun i wr => ∃ (k : Nat) (A : Nat → Option Addr) (C : Nat → Nat), k ≤ 4 ∧ i = .int .i64 (k : Int) ∧ OwnK W0.heap.size wr X k A A0 C C0 L y n cy tn ∧ Sits wr w.heap.size (shCells s (some ⟨X, 0, none⟩) 4 cl y n cy) 29 ∧ Sits wr (w.heap.size + 1) shZero 29 ∧ Below w.heap.size w wr) (fun i _ => 4 - (intOf i).toNat)
  case atStart => exact ⟨0, _, _, Nat.zero_le _, rfl, OK0.out, HU0.out, HU1.out, HBV.out⟩
  case round =>
    clear OK0 HU0 HU1 HBV x5
    obtain ⟨k, A, C, hk, rfl, hok, hs0, hs1, hB⟩ := hrel
    have HOK : Hid (OwnK W0.heap.size wr X k A A0 C C0 L y n cy tn) := hok
    have HS0 : Hid (Sits wr w.heap.size (shCells s (some ⟨X, 0, none⟩) 4 cl y n cy) 29) := hs0
    have HS1 : Hid (Sits wr (w.heap.size + 1) shZero 29) := hs1
    have HB : Hid (Below w.heap.size w wr) := hB
    have x5 := hs0.cell 5
    clear hok hs0 hs1
    by_cases hlt : k < 4
    · have hlti : (k : Int) < 4 := by omega
      have hk0 : (0 : Int) ≤ (k : Int) := by omega
      obtain ⟨ws, t2, hsw, hsz, hlv⟩ := (HOK.out).sits
      have hlk := hlv k hlt
      rw [if_neg (Nat.lt_irrefl k), if_neg (Nat.lt_irrefl k)] at hlk
      have c0 := (hlk.at hsw).1
      have fX := hsw.frozen
      have hnk : (L k).n ≤ 1048576 := Nat.le_trans (cntF_le L hlt) HCN.out
      have HPR : Hid (PR wr.drew.heap.size wr.drew (A0 k) (L k).n (L k).f) := ((HAT.out k hlt).2.2.below hB).mono hB.size
      have HSW : Hid (Sits wr X ws t2) := hsw
      have HLK : Hid (LV ws (k * 9) (A0 k) (C0 k) (L k)) := hlk
      clear hlv hlk hsw hB
      go_upto_region 6 with fail
      go_region_with (go_at_call 64; refine (copied_any (A0 k) (L k).n (C0 k) (L k).f _ HPR.out hnk).mono ?_; rintro e w3 ⟨x', c', rfl, hpo, b3⟩; have b3' : Below wr.heap.size wr w3 := Below.trans (Below.drew (Below.refl wr.heap.size wr)) b3; have z0 := Sits.below HS0.out b3' (Sits.lt HS0.out); have z5 := z0.cell 5; have zX := Sits.below HSW.out b3' (Sits.lt HSW.out); have zf := zX.frozen; have zc := (LV.at HLK.out zX).1; have HPO : Hid (PO wr.heap.size w3 x' (L k).n c' (L k).f) := hpo; have HB3 : Hid (Below wr.heap.size wr w3) := b3'; clear hpo b3 b3' z0 zX)
      all_goals
        go_wp2
        go_roundw
        case rel => exact ⟨k + 1, _, _, by omega, by go_num, OwnK.next HOK.out hlt HB3.out HPO.out (by have := (HOK.out).lt; have := (HOK.out).lo; omega), (Sits.below HS0.out HB3.out (Sits.lt HS0.out)).other (by have := (HOK.out).lo; omega) _, (Sits.below HS1.out HB3.out (Sits.lt HS1.out)).other (by have := (HOK.out).lo; omega) _, ((HB.out).trans ((HB3.out).mono (HB.out).size)).setCell (by have := (HOK.out).lo; show w.heap.size ≤ X; omega) _⟩
        case measure => simp [intOf]; omega
    · obtain rfl : k = 4 := by omega
      obtain ⟨hlq, htq⟩ := (HOK.out).done
      have HLQ : Hid (LQ W0.heap.size wr X 4 A C L) := hlq
      have HTQ : Hid (TQ W0.heap.size wr y n cy tn X 4 A) := htq
      have x0 := Sits.cell HS0.out 0
      have x1 := Sits.cell HS0.out 1
      have x2 := Sits.cell HS0.out 2
      have x3 := Sits.cell HS0.out 3
      have x4 := Sits.cell HS0.out 4
      have z5 := Sits.cell HS0.out 5
      have x6 := Sits.cell HS0.out 6
      have y0 := Sits.cell HS1.out 0
      have y1 := Sits.cell HS1.out 1
      have y2 := Sits.cell HS1.out 2
      have y3 := Sits.cell HS1.out 3
      have y4 := Sits.cell HS1.out 4
      have y5 := Sits.cell HS1.out 5
      have y6 := Sits.cell HS1.out 6
      have yf := Sits.frozen HS1.out
      have R : Hid (Sits _ _ _ _) := (((((((Sits.set HS1.out 0 (.int .i64 s.rt)).set 1 (.int .i64 s.ov)).set 2 (.int .i64 s.nx)).set 3 (.int .i64 s.qt)).set 4 (.int .i64 s.lim)).set 5 (.slice (some ⟨X, 0, none⟩) 4 cl)).set 6 (.slice y n cy))
      clear hlq htq hB
      go_wp2
      refine bodyPost_ret (ret_sh Try.results32 rfl R.out) rfl ?_
      have h0 : w.heap.size + 1 ≤ w.heap.size + 1 := Nat.le_refl _
      have h1 : w.heap.size + 1 < w.heap.size + 1 + 1 := Nat.lt_succ_self _
      have c9 : Chg (w.heap.size + 1) (w.heap.size + 1 + 1) wr _ := (chg_set (chg_set (chg_set (chg_set (chg_set (chg_set (chg_set (Chg.refl _ _ wr) h0 h1 0 (.int .i64 s.rt)) h0 h1 1 (.int .i64 s.ov)) h0 h1 2 (.int .i64 s.nx)) h0 h1 3 (.int .i64 s.qt)) h0 h1 4 (.int .i64 s.lim)) h0 h1 5 (.slice (some ⟨X, 0, none⟩) 4 cl)) h0 h1 6 (.slice y n cy))
      exact ⟨X, A, C, cl, y, cy, rfl, (LQ.chg HLQ.out c9 (by omega)).mono (by omega), (TQ.chg HTQ.out c9 (by omega)).mono (by omega), c9.bel HB.out (by omega)⟩

end Go.Proofs.Ytmjggolllijamaa

/-
  WHO GOES OUT OF A SHAPER OF THE PROGRAM: ShapePop.
-/
namespace Go.Proofs.Ytmjggolllijamaa
open Go.RowKit Go.Maps
set_option linter.unusedVariables false

theorem sits_drew {w : World} {B : Nat} {vs : Array Value} {t : TypeId} (h : Sits w B vs t) : Sits w.drew B vs t := h
theorem drew_keep {w w' : World} {k : Nat} (h : w.heap[k]? = w'.heap[k]?) : w.drew.heap[k]? = w'.heap[k]? := h
theorem SX.next {base : Nat} {w : World} {V B cl : Nat} {s : Sh} {A : Nat → Option Addr} {C : Nat → Nat} {L : Nat → Ln} {y : Option Addr} {n cy : Nat} {tn : Nat → Int} (h : SX base w V B cl s A C L y n cy tn) (v : Int) : SX base (w.setCell ⟨V, 2, none⟩ (.int .i64 v)) V B cl ⟨s.rt, s.ov, v, s.qt, s.lim⟩ A C L y n cy tn := by
  have hVB := h.VB
  refine ⟨h.sv.set 2 _, h.bV, h.VB, h.VA, h.Vy, h.mo.keep (Below.heap_setCell _ _ _ B (fun e => hVB e.symm)) (fun i hi _ g ha => Below.heap_setCell _ _ _ g (h.VA i hi _ ha)) (fun Y o _ ha => Below.heap_setCell _ _ _ Y (h.Vy _ ha)) (by simp)⟩
theorem SX.below {base : Nat} {w w' : World} {V B cl : Nat} {s : Sh} {A : Nat → Option Addr} {C : Nat → Nat} {L : Nat → Ln} {y : Option Addr} {n cy : Nat} {tn : Nat → Int} (h : SX base w V B cl s A C L y n cy tn) (hb : Below w.heap.size w w') : SX base w' V B cl s A C L y n cy tn :=
  ⟨h.sv.below hb h.sv.lt, h.bV, h.VB, h.VA, h.Vy, h.mo.keep (hb.block B h.mo.1.lt) (fun i hi hz g ha => hb.block g (h.mo.1.lt2 hi hz ha).1) (fun Y o hn ha => by
    rcases h.mo.2 with e | ⟨Y', o', ha', _, _, _, ho⟩
    · exact absurd e hn
    · rw [ha] at ha'; cases ha'; exact hb.block Y ho.1) hb.size⟩
theorem MO0.of_sx {base : Nat} {w : World} {V B cl : Nat} {s : Sh} {A : Nat → Option Addr} {C : Nat → Nat} {L : Nat → Ln} {y : Option Addr} {n cy : Nat} {tn : Nat → Int} {ts : List Int} (h : SX base w V B cl s A C L y n cy tn) (e : (List.range n).map tn = ts) : MO0 base w (some ⟨B, 0, none⟩) 4 L y ts.length (seqT ts) := by
  obtain ⟨e1, e2⟩ := seqT_of e
  rw [← e1]
  exact .inr ⟨B, A, C, rfl, h.mo.congr e2⟩
theorem MO0.chg {base L0 U0 : Nat} {w w' : World} {x : Option Addr} {N : Nat} {L : Nat → Ln} {y : Option Addr} {n : Nat} {tn : Nat → Int} (h : MO0 base w x N L y n tn) (hc : Chg L0 U0 w w') (hU : U0 ≤ base) : MO0 base w' x N L y n tn :=
  h.keep (fun k hk h2 => hc.block k h2 (by omega)) hc.size
theorem ownsMap_keep {H : Type} {P : Program} {k : TypeId} {R : Value → Option (DataW H × List MemPlace)} {w w' : World} {b n : Nat} {D : DataW H} (h : w.ownsMap P k R b n D) (hb : w'.heap[b]? = w.heap[b]?) : w'.ownsMap P k R b n D := by
  obtain ⟨es, clock, h1, F, hs, hD⟩ := h
  exact ⟨es, clock, hb.trans h1, F, hs, hD⟩
theorem ownsMap_ne {H : Type} {P : Program} {k : TypeId} {R : Value → Option (DataW H × List MemPlace)} {w : World} {b n B : Nat} {D : DataW H} {vs : Array Value} {t : TypeId} (h : w.ownsMap P k R b n D) (hs : Sits w B vs t) : b ≠ B := fun e => by
  obtain ⟨es, clock, h1, F, hs', hD⟩ := h
  subst e
  have h2 : w.heap[b]? = some (.cells vs t) := hs
  rw [h1] at h2
  cases h2

set_option maxRecDepth 100000 in
set_option maxHeartbeats 8000000 in
theorem ishapePop_any (s : Sh) (a : Option Addr) (N ca : Nat) (b : Option Addr) (n c : Nat) (L : Nat → Ln) (tn : Nat → Int) (now : Int) (w : World)
    (hN : N ≤ 1048576) (hcn : cntF L N ≤ 1048576) (hnn : n ≤ 1048576) (hP : LR w.heap.size w a N L) (hb : Row .i64 w b n tn) :
    Calls Try.prog 9 #[shVal s a N ca b n c, .int .i64 now] w fun e w' => PopAt s N L ((List.range n).map tn) now w e w' := by
  have HP : Hid (LR w.heap.size w a N L) := hP
  have HRB : Hid (Row .i64 w b n tn) := hb
  have HN : Hid (N ≤ 1048576) := hN
  have HCN : Hid (cntF L N ≤ 1048576) := hcn
  have HNN : Hid (n ≤ 1048576) := hnn
  clear hP hb hN hcn hnn
  obtain ⟨ts, hts⟩ : ∃ l, (List.range n).map tn = l := ⟨_, rfl⟩
  have HTS : Hid ((List.range n).map tn = ts) := hts
  rw [hts]
  clear hts
  obtain ⟨W0, hW0⟩ : ∃ W, ((w.alloc (.cells (shCells s a N ca b n c) 29)).alloc (.cells shZero 29)).alloc (.cells (pkCells pk0) 31) = W := ⟨_, rfl⟩
  have s0 : Sits W0 w.heap.size (shCells s a N ca b n c) 29 := by rw [← hW0]; exact ((Sits.new _ _ _).alloc _).alloc _
  have s1 : Sits W0 (w.heap.size + 1) shZero 29 := by rw [← hW0]; exact (Sits.new' (by simp)).alloc _
  have s2 : Sits W0 (w.heap.size + 1 + 1) (pkCells pk0) 31 := by rw [← hW0]; exact Sits.new' (by simp)
  have b0 : Below w.heap.size w W0 := by rw [← hW0]; exact (((Below.refl _ w).alloc (Nat.le_refl _) _).alloc (by simp) _).alloc (by simp; omega) _
  have z0 : W0.heap.size = w.heap.size + 1 + 1 + 1 := by rw [← hW0]; simp
  have HW0 : Hid (((w.alloc (.cells (shCells s a N ca b n c) 29)).alloc (.cells shZero 29)).alloc (.cells (pkCells pk0) 31) = W0) := hW0
  have HB0 : Hid (Below w.heap.size w W0) := b0
  have HZ0 : Hid (W0.heap.size = w.heap.size + 1 + 1 + 1) := z0
  have x0 := s0.cell 0
  have x1 := s0.cell 1
  have x2 := s0.cell 2
  have x3 := s0.cell 3
  have x4 := s0.cell 4
  have x5 := s0.cell 5
  have x6 := s0.cell 6
  have HA : Hid (∀ W, Below W0.heap.size W0 W → (Sits W w.heap.size (shCells s a N ca b n c) 29 ∧ Sits W (w.heap.size + 1) shZero 29 ∧ Sits W (w.heap.size + 1 + 1) (pkCells pk0) 31) ∧ Below w.heap.size w W) := fun W hW => ⟨⟨s0.below hW s0.lt, s1.below hW s1.lt, s2.below hW s2.lt⟩, b0.trans (hW.mono b0.size)⟩
  clear s0 s1 s2 b0 z0 hW0
  have hVP : w.heap.size + 1 ≠ w.heap.size + 1 + 1 := by omega
  have HOUT : Hid (∀ W, Below W0.heap.size W0 W → Below w.heap.size w (set6 (set7 W (w.heap.size + 1) ⟨0, 0, 0, 0, 0⟩ none 0 0 none 0 0) (w.heap.size + 1 + 1) pk0) ∧ Sits (set6 (set7 W (w.heap.size + 1) ⟨0, 0, 0, 0, 0⟩ none 0 0 none 0 0) (w.heap.size + 1 + 1) pk0) (w.heap.size + 1) (shCells ⟨0, 0, 0, 0, 0⟩ none 0 0 none 0 0) 29 ∧ Sits (set6 (set7 W (w.heap.size + 1) ⟨0, 0, 0, 0, 0⟩ none 0 0 none 0 0) (w.heap.size + 1 + 1) pk0) (w.heap.size + 1 + 1) (pkCells pk0) 31) := fun W hW => by
    obtain ⟨⟨_, t1, t2⟩, bw⟩ := HA.out W hW
    refine ⟨(set76_chg W (w.heap.size + 1) (w.heap.size + 1 + 1) w.heap.size (w.heap.size + 3) (by omega) (by omega) (by omega) (by omega) _ _ _ _ _ _ _ _).bel bw (Nat.le_refl _), ?_, ?_⟩
    · exact (set6_keep' hVP _).trans (sh_put7 t1 _ _ _ _ _ _ _)
    · exact pk_put ((set7_keep (fun e => hVP e.symm) _ _ _ _ _ _ _).trans t2) pk0
  have TAIL : Hid (∀ W, Below W0.heap.size W0 W → True) := fun _ _ => trivial
  clear TAIL
  cases t0 : shB s N L ts
  case false =>
    have HE : Hid (mayP s N L ts now = false) := by show _ = _; unfold mayP; rw [t0]; rfl
    go_enter Try.func9, Try.ntmps9
    go_upto_region 1 with fail
    rw [HW0.out]
    go_wp2_with (go_at_call 21; refine (ishapeOk_any s a N ca b n c L tn _ HN.out HCN.out HNN.out (LR.go HP.out HB0.out (HB0.out).size) (Row.below HRB.out HB0.out)).mono ?_; rintro e w1 ⟨rfl, b1⟩; rw [HTS.out, t0]; obtain ⟨⟨_, r1, r2⟩, _⟩ := HA.out _ b1; have r1_0 := r1.cell 0; have r1_1 := r1.cell 1; have r1_2 := r1.cell 2; have r1_3 := r1.cell 3; have r1_4 := r1.cell 4; have r1_5 := r1.cell 5; have r1_6 := r1.cell 6; have r1f := r1.frozen; have r2_0 := r2.cell 0; have r2_1 := r2.cell 1; have r2_2 := r2.cell 2; have r2_3 := r2.cell 3; have r2_4 := r2.cell 4; have r2_5 := r2.cell 5; have r2f := r2.frozen; have HB1 : Hid (Below W0.heap.size W0 w1) := b1; clear r1 r2 b1)
    obtain ⟨bo, so, po⟩ := HOUT.out _ HB1.out
    exact bodyPost_ret (ret_shpb Try.results9 rfl rfl rfl so po) rfl (pop_no HE.out bo)
  case true =>
  cases c0 : inB now 0 1000000000000
  case false =>
    have HE : Hid (mayP s N L ts now = false) := by show _ = _; unfold mayP; unfold inB at c0; rw [c0]; exact Bool.and_false _
    go_enter Try.func9, Try.ntmps9
    go_upto_region 1 with fail
    rw [HW0.out]
    go_wp2_with (first
      | (go_at_call 21; refine (ishapeOk_any s a N ca b n c L tn _ HN.out HCN.out HNN.out (LR.go HP.out HB0.out (HB0.out).size) (Row.below HRB.out HB0.out)).mono ?_; rintro e w1 ⟨rfl, b1⟩; rw [HTS.out, t0]; obtain ⟨⟨_, r1, r2⟩, _⟩ := HA.out _ b1; have r1_0 := r1.cell 0; have r1_1 := r1.cell 1; have r1_2 := r1.cell 2; have r1_3 := r1.cell 3; have r1_4 := r1.cell 4; have r1_5 := r1.cell 5; have r1_6 := r1.cell 6; have r1f := r1.frozen; have r2_0 := r2.cell 0; have r2_1 := r2.cell 1; have r2_2 := r2.cell 2; have r2_3 := r2.cell 3; have r2_4 := r2.cell 4; have r2_5 := r2.cell 5; have r2f := r2.frozen; have HB1 : Hid (Below W0.heap.size W0 w1) := b1; clear r1 r2 b1)
      | (go_at_call 31; refine (within_any _ _ _ _).mono ?_; rintro e w2 ⟨rfl, hw2⟩; replace hw2 := hw2.symm; subst hw2; rw [c0]))
    obtain ⟨bo, so, po⟩ := HOUT.out _ HB1.out
    exact bodyPost_ret (ret_shpb Try.results9 rfl rfl rfl so po) rfl (pop_no HE.out bo)
  case true =>
  have hE : mayP s N L ts now = true := by unfold mayP; unfold inB at c0; rw [t0, c0]; rfl
  have HE : Hid (mayP s N L ts now = true) := hE
  obtain ⟨hsp, n0, n1⟩ := mayP_parts hE
  obtain rfl : N = 4 := hsp.2.1
  have HSP : Hid (shP s 4 L ts) := hsp
  clear hE hsp
  go_enter Try.func9, Try.ntmps9
  go_upto_region 1 with fail
  rw [HW0.out]
  clear HW0
  go_upto_region 3 with (first
    | (go_at_call 21; refine (ishapeOk_any s a 4 ca b n c L tn _ HN.out HCN.out HNN.out (LR.go HP.out HB0.out (HB0.out).size) (Row.below HRB.out HB0.out)).mono ?_; rintro e w1 ⟨rfl, b1⟩; rw [HTS.out, t0]; obtain ⟨⟨r0, _, _⟩, bw1⟩ := HA.out _ b1; have HB1 : Hid (Below W0.heap.size W0 w1) := b1; have HBW1 : Hid (Below w.heap.size w w1) := bw1; have r0_0 := r0.cell 0; have r0_1 := r0.cell 1; have r0_2 := r0.cell 2; have r0_3 := r0.cell 3; have r0_4 := r0.cell 4; have r0_5 := r0.cell 5; have r0_6 := r0.cell 6; clear r0 bw1 b1 x0 x1 x2 x3 x4 x5 x6)
    | (go_at_call 31; refine (within_any _ _ _ _).mono ?_; rintro e w2 ⟨rfl, hw2⟩; replace hw2 := hw2.symm; subst hw2; rw [c0]))
  go_upto_region 4 with (go_at_call 32; refine (iownShape_any s a ca b n c L tn _ HCN.out HNN.out (LR.go HP.out HBW1.out (HBW1.out).size) (Row.below HRB.out HBW1.out)).mono ?_; rintro e w3 ⟨B, A, C, cl, y, cy, rfl, lq, tq, b3⟩; have HLQ : Hid (LQ w1.heap.size w3 B 4 A C L) := lq; have HTQ : Hid (TQ w1.heap.size w3 y n cy tn B 4 A) := tq; have HB3 : Hid (Below w1.heap.size w1 w3) := b3; clear lq tq b3)
  obtain ⟨v3, hv3⟩ : ∃ v, w3.alloc (.cells (shCells s (some ⟨B, 0, none⟩) 4 cl y n cy) 29) = v := ⟨_, rfl⟩
  obtain ⟨V, hV⟩ : ∃ V, w3.heap.size = V := ⟨_, rfl⟩
  have sV : Sits v3 V (shCells s (some ⟨B, 0, none⟩) 4 cl y n cy) 29 := by rw [← hv3]; exact Sits.new' hV
  have ba : Below w3.heap.size w3 v3 := by rw [← hv3]; exact (Below.refl _ _).alloc (Nat.le_refl _) _
  have sw3 : SW w1.heap.size v3 V B cl s A C L y n cy tn := ⟨sV, by rw [← hV]; exact (HB3.out).size, by have := (HLQ.out).lt; omega, fun i hi g hg => by have := ((HLQ.out).own i hi).under g hg; omega, fun g hg => by have := (HTQ.out).1.undr g hg; omega, (HLQ.out).below ba, (HTQ.out).below ba⟩
  have b13 : Below w1.heap.size w1 v3 := (HB3.out).trans (ba.mono (HB3.out).size)
  have HSW3 : Hid (SW w1.heap.size v3 V B cl s A C L y n cy tn) := sw3
  have HB13 : Hid (Below w1.heap.size w1 v3) := b13
  have H03 : Hid (Below W0.heap.size W0 v3) := (HB1.out).trans (b13.mono (HB1.out).size)
  have hz1 : w.heap.size + 3 ≤ w1.heap.size := by have := (HB1.out).size; have := HZ0.out; omega
  rw [hv3, hV]
  clear hv3 hV sV ba sw3 b13 HLQ HTQ HB3 r0_0 r0_1 r0_2 r0_3 r0_4 r0_5 r0_6
  obtain ⟨⟨q0, q1, q2⟩, bq⟩ := HA.out _ H03.out
  have y2 := q0.cell 2
  have y6 := q0.cell 6
  have HQ1 : Hid (Sits v3 (w.heap.size + 1) shZero 29) := q1
  have HQ2 : Hid (Sits v3 (w.heap.size + 1 + 1) (pkCells pk0) 31) := q2
  have HBQ : Hid (Below w.heap.size w v3) := bq
  have nx0 := (HSP.out).1.2.2.1.1
  have nx1 := (HSP.out).1.2.2.1.2
  clear q0 q1 q2 bq
  cases hnb : noneB ts s.nx now
  case true =>
    have hlen : ts.length = n := by rw [← HTS.out]; simp
    have HCL : Hid (∀ e, e = Ending.returned (.tuple #[shVal s (some ⟨B, 0, none⟩) 4 cl y n cy, pk0.val, .bool false]) → PopAt s 4 L ts now w e (set6 (set7 v3 (w.heap.size + 1) s (some ⟨B, 0, none⟩) 4 cl y n cy) (w.heap.size + 1 + 1) pk0)) := fun e he => by
      subst he
      have c9 := set76_chg v3 (w.heap.size + 1) (w.heap.size + 1 + 1) (w.heap.size + 1) (w.heap.size + 3) (by omega) (by omega) (by omega) (by omega) s (some ⟨B, 0, none⟩) 4 cl y n cy pk0
      exact pop_none HE.out hnb rfl rfl (MO0.mono (MO0.of_lq (LQ.chg (HSW3.out).lq c9 hz1) (TQ.chg (HSW3.out).tq c9 hz1) HTS.out) (by omega)) hlen.symm (c9.bel HBQ.out (by omega))
    have so : Sits (set6 (set7 v3 (w.heap.size + 1) s (some ⟨B, 0, none⟩) 4 cl y n cy) (w.heap.size + 1 + 1) pk0) (w.heap.size + 1) (shCells s (some ⟨B, 0, none⟩) 4 cl y n cy) 29 := (set6_keep' hVP _).trans (sh_put7 HQ1.out _ _ _ _ _ _ _)
    have po : Sits (set6 (set7 v3 (w.heap.size + 1) s (some ⟨B, 0, none⟩) 4 cl y n cy) (w.heap.size + 1 + 1) pk0) (w.heap.size + 1 + 1) (pkCells pk0) 31 := pk_put (W := set7 v3 (w.heap.size + 1) s (some ⟨B, 0, none⟩) 4 cl y n cy) (p := pk0) ((set7_keep (fun e => hVP e.symm) _ _ _ _ _ _ _).trans HQ2.out) pk0
    have HSO : Hid (Sits _ _ _ _) := so
    have HPO : Hid (Sits _ _ _ _) := po
    have v0 := (HSW3.out).sv.cell 0
    have v1 := (HSW3.out).sv.cell 1
    have v2 := (HSW3.out).sv.cell 2
    have v3' := (HSW3.out).sv.cell 3
    have v4 := (HSW3.out).sv.cell 4
    have v5 := (HSW3.out).sv.cell 5
    have v6 := (HSW3.out).sv.cell 6
    have r1_0 := Sits.cell HQ1.out 0
    have r1_1 := Sits.cell HQ1.out 1
    have r1_2 := Sits.cell HQ1.out 2
    have r1_3 := Sits.cell HQ1.out 3
    have r1_4 := Sits.cell HQ1.out 4
    have r1_5 := Sits.cell HQ1.out 5
    have r1_6 := Sits.cell HQ1.out 6
    have r1f := Sits.frozen HQ1.out
    have r2_0 := Sits.cell HQ2.out 0
    have r2_1 := Sits.cell HQ2.out 1
    have r2_2 := Sits.cell HQ2.out 2
    have r2_3 := Sits.cell HQ2.out 3
    have r2_4 := Sits.cell HQ2.out 4
    have r2_5 := Sits.cell HQ2.out 5
    have r2f := Sits.frozen HQ2.out
    clear so po
    by_cases hn0 : n = 0
    · have hz' : ((n : Int) == 0) = true := by simpa using hn0
      have HN0 : Hid (n = 0) := hn0
      clear hn0 hlen
      go_wp2
      exact bodyPost_ret (ret_shpb (p := pk0) Try.results9 rfl rfl rfl HSO.out HPO.out) rfl (HCL.out _ rfl)
    · have hz' : ((n : Int) == 0) = false := by simpa using hn0
      have hlt : now < s.nx := by
        have := of_decide_eq_true (show decide (ts = [] ∨ now < s.nx) = true from hnb)
        rcases this with e | e
        · rw [e] at hlen; simp at hlen; omega
        · exact e
      clear hlen
      go_wp2
      exact bodyPost_ret (ret_shpb (p := pk0) Try.results9 rfl rfl rfl HSO.out HPO.out) rfl (HCL.out _ rfl)
  case false =>
    obtain ⟨hne, hlt⟩ := none_no hnb
    have hlen : ts.length = n := by rw [← HTS.out]; simp
    have hn4 : n ≤ 4 := by
      have h1 := (show List.Perm _ _ from (HSP.out).2.2.2.1).length_eq
      have h2 := wl_len L 4
      omega
    have hn0 : n ≠ 0 := fun e => hne (List.eq_nil_of_length_eq_zero (by rw [hlen, e]))
    obtain ⟨m, rfl⟩ : ∃ m, n = m + 1 := ⟨n - 1, by omega⟩
    have htb : ∀ i, i < m + 1 → ∃ h : Nat, tn i = (h : Int) ∧ h < 4 ∧ (L h).n ≠ 0 := fun i hi => by
      obtain ⟨h, hh, h4, hnh⟩ := tAt_bd (HSP.out).2.2.2.1 hne i
      refine ⟨h, ?_, h4, hnh⟩
      rw [tAt_lt (by omega), ← HTS.out] at hh
      simpa [List.getD, hi] using hh
    have HTB : Hid (∀ i, i < m + 1 → ∃ h : Nat, tn i = (h : Int) ∧ h < 4 ∧ (L h).n ≠ 0) := htb
    have HZZ : Hid (∀ h, h < 4 → (L h).n ≤ 1048576) := fun h hh => nl_le HSP.out hh
    have HSZ : Hid (∀ i, i < m + 1 → 1 ≤ (fun i => ((L (tn i).toNat).f 0).size) i ∧ (fun i => ((L (tn i).toNat).f 0).size) i ≤ 2000) := fun i hi => by
      obtain ⟨h, hh, h4, hnh⟩ := htb i hi
      dsimp only
      rw [hh, Int.toNat_natCast]
      exact size_good (good_first ((HSP.out).2.2.2.2 h h4) (by omega))
    have HNUM : Hid (numP s) := (HSP.out).1
    have HNE : Hid (ts ≠ []) := hne
    have hz' : (((m + 1 : Nat) : Int) == 0) = false := by simp; omega
    clear hlen hn0 htb
    go_upto_region 6 with fail
    clear y2 y6
    have HBOX : Hid (∀ w' : World, Below v3.heap.size v3 w' → (w'.cell? ⟨w.heap.size, 0, none⟩ = some (.int .i64 s.rt) ∧ w'.cell? ⟨w.heap.size, 1, none⟩ = some (.int .i64 s.ov) ∧ w'.cell? ⟨w.heap.size, 2, none⟩ = some (.int .i64 s.nx) ∧ w'.cell? ⟨w.heap.size, 3, none⟩ = some (.int .i64 s.qt) ∧ w'.cell? ⟨w.heap.size, 4, none⟩ = some (.int .i64 s.lim) ∧ w'.cell? ⟨w.heap.size, 5, none⟩ = some (.slice a 4 ca) ∧ w'.cell? ⟨w.heap.size, 6, none⟩ = some (.slice b (m + 1) c))) := fun w' hb => by
      obtain ⟨⟨q0, _, _⟩, _⟩ := HA.out _ ((H03.out).trans (hb.mono (H03.out).size))
      exact ⟨q0.cell 0, q0.cell 1, q0.cell 2, q0.cell 3, q0.cell 4, q0.cell 5, q0.cell 6⟩
    have hd : Below v3.heap.size v3 v3.drew := (Below.refl _ _).drew
    set_option maxRecDepth 100000 in go_region_held3 (fun w' => (w'.cell? ⟨w.heap.size, 0, none⟩ = some (.int .i64 s.rt) ∧ w'.cell? ⟨w.heap.size, 1, none⟩ = some (.int .i64 s.ov) ∧ w'.cell? ⟨w.heap.size, 2, none⟩ = some (.int .i64 s.nx) ∧ w'.cell? ⟨w.heap.size, 3, none⟩ = some (.int .i64 s.qt) ∧ w'.cell? ⟨w.heap.size, 4, none⟩ = some (.int .i64 s.lim) ∧ w'.cell? ⟨w.heap.size, 5, none⟩ = some (.slice a 4 ca) ∧ w'.cell? ⟨w.heap.size, 6, none⟩ = some (.slice b (m + 1) c))) (first | (with_reducible exact HBOX.out _ hd) | (with_reducible exact HBOX.out _ b5) | (with_reducible exact HBOX.out _ b6) | fail) (first
      | (go_at_call 34; refine (ifirstSizes_any s a ca b (m + 1) c L tn _ hn4 (LR.go HP.out ((HBQ.out).drew) (HBQ.out).size) (Row.below HRB.out ((HBQ.out).drew)) HTB.out HZZ.out).mono ?_; rintro e w5 ⟨z, cz, rfl, hj5, b5'⟩; have b5 : Below v3.heap.size v3 w5 := hd.trans b5'; have HJ5 : Hid (JO v3.heap.size w5 z (m + 1) cz (fun i => ((L (tn i).toNat).f 0).size)) := hj5; clear hj5 b5')
      | (go_at_call 33; refine (icostsOf_any s a 4 ca b (m + 1) c z (m + 1) cz (fun i => ((L (tn i).toNat).f 0).size) _ HNUM.out (by omega) (JO.row HJ5.out) HSZ.out).mono ?_; rintro e w6 ⟨M, D, rfl, hown, hpr, hhas, b6'⟩; have b6 : Below v3.heap.size v3 w6 := b5.trans (b6'.mono b5.size); have HOWN : Hid (w6.ownsMap Try.prog 3 (plainElem Try.prog 3) M (m + 1) D) := hown; have HPR : Hid (Priced s D) := hpr; have HHAS : Hid (∀ i, i < m + 1 → Maps.has D (.int .i64 ((fun i => ((L (tn i).toNat).f 0).size) i)) = true) := hhas; have HB6 : Hid (Below v3.heap.size v3 w6) := b6; clear hown hpr hhas b6'))
    have HSW6 : Hid (SW w1.heap.size w6 V B cl s A C L y (m + 1) cy tn) := (HSW3.out).below b6
    have HMV : Hid (M ≠ V) := ownsMap_ne HOWN.out (HSW6.out).sv
    have HMB : Hid (M ≠ B) := by
      obtain ⟨vs, t, hs, _⟩ := (HSW6.out).lq.sits
      exact ownsMap_ne HOWN.out hs
    have H06 : Hid (Below W0.heap.size W0 w6) := (H03.out).trans (b6.mono (H03.out).size)
    clear b5 hd HBOX HJ5
    go_upto_region 8 with (go_at_call 35; refine (isendFirst_any w1.heap.size V B cl m cy s y A C L tn ts _ HSW6.out HTS.out HSP.out).mono ?_; rintro e w7 ⟨K, hK, rfl, A', C', y', n', cy', tn', sx7, ht7, k7, b7⟩; obtain ⟨p1, hp1⟩ : ∃ p, (L (popHost ts K)).f 0 = p := ⟨_, rfl⟩; rw [hp1]; have HK7 : Hid (StopK ts s.qt (fun i => (L i).sh) K) := hK; have HP1 : Hid (p1 = (L (popHost ts K)).f 0) := hp1.symm; have HSX7 : Hid (SX w1.heap.size w7 V B cl s A' C' (popLn L (shK ts s.qt (fun i => (L i).sh) K) (popHost ts K)) y' n' cy' tn') := sx7; have HT7 : Hid ((List.range n').map tn' = popTs L ts K) := ht7; have HKP7 : Hid (Two2 V B w6 w7) := k7; have HB7 : Hid (Below w1.heap.size w6 w7) := b7; clear hK hp1 sx7 ht7 k7 b7)
    obtain ⟨u7, hu7⟩ : ∃ v, w7.alloc (.cells (pkCells p1) 31) = v := ⟨_, rfl⟩
    obtain ⟨G, hG⟩ : ∃ G, w7.heap.size = G := ⟨_, rfl⟩
    have ba7 : Below w7.heap.size w7 u7 := by rw [← hu7]; exact (Below.refl _ _).alloc (Nat.le_refl _) _
    have sG : Sits u7 G (pkCells p1) 31 := by rw [← hu7]; exact Sits.new' hG
    have HG7 : Hid (Sits u7 G (pkCells p1) 31) := sG
    have HGO : Hid (w.heap.size + 3 ≤ G) := by show _ ≤ _; rw [← hG]; have := (HB7.out).size; have := (HSW6.out).bw; omega
    have HSX8 : Hid (SX w1.heap.size u7 V B cl s A' C' (popLn L (shK ts s.qt (fun i => (L i).sh) K) (popHost ts K)) y' n' cy' tn') := (HSX7.out).below ba7
    have HOWN7 : Hid (u7.ownsMap Try.prog 3 (plainElem Try.prog 3) M (m + 1) D) := ownsMap_keep HOWN.out ((ba7.block M (Nat.lt_of_lt_of_le (HOWN.out).lt (HB7.out).size)).trans ((HKP7.out) M (HOWN.out).lt HMV.out HMB.out))
    obtain ⟨hh, hhh, h4, hnh⟩ := tAt_bd (HSP.out).2.2.2.1 HNE.out K
    have hph : popHost ts K = hh := by unfold popHost; rw [hhh]; exact Int.toNat_natCast hh
    have hlen : ts.length = m + 1 := by rw [← HTS.out]; simp
    have hKm : K % (m + 1) < m + 1 := Nat.mod_lt _ (Nat.succ_pos m)
    have htK : tn (K % (m + 1)) = (hh : Int) := by
      rw [← hhh, ← tAt_mod ts K, hlen, tAt_lt (by rw [hlen]; exact hKm), ← HTS.out]
      simp [List.getD, hKm]
    have hszK : ((L (tn (K % (m + 1))).toNat).f 0).size = p1.size := by rw [htK, Int.toNat_natCast, HP1.out, hph]
    have hgd := size_good (good_first ((HSP.out).2.2.2.2 hh h4) (by omega))
    rw [← hph, ← HP1.out] at hgd
    obtain ⟨hz0, hz1'⟩ := hgd
    have HKEY : Hid (keyOf Try.prog 3 (.int .i64 p1.size) = some (.int .i64 p1.size)) := keyOf_int_mk Try.underlying3 (WalkArith.wf_i64 (by omega))
    obtain ⟨q, hq⟩ : ∃ q, costF s p1.size = q := ⟨_, rfl⟩
    have HATK : Hid (D.atKey (.int .i64 p1.size) (.lit (.int .i64 0)) = .lit (.int .i64 q)) := by
      show _ = _
      have hk := HHAS.out (K % (m + 1)) hKm
      try dsimp only at hk
      rw [hszK] at hk
      rw [← hq]
      exact HPR.out _ hk
    have hqb : 0 ≤ q ∧ q ≤ 2200000001 := by
      obtain ⟨⟨r0, r1⟩, ⟨o0, o1⟩, _⟩ := HNUM.out
      obtain ⟨e0, e1⟩ := cost_small r0 r1 o0 o1 hz0 hz1'
      rw [← hq]; exact up_small e0 e1
    obtain ⟨qb0, qb1⟩ := hqb
    have HQ : Hid (costF s p1.size = q) := hq
    have n1' : 0 ≤ now ∧ now ≤ 1000000000000 := ⟨n0, n1⟩
    have g3 := sG.cell 3
    have x2' := (HSX8.out).sv.cell 2
    have xf := (HSX8.out).sv.frozen
    have H07 : Hid (Below W0.heap.size W0 u7) := (H06.out).trans (((HB7.out).trans (ba7.mono (Nat.le_trans (HSW6.out).bw (HB7.out).size))).mono (HB1.out).size)
    rw [hu7]
    try rw [hG]
    clear hu7 hG ba7 sG hph hhh hlen hKm htK hszK hq
    go_upto_region 9 with (at_lookup; refine wpList_lookup_own_int _ rfl _ _ 69 rfl 3 3 .i64 lawInt Try.underlying69 Try.underlying3 (zeroInt _) M (m + 1) D rfl HOWN7.out _ _ rfl HKEY.out ?_; intro c9 hat hwc; obtain rfl : c9 = q := (by have := hat.symm.trans HATK.out; simpa using this); clear hat hwc)
    obtain ⟨u8, hu8⟩ : ∃ v, u7.setCell ⟨V, 2, none⟩ (.int .i64 (now + c9)) = v := ⟨_, rfl⟩
    have sx9 := (HSX8.out).next (now + c9)
    rw [hu8] at sx9 ⊢
    obtain ⟨S1, hS1⟩ : ∃ S, (⟨s.rt, s.ov, now + c9, s.qt, s.lim⟩ : Sh) = S := ⟨_, rfl⟩
    obtain ⟨LL, hLL⟩ : ∃ l, popLn L (shK ts s.qt (fun i => (L i).sh) K) (popHost ts K) = l := ⟨_, rfl⟩
    obtain ⟨TT, hTT⟩ : ∃ l, popTs L ts K = l := ⟨_, rfl⟩
    rw [hS1, hLL] at sx9
    have HS1 : Hid (S1 = ⟨s.rt, s.ov, now + costF s ((L (popHost ts K)).f 0).size, s.qt, s.lim⟩) := by show _ = _; rw [← hS1, ← HP1.out, HQ.out]
    have HL1 : Hid (LL = popLn L (shK ts s.qt (fun i => (L i).sh) K) (popHost ts K)) := hLL.symm
    have HTT : Hid (TT = popTs L ts K) := hTT.symm
    have HTE : Hid ((List.range n').map tn' = TT) := by show _ = _; rw [← hTT]; exact HT7.out
    have HNL : Hid (n' = TT.length) := by show _ = _; have := congrArg List.length HTE.out; simpa using this
    have HSX9 : Hid (SX w1.heap.size u8 V B cl S1 A' C' LL y' n' cy' tn') := sx9
    have lV9 := (HSX8.out).sv.lt
    have lG9 := Sits.lt HG7.out
    have hVw := (HSX8.out).bV
    have hGV : G ≠ V := by have := (HB7.out).size; have := (HSW6.out).sv.lt; have := Sits.lt HG7.out; intro e; subst e; have h1 := HG7.out; have h2 := (HSX8.out).sv; have h3 : (Obj.cells (pkCells p1) 31) = .cells _ 29 := Option.some.inj ((show u7.heap[G]? = some _ from h1).symm.trans h2); simp at h3
    have hGo : w.heap.size + 3 ≤ G := HGO.out
    have sG9 : Sits u8 G (pkCells p1) 31 := by rw [← hu8]; exact Sits.other HG7.out hGV _
    have HK : Hid (∀ w' : World, w'.heap[V]? = u8.heap[V]? → w'.heap[G]? = u8.heap[G]? → (w'.cell? ⟨V, 0, none⟩ = some (.int .i64 S1.rt) ∧ w'.cell? ⟨V, 1, none⟩ = some (.int .i64 S1.ov) ∧ w'.cell? ⟨V, 2, none⟩ = some (.int .i64 S1.nx) ∧ w'.cell? ⟨V, 3, none⟩ = some (.int .i64 S1.qt) ∧ w'.cell? ⟨V, 4, none⟩ = some (.int .i64 S1.lim) ∧ w'.cell? ⟨V, 5, none⟩ = some (.slice (some ⟨B, 0, none⟩) 4 cl) ∧ w'.cell? ⟨V, 6, none⟩ = some (.slice y' n' cy')) ∧ (w'.cell? ⟨G, 0, none⟩ = some (.int .i64 p1.id) ∧ w'.cell? ⟨G, 1, none⟩ = some (.int .i64 p1.flow) ∧ w'.cell? ⟨G, 2, none⟩ = some (.int .i64 p1.host) ∧ w'.cell? ⟨G, 3, none⟩ = some (.int .i64 p1.size) ∧ w'.cell? ⟨G, 4, none⟩ = some (.int .i64 p1.tm) ∧ w'.cell? ⟨G, 5, none⟩ = some (.int .i64 p1.ecn))) := fun w' e1 e2 => by
      have t1 : Sits w' V (shCells S1 (some ⟨B, 0, none⟩) 4 cl y' n' cy') 29 := e1.trans sx9.sv
      have t2 : Sits w' G (pkCells p1) 31 := e2.trans sG9
      exact ⟨⟨t1.cell 0, t1.cell 1, t1.cell 2, t1.cell 3, t1.cell 4, t1.cell 5, t1.cell 6⟩, ⟨t2.cell 0, t2.cell 1, t2.cell 2, t2.cell 3, t2.cell 4, t2.cell 5⟩⟩
    obtain ⟨⟨_, r1, r2⟩, bw7⟩ := HA.out _ H07.out
    have R1 : Sits u8 (w.heap.size + 1) shZero 29 := by rw [← hu8]; exact r1.other (by omega) _
    have R2 : Sits u8 (w.heap.size + 1 + 1) (pkCells pk0) 31 := by rw [← hu8]; exact r2.other (by omega) _
    have HR1 : Hid (Sits u8 (w.heap.size + 1) shZero 29) := R1
    have HR2 : Hid (Sits u8 (w.heap.size + 1 + 1) (pkCells pk0) 31) := R2
    have HBW8 : Hid (Below w.heap.size w u8) := by show Below _ _ _; rw [← hu8]; exact bw7.setCell (show w.heap.size ≤ V by omega) _
    have r1_0 := R1.cell 0
    have r1_1 := R1.cell 1
    have r1_2 := R1.cell 2
    have r1_3 := R1.cell 3
    have r1_4 := R1.cell 4
    have r1_5 := R1.cell 5
    have r1_6 := R1.cell 6
    have r1f := R1.frozen
    have r2_0 := R2.cell 0
    have r2_1 := R2.cell 1
    have r2_2 := R2.cell 2
    have r2_3 := R2.cell 3
    have r2_4 := R2.cell 4
    have r2_5 := R2.cell 5
    have r2f := R2.frozen
    have hV1 : V ≠ w.heap.size + 1 := by omega
    have hV2 : V ≠ w.heap.size + 1 + 1 := by omega
    have hG1 : G ≠ w.heap.size + 1 := by omega
    have hG2 : G ≠ w.heap.size + 1 + 1 := by omega
    have hd1 : u8.drew.heap[V]? = u8.heap[V]? := rfl
    have hd2 : u8.drew.heap[G]? = u8.heap[G]? := rfl
    have hd3 : (set7 u8 (w.heap.size + 1) S1 (some ⟨B, 0, none⟩) 4 cl y' n' cy').drew.heap[V]? = u8.heap[V]? := drew_keep (set7_keep hV1 S1 (some ⟨B, 0, none⟩) 4 cl y' n' cy')
    have hd4 : (set7 u8 (w.heap.size + 1) S1 (some ⟨B, 0, none⟩) 4 cl y' n' cy').drew.heap[G]? = u8.heap[G]? := drew_keep (set7_keep hG1 S1 (some ⟨B, 0, none⟩) 4 cl y' n' cy')
    have hd5 : (set6 (set7 u8 (w.heap.size + 1) S1 (some ⟨B, 0, none⟩) 4 cl y' n' cy') (w.heap.size + 1 + 1) p1).drew.heap[V]? = u8.heap[V]? := drew_keep ((set6_keep' hV2 p1).trans (set7_keep hV1 S1 (some ⟨B, 0, none⟩) 4 cl y' n' cy'))
    have hd6 : (set6 (set7 u8 (w.heap.size + 1) S1 (some ⟨B, 0, none⟩) 4 cl y' n' cy') (w.heap.size + 1 + 1) p1).drew.heap[G]? = u8.heap[G]? := drew_keep ((set6_keep' hG2 p1).trans (set7_keep hG1 S1 (some ⟨B, 0, none⟩) 4 cl y' n' cy'))
    clear hS1 hLL hTT hu8 sx9 sG9 r1 r2 R1 R2 bw7 g3 x2' xf hGV
    set_option maxRecDepth 100000 in go_region_held3 (fun w' => (w'.cell? ⟨V, 0, none⟩ = some (.int .i64 S1.rt) ∧ w'.cell? ⟨V, 1, none⟩ = some (.int .i64 S1.ov) ∧ w'.cell? ⟨V, 2, none⟩ = some (.int .i64 S1.nx) ∧ w'.cell? ⟨V, 3, none⟩ = some (.int .i64 S1.qt) ∧ w'.cell? ⟨V, 4, none⟩ = some (.int .i64 S1.lim) ∧ w'.cell? ⟨V, 5, none⟩ = some (.slice (some ⟨B, 0, none⟩) 4 cl) ∧ w'.cell? ⟨V, 6, none⟩ = some (.slice y' n' cy')) ∧ (w'.cell? ⟨G, 0, none⟩ = some (.int .i64 p1.id) ∧ w'.cell? ⟨G, 1, none⟩ = some (.int .i64 p1.flow) ∧ w'.cell? ⟨G, 2, none⟩ = some (.int .i64 p1.host) ∧ w'.cell? ⟨G, 3, none⟩ = some (.int .i64 p1.size) ∧ w'.cell? ⟨G, 4, none⟩ = some (.int .i64 p1.tm) ∧ w'.cell? ⟨G, 5, none⟩ = some (.int .i64 p1.ecn))) (first | (with_reducible exact HK.out _ hd1 hd2) | (with_reducible exact HK.out _ hd3 hd4) | (with_reducible exact HK.out _ hd5 hd6) | fail) (fail)
    all_goals go_wp2
    all_goals
      have so : Sits (set6 (set7 u8 (w.heap.size + 1) S1 (some ⟨B, 0, none⟩) 4 cl y' n' cy') (w.heap.size + 1 + 1) p1) (w.heap.size + 1) (shCells S1 (some ⟨B, 0, none⟩) 4 cl y' n' cy') 29 := (set6_keep' hVP _).trans (sh_put7 HR1.out _ _ _ _ _ _ _)
      have po : Sits (set6 (set7 u8 (w.heap.size + 1) S1 (some ⟨B, 0, none⟩) 4 cl y' n' cy') (w.heap.size + 1 + 1) p1) (w.heap.size + 1 + 1) (pkCells p1) 31 := pk_put (W := set7 u8 (w.heap.size + 1) S1 (some ⟨B, 0, none⟩) 4 cl y' n' cy') (p := pk0) ((set7_keep (fun e => hVP e.symm) _ _ _ _ _ _ _).trans HR2.out) p1
      have k9 := chg_drew (set76_chg u8 (w.heap.size + 1) (w.heap.size + 1 + 1) (w.heap.size + 1) (w.heap.size + 3) (by omega) (by omega) (by omega) (by omega) S1 (some ⟨B, 0, none⟩) 4 cl y' n' cy' p1)
      have hm := MO0.mono (MO0.chg (MO0.of_sx HSX9.out HTE.out) k9 hz1) (show w.heap.size ≤ w1.heap.size by omega)
      refine bodyPost_ret (ret_shpb (p := p1) Try.results9 rfl rfl rfl (sits_drew so) (sits_drew po)) rfl ?_
      exact pop_some HE.out hnb HK7.out HS1.out HL1.out HTT.out HP1.out hm HNL.out (k9.bel HBW8.out (Nat.le_succ _))

end Go.Proofs.Ytmjggolllijamaa
