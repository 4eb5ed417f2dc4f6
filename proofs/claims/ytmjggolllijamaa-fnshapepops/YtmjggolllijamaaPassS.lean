/-
  WHO GOES OUT OF A SHAPER, AS THE SPECIFICATION SAYS: l8pop.
-/
import Derived.Test.YtmjggolllijamaaShapeW
import Derived.Test.YtmjggolllijamaaCostF
import Derived.Test.YtmjggolllijamaaTailA
import Derived.Test.YtmjggolllijamaaQTail
import Derived.Deep.Cut
import Derived.Deep.RegionLaw
import Derived.Deep.Quiet
import Derived.Deep.QuietTactic
import Derived.BigQuiet
namespace Go.Proofs.Ytmjggolllijamaa
open Go.RowKit
set_option linter.unusedVariables false
attribute [local go_sem ↓] slice_tail_in slice_tail_pk

theorem ret_pkb {fn : Func} {tmps : Array Value} {W : World} {i j B : Nat} {p : Pk} {b : Bool} {t : TypeId} (hr : fn.results = #[.cell i 31, .tmp j]) (hi : tmps[i]?.getD undef = .pointer (some ⟨B, 0, none⟩)) (hj : tmps[j]?.getD undef = .bool b) (hs : Sits W B (pkCells p) t) : (results fn tmps).run Try.prog W = .ok (.tuple #[p.val, .bool b]) W := by
  have c0 : W.cell? ⟨B, 0, none⟩ = some (.int .i64 p.id) := hs.cell 0
  have c1 : W.cell? ⟨B, 1, none⟩ = some (.int .i64 p.flow) := hs.cell 1
  have c2 : W.cell? ⟨B, 2, none⟩ = some (.int .i64 p.host) := hs.cell 2
  have c3 : W.cell? ⟨B, 3, none⟩ = some (.int .i64 p.size) := hs.cell 3
  have c4 : W.cell? ⟨B, 4, none⟩ = some (.int .i64 p.tm) := hs.cell 4
  have c5 : W.cell? ⟨B, 5, none⟩ = some (.int .i64 p.ecn) := hs.cell 5
  simp [results, hr, hi, hj, go_sem, c0, c1, c2, c3, c4, c5]
theorem pk_put {W : World} {V : Nat} {p : Pk} {t : TypeId} (h : Sits W V (pkCells p) t) (q : Pk) : Sits ((((((W.setCell ⟨V, 0, none⟩ (.int .i64 q.id)).setCell ⟨V, 1, none⟩ (.int .i64 q.flow)).setCell ⟨V, 2, none⟩ (.int .i64 q.host)).setCell ⟨V, 3, none⟩ (.int .i64 q.size)).setCell ⟨V, 4, none⟩ (.int .i64 q.tm)).setCell ⟨V, 5, none⟩ (.int .i64 q.ecn)) V (pkCells q) t := by
  have := (((((h.set 0 (.int .i64 q.id)).set 1 (.int .i64 q.flow)).set 2 (.int .i64 q.host)).set 3 (.int .i64 q.size)).set 4 (.int .i64 q.tm)).set 5 (.int .i64 q.ecn)
  simpa using this
theorem set6_keep {w : World} {V k : Nat} (hk : k ≠ V) (v0 v1 v2 v3 v4 v5 : Value) : ((((((w.setCell ⟨V, 0, none⟩ v0).setCell ⟨V, 1, none⟩ v1).setCell ⟨V, 2, none⟩ v2).setCell ⟨V, 3, none⟩ v3).setCell ⟨V, 4, none⟩ v4).setCell ⟨V, 5, none⟩ v5).heap[k]? = w.heap[k]? := by
  rw [Below.heap_setCell _ _ _ k hk, Below.heap_setCell _ _ _ k hk, Below.heap_setCell _ _ _ k hk, Below.heap_setCell _ _ _ k hk, Below.heap_setCell _ _ _ k hk, Below.heap_setCell _ _ _ k hk]
theorem set6_below {a w : World} {n V : Nat} (h : Below n a w) (hV : n ≤ V) (v0 v1 v2 v3 v4 v5 : Value) : Below n a ((((((w.setCell ⟨V, 0, none⟩ v0).setCell ⟨V, 1, none⟩ v1).setCell ⟨V, 2, none⟩ v2).setCell ⟨V, 3, none⟩ v3).setCell ⟨V, 4, none⟩ v4).setCell ⟨V, 5, none⟩ v5) :=
  (((((h.setCell (show n ≤ V from hV) _).setCell (show n ≤ V from hV) _).setCell (show n ≤ V from hV) _).setCell (show n ≤ V from hV) _).setCell (show n ≤ V from hV) _).setCell (show n ≤ V from hV) _

/-- What lacks, read off the lines' cells. -/
def numAt (w : World) (b o : Nat) : Int := match w.cell? ⟨b, o, none⟩ with | some (.int _ v) => v | _ => 0
def lackW (B : Nat) (w : World) : Nat := lackM fun i => numAt w B (i * 9 + 1)
theorem SW.lack {base : Nat} {w : World} {V B cl : Nat} {s : Sh} {A : Nat → Option Addr} {C : Nat → Nat} {L : Nat → Ln} {y : Option Addr} {n cy : Nat} {tn : Nat → Int} {f : Nat → Int} (h : SW base w V B cl s A C (lnSh L f) y n cy tn) : lackW B w = lackM f := by
  unfold lackW lackM
  have e : ∀ i, i < 4 → numAt w B (i * 9 + 1) = f i := fun i hi => by
    unfold numAt; rw [(h.at hi).2]; rfl
  dsimp only
  rw [e 0 (by omega), e 1 (by omega), e 2 (by omega), e 3 (by omega)]
theorem lnSh_hit {L : Nat → Ln} {ts : List Int} {q : Int} {sh : Nat → Int} {k h : Nat} (e : tAt ts k = (h : Int)) :
    (fun i => if i = h then (⟨(lnSh L (shK ts q sh k) h).n, (lnSh L (shK ts q sh k) h).f, shK ts q sh k h + q, (lnSh L (shK ts q sh k) h).cd⟩ : Ln) else lnSh L (shK ts q sh k) i) = lnSh L (shK ts q sh (k + 1)) := by
  funext i
  rw [shK_hit e]
  by_cases hi : i = h
  · subst hi; simp [lnSh]
  · simp [lnSh, hi]
theorem SW.slc {base : Nat} {w : World} {V B cl : Nat} {s : Sh} {A : Nat → Option Addr} {C : Nat → Nat} {L : Nat → Ln} {y : Option Addr} {n cy : Nat} {tn : Nat → Int} (h : SW base w V B cl s A C L y n cy tn) (hn : 0 < n) : ∃ g : Nat, y = some ⟨g, 0, none⟩ ∧ g < w.heap.size ∧ n ≤ cy ∧ ∀ i, i < n → w.cell? ⟨g, i, none⟩ = some (.int .i64 (tn i)) := by
  rcases h.tq.1.own with e | ⟨g, ha, hg, ho⟩
  · omega
  · exact ⟨g, ha, ho.1, h.tq.1.cap, fun i hi => (ho.2 i hi).1⟩
/-- A packet's list behind its first. -/
theorem SW.pkt {base : Nat} {w : World} {V B cl : Nat} {s : Sh} {A : Nat → Option Addr} {C : Nat → Nat} {L : Nat → Ln} {y : Option Addr} {n cy : Nat} {tn : Nat → Int} (h : SW base w V B cl s A C L y n cy tn) {j : Nat} (hj : j < 4) (hn : 0 < (L j).n) : ∃ g : Nat, A j = some ⟨g, 0, none⟩ ∧ g < w.heap.size ∧ (L j).n ≤ C j ∧ ∀ i, i < (L j).n → PAt w g (i * 6) ((L j).f i) := by
  rcases (h.lq.own j hj).zi with e | ⟨g, ha, _, h2, ho⟩
  · omega
  · exact ⟨g, ha, h2, (h.lq.own j hj).cap, fun i hi => pat_of ho hi⟩

theorem good_first {i : Int} {l : Ln} (h : hlnP i l) (hn : 0 < l.n) : (l.f 0).good = true := by
  have hf := h.2.2.1
  unfold fifoB at hf
  simp only [Bool.and_eq_true] at hf
  exact ((show lineP l.f l.n from of_decide_eq_true hf.2.2) 0 hn).1
theorem size_good {p : Pk} (h : p.good = true) : 1 ≤ p.size ∧ p.size ≤ 2000 := by
  unfold Pk.good inB at h
  simp only [Bool.and_eq_true, decide_eq_true_eq] at h
  omega
theorem nl_le {s : Sh} {L : Nat → Ln} {ts : List Int} (h : shP s 4 L ts) {j : Nat} (hj : j < 4) : (L j).n ≤ 1048576 := by
  have h1 := cntF_le L hj
  have h2 := h.2.2.1
  have h3 := h.1.2.2.2.2.2
  omega
theorem pk_empty_new' (W : World) (base g : Nat) (hg : W.heap.size = g) (hb : base ≤ g) : (W.alloc (.cells #[] 31)).ownsRow base 31 6 (.slice (some ⟨g, 0, none⟩) 0 0) 0 [] := pk_empty _ _ _ hb (by subst hg; exact World.alloc_heap_new W _)

theorem l8pop_end {base V B cl : Nat} {s : Sh} {A : Nat → Option Addr} {C : Nat → Nat} {L : Nat → Ln} {ts : List Int} {now : Int} {w w14 : World} {k h : Nat} {x : Option Addr} {cx : Nat} {y' : Option Addr} {n' cy' : Nat} {tn' : Nat → Int} {p : Pk} {q : Int} {F : Nat}
    (hbw : base ≤ w.heap.size) (he : noneB ts s.nx now = false) (hst : StopK ts s.qt (fun i => (L i).sh) k) (hph : popHost ts k = h) (hpp : (L h).f 0 = p) (hq : costF s p.size = q)
    (sw : SW base w14 V B cl ⟨s.rt, s.ov, now + q, s.qt, s.lim⟩ (fun i => if i = h then x else A i) (fun i => if i = h then cx else C i) (popLn L (shK ts s.qt (fun i => (L i).sh) k) h) y' n' cy' tn') (ht : (List.range n').map tn' = popTs L ts k)
    (hx : ∀ b, x = some b → F < b.block) (hPF : w.heap.size < F) (hA : ∀ i, i < 4 → ∀ g, A i = some g → g.block < w.heap.size) (hy : ∀ b, y' = some b → b.block ≠ w.heap.size) (hV : V < w.heap.size) (hB : B < w.heap.size) (hb : Below base w w14) :
    (noneB ts s.nx now = true ∧ Ending.returned (.tuple #[p.val, .bool true]) = .returned (.tuple #[pk0.val, .bool false]) ∧ Below w.heap.size w ((((((w14.setCell ⟨w.heap.size, 0, none⟩ (.int .i64 p.id)).setCell ⟨w.heap.size, 1, none⟩ (.int .i64 p.flow)).setCell ⟨w.heap.size, 2, none⟩ (.int .i64 p.host)).setCell ⟨w.heap.size, 3, none⟩ (.int .i64 p.size)).setCell ⟨w.heap.size, 4, none⟩ (.int .i64 p.tm)).setCell ⟨w.heap.size, 5, none⟩ (.int .i64 p.ecn))) ∨
      (noneB ts s.nx now = false ∧ ∃ K, StopK ts s.qt (fun i => (L i).sh) K ∧ Ending.returned (.tuple #[p.val, .bool true]) = .returned (.tuple #[((L (popHost ts K)).f 0).val, .bool true]) ∧
        ∃ (A' : Nat → Option Addr) (C' : Nat → Nat) (y' : Option Addr) (n' cy' : Nat) (tn' : Nat → Int), SW base ((((((w14.setCell ⟨w.heap.size, 0, none⟩ (.int .i64 p.id)).setCell ⟨w.heap.size, 1, none⟩ (.int .i64 p.flow)).setCell ⟨w.heap.size, 2, none⟩ (.int .i64 p.host)).setCell ⟨w.heap.size, 3, none⟩ (.int .i64 p.size)).setCell ⟨w.heap.size, 4, none⟩ (.int .i64 p.tm)).setCell ⟨w.heap.size, 5, none⟩ (.int .i64 p.ecn)) V B cl ⟨s.rt, s.ov, now + costF s ((L (popHost ts K)).f 0).size, s.qt, s.lim⟩ A' C' (popLn L (shK ts s.qt (fun i => (L i).sh) K) (popHost ts K)) y' n' cy' tn' ∧ (List.range n').map tn' = popTs L ts K ∧ Below base w ((((((w14.setCell ⟨w.heap.size, 0, none⟩ (.int .i64 p.id)).setCell ⟨w.heap.size, 1, none⟩ (.int .i64 p.flow)).setCell ⟨w.heap.size, 2, none⟩ (.int .i64 p.host)).setCell ⟨w.heap.size, 3, none⟩ (.int .i64 p.size)).setCell ⟨w.heap.size, 4, none⟩ (.int .i64 p.tm)).setCell ⟨w.heap.size, 5, none⟩ (.int .i64 p.ecn))) := by
  have e1 : (L (popHost ts k)).f 0 = p := by rw [hph, hpp]
  refine .inr ⟨he, k, hst, by rw [e1], fun i => if i = h then x else A i, fun i => if i = h then cx else C i, y', n', cy', tn', ?_, ht, set6_below hb hbw _ _ _ _ _ _⟩
  rw [e1, hph, hq]
  refine sw.keep (set6_keep (by omega) _ _ _ _ _ _) (set6_keep (by omega) _ _ _ _ _ _) (fun i hi b hb => set6_keep ?_ _ _ _ _ _ _) (fun b hb => set6_keep (hy b hb) _ _ _ _ _ _)
  by_cases e : i = h
  · rw [if_pos e] at hb; have := hx b hb; omega
  · rw [if_neg e] at hb; have := hA i hi b hb; omega

set_option maxRecDepth 100000 in
set_option maxHeartbeats 8000000 in
theorem l8pop_any (base V B cl n cy : Nat) (s : Sh) (y : Option Addr) (A : Nat → Option Addr) (C : Nat → Nat) (L : Nat → Ln) (tn : Nat → Int) (ts : List Int) (now : Int) (w : World)
    (hW : SW base w V B cl s A C L y n cy tn) (hts : (List.range n).map tn = ts) (hsp : shP s 4 L ts) (n0 : 0 ≤ now) (n1 : now ≤ 1000000000000) :
    Calls Try.prog 28 #[.pointer (some ⟨V, 0, none⟩), .int .i64 now] w fun e w' =>
      (noneB ts s.nx now = true ∧ e = .returned (.tuple #[pk0.val, .bool false]) ∧ Below w.heap.size w w') ∨
      (noneB ts s.nx now = false ∧ ∃ K, StopK ts s.qt (fun i => (L i).sh) K ∧ e = .returned (.tuple #[((L (popHost ts K)).f 0).val, .bool true]) ∧
        ∃ (A' : Nat → Option Addr) (C' : Nat → Nat) (y' : Option Addr) (n' cy' : Nat) (tn' : Nat → Int), SW base w' V B cl ⟨s.rt, s.ov, now + costF s ((L (popHost ts K)).f 0).size, s.qt, s.lim⟩ A' C' (popLn L (shK ts s.qt (fun i => (L i).sh) K) (popHost ts K)) y' n' cy' tn' ∧ (List.range n').map tn' = popTs L ts K ∧ Below base w w') := by
  have HSW : Hid (SW base w V B cl s A C L y n cy tn) := hW
  have HTS : Hid ((List.range n).map tn = ts) := hts
  have HSP : Hid (shP s 4 L ts) := hsp
  have hlen : ts.length = n := by rw [← hts]; simp
  have HLEN : Hid (ts.length = n) := hlen
  have nx0 : 0 ≤ s.nx := hsp.1.2.2.1.1
  have nx1 : s.nx ≤ 4000000000000 := hsp.1.2.2.1.2
  have q0 : 1 ≤ s.qt := hsp.1.2.2.2.1.1
  have q1 : s.qt ≤ 10000 := hsp.1.2.2.2.1.2
  have hlV := hW.sv.lt
  have hlB := hW.lq.lt
  have hn4 : n ≤ 4 := by
    have h1 := (show List.Perm _ _ from hsp.2.2.2.1).length_eq
    have h2 := wl_len L 4
    omega
  obtain ⟨W0, hW0⟩ : ∃ W, w.alloc (.cells (pkCells pk0) 31) = W := ⟨_, rfl⟩
  have s1 : Sits W0 w.heap.size (pkCells pk0) 31 := by rw [← hW0]; exact Sits.new _ _ _
  have b0 : Below w.heap.size w W0 := by rw [← hW0]; exact (Below.refl _ w).alloc (Nat.le_refl _) _
  have HW0 : Hid (w.alloc (.cells (pkCells pk0) 31) = W0) := hW0
  have HB0 : Hid (Below w.heap.size w W0) := b0
  have HS1 : Hid (Sits W0 w.heap.size (pkCells pk0) 31) := s1
  have w0 := hW.below b0
  have HSW0 : Hid (SW base W0 V B cl s A C L y n cy tn) := w0
  have x2 := w0.sv.cell 2
  have x6 := w0.sv.cell 6
  clear hW hts hsp hlen s1 b0 hW0 w0
  go_enter Try.func28, Try.ntmps28
  go_upto_region 1 with fail
  rw [HW0.out]
  clear HW0
  by_cases hz : n = 0
  · have HE : Hid (noneB ts s.nx now = true) := decide_eq_true (.inl (List.eq_nil_of_length_eq_zero (by rw [HLEN.out, hz])))
    subst hz
    have c0 := Sits.cell HS1.out 0
    have c1 := Sits.cell HS1.out 1
    have c2 := Sits.cell HS1.out 2
    have c3 := Sits.cell HS1.out 3
    have c4 := Sits.cell HS1.out 4
    have c5 := Sits.cell HS1.out 5
    have cf := Sits.frozen HS1.out
    go_wp2
    refine bodyPost_ret (ret_pkb (p := pk0) Try.results28 rfl rfl (pk_put HS1.out pk0)) rfl ?_
    exact .inl ⟨HE.out, rfl, set6_below HB0.out (Nat.le_refl _) _ _ _ _ _ _⟩
  have hz' : ((n : Int) == 0) = false := by simpa using hz
  have HNE : Hid (ts ≠ []) := fun e => by have := HLEN.out; rw [e] at this; simp at this; omega
  by_cases ht : now < s.nx
  · have HE : Hid (noneB ts s.nx now = true) := decide_eq_true (.inr ht)
    have c0 := Sits.cell HS1.out 0
    have c1 := Sits.cell HS1.out 1
    have c2 := Sits.cell HS1.out 2
    have c3 := Sits.cell HS1.out 3
    have c4 := Sits.cell HS1.out 4
    have c5 := Sits.cell HS1.out 5
    have cf := Sits.frozen HS1.out
    go_wp2
    refine bodyPost_ret (ret_pkb (p := pk0) Try.results28 rfl rfl (pk_put HS1.out pk0)) rfl ?_
    exact .inl ⟨HE.out, rfl, set6_below HB0.out (Nat.le_refl _) _ _ _ _ _ _⟩
  have HE : Hid (noneB ts s.nx now = false) := decide_eq_false (fun e => e.elim (fun e => HNE.out e) ht)
  --GEN
  obtain ⟨m, rfl⟩ : ∃ m, n = m + 1 := ⟨n - 1, by omega⟩
  have hnp : 0 < m + 1 := by omega
  have HS0 : Hid (∀ i, i < 4 → -2000 ≤ (L i).sh ∧ (L i).sh ≤ 12000) := fun i hi => ((HSP.out).2.2.2.2 i hi).2.1
  go_wp2
  clear x2 x6
  go_loopw [6] (fun i6 wr => ∃ (k : Nat) (y : Option Addr) (cy : Nat) (tn : Nat → Int), SW base wr V B cl s A C (lnSh L (shK ts s.qt (fun i => (L i).sh) k)) y (m + 1) cy tn ∧ (∀ i, i < m + 1 → tn i = tAt ts (k + i)) ∧ Past ts s.qt (fun i => (L i).sh) k ∧ (∀ g, y = some g → g.block ≠ w.heap.size) ∧ Sits wr w.heap.size (pkCells pk0) 31 ∧ Below base w wr) (fun _ wr => lackW B wr)
  case atStart =>
    refine ⟨0, y, cy, tn, HSW0.out, fun i hi => ?_, Past.zero _ _ _, fun g hg => ?_, HS1.out, (HB0.out).mono (HSW.out).bw⟩
    · rw [Nat.zero_add, tAt_lt (by rw [HLEN.out]; exact hi), ← HTS.out]
      simp [List.getD, hi]
    · have := (HSW.out).tq.1.undr g hg; omega
  case round =>
    clear HS1 HB0 HSW0
    obtain ⟨k, y, cy, tn, sw, htn, hpast, hyP, hP, hB⟩ := hrel
    obtain ⟨h, hh, h4, hnh⟩ := tAt_bd (HSP.out).2.2.2.1 HNE.out k
    obtain ⟨g, rfl, hg, hcy, hcs⟩ := sw.slc hnp
    have e0 := hcs 0 hnp
    rw [htn 0 hnp, Nat.add_zero, hh] at e0
    have sb := shK_bd q0 q1 HS0.out k hpast h h4
    have ab : wr.cell? ⟨B, h * 9 + 1, none⟩ = some (.int .i64 (shK ts s.qt (fun i => (L i).sh) k h)) := (sw.at h4).2
    have fB := sw.lq.frozen
    have x3 := sw.sv.cell 3
    have x5 := sw.sv.cell 5
    have x6 := sw.sv.cell 6
    have h4i : (h : Int) < 4 := by omega
    have hni : (0 : Int) < ((m + 1 : Nat) : Int) := by omega
    obtain ⟨sh, hsh⟩ : ∃ v, shK ts s.qt (fun i => (L i).sh) k h = v := ⟨_, rfl⟩
    rw [hsh] at ab sb
    obtain ⟨sb0, sb1⟩ := sb
    have HTLR : Hid (∀ W, Below wr.heap.size wr W → Row .i64 W (tlA g cy 1) m (fun i => tn (i + 1))) := fun W hb => tl_row hcy (Nat.lt_of_lt_of_le hg hb.size) fun i hi => (hb.cell (p := ⟨g, i, none⟩) hg).trans (hcs i hi)
    by_cases hle : sh ≤ 0
    · go_wp2
      go_region
      go_upto_region 5 with fail
      go_region
      go_upto_region 6 with fail
      obtain ⟨v5, hv5⟩ : ∃ v, (wr.setCell ⟨B, h * 9 + 1, none⟩ (.int .i64 (sh + s.qt))).drew.drew = v := ⟨_, rfl⟩
      have sw5 : SW base v5 V B cl s A C (lnSh L (shK ts s.qt (fun i => (L i).sh) (k + 1))) (some ⟨g, 0, none⟩) (m + 1) cy tn := by rw [← hv5, ← lnSh_hit hh, hsh]; exact (sw.short h4 _).drew.drew
      have P5 : Sits v5 w.heap.size (pkCells pk0) 31 := by rw [← hv5]; exact Sits.drew' (Sits.drew' (hP.other (by omega) _))
      have B5 : Below base w v5 := by rw [← hv5]; exact ((hB.setCell sw.lq.lo _).drew).drew
      have L5 : lackW B v5 < lackW B wr := by rw [sw5.lack, sw.lack]; exact lack_less q0 hh h4 (by rw [hsh]; exact hle)
      have hp5 : Past ts s.qt (fun i => (L i).sh) (k + 1) := hpast.next (by rw [hh]; show shK ts s.qt (fun i => (L i).sh) k (h : Int).toNat ≤ 0; rw [Int.toNat_natCast, hsh]; exact hle)
      rw [hv5]
      have HSW5 : Hid (SW base v5 V B cl s A C (lnSh L (shK ts s.qt (fun i => (L i).sh) (k + 1))) (some ⟨g, 0, none⟩) (m + 1) cy tn) := sw5
      have HP5 : Hid (Sits v5 w.heap.size (pkCells pk0) 31) := P5
      have HB5 : Hid (Below base w v5) := B5
      have HL5 : Hid (lackW B v5 < lackW B wr) := L5
      have HPA5 : Hid (Past ts s.qt (fun i => (L i).sh) (k + 1)) := hp5
      have HTN : Hid (∀ i, i < m + 1 → tn i = tAt ts (k + i)) := htn
      have HHH : Hid (tAt ts k = (h : Int)) := hh
      have hP5 : w.heap.size < v5.heap.size := P5.lt
      have z6 := sw5.sv.cell 6
      have lV5 := sw5.sv.lt
      have hbw5 := sw5.bw
      have HROW : Hid (Row .i64 (v5.alloc (.cells #[] 3)) (tlA g cy 1) m (fun i => tn (i + 1))) := by
        obtain ⟨g', e, h1, h2, h3⟩ := sw5.slc hnp
        cases e
        exact tl_row h2 (by simp; omega) fun i hi => by rw [World.cell?_alloc_lt _ _ _ h1]; exact h3 i hi
      clear hv5 sw sw5 P5 B5 L5 hp5 hpast htn hh hP hB hcs e0 ab fB x3 x5 x6 hyP hg hsh HTLR
      go_wp2_with (first
        | (at_builtin; refine wpList_append_inN rfl _ _ rfl v5.heap.size (some ⟨v5.heap.size, 0, none⟩) 0 0 tn rfl (jo_empty _ _ _ _ rfl (Nat.le_refl _)) (tlA g cy 1) m (cy - 1) (fun i => tn (i + 1)) rfl HROW.out (by omega) (by simp) ?_; intro y1 cy1 w6 hjo hgr; have HJ1 : Hid (JO v5.heap.size w6 y1 m cy1 (fun i => tn (i + 1))) := JO.congr (f := joinI tn 0 (fun i => tn (i + 1))) (by simpa using hjo) (fun i _ => by simp [joinI]); have HB6 : Hid (Below v5.heap.size v5 w6) := Below.grown (B := v5.heap.size) (a := v5) ((Below.refl _ _).alloc (Nat.le_refl _) _) hgr (by simp) (fun k e => by simp [Value.ownBlock] at e; omega); have HRW : Hid ((w6.alloc (.cells #[.int .i64 (h : Int)] 3)).cell? ⟨w6.heap.size, 0, none⟩ = some (.int .i64 (h : Int))) := (Sits.new w6 #[.int .i64 (h : Int)] 3).cell 0; have hs6 := (HB6.out).size; clear hjo hgr)
        | (at_builtin; refine wpList_append_in1 rfl _ _ rfl v5.heap.size y1 m cy1 (fun i => tn (i + 1)) rfl (JO.alloc HJ1.out _) w6.heap.size (h : Int) rfl HRW.out (by omega) (by simp; omega) ?_; intro g2 cy2 w7 hj2 hgr2 hat2 hlt2; have HJ2 : Hid (JO v5.heap.size w7 (some ⟨g2, 0, none⟩) (m + 1) cy2 (fun i => if i = m then (h : Int) else tn (i + 1))) := hj2; have HB7 : Hid (Below v5.heap.size v5 w7) := Below.grown (B := v5.heap.size) (a := v5) ((HB6.out).alloc (HB6.out).size _) hgr2 (by simp; omega) (fun j e => (JO.own_lt HJ1.out j e).1); have sv7 := (SW.below HSW5.out HB7.out).sv; have a6 := sv7.cell 6; have f6 := sv7.frozen; clear hj2 hgr2 hat2 hlt2 sv7))
      go_roundw
      case rel =>
        refine ⟨k + 1, some ⟨g2, 0, none⟩, cy2, fun i => if i = m then (h : Int) else tn (i + 1), SW.turn HSW5.out HB7.out HJ2.out, fun i hi => ?_, HPA5.out, fun a ha => ?_, (Sits.below HP5.out HB7.out hP5).other (by omega) _, ((HB5.out).trans ((HB7.out).mono hbw5)).setCell (HSW5.out).bV _⟩
        · dsimp only
          by_cases e : i = m
          · rw [if_pos e, ← HHH.out, ← tAt_len ts k, HLEN.out, e]; congr 1; omega
          · rw [if_neg e, HTN.out (i + 1) (by omega)]; congr 1; omega
        · have := (HJ2.out).abov a ha; omega
      case measure =>
        rw [(SW.turn HSW5.out HB7.out HJ2.out).lack, ← (HSW5.out).lack]; exact HL5.out
    · go_wp2
      go_region
      have hst : StopK ts s.qt (fun i => (L i).sh) k := ⟨by rw [hh]; show 0 < shK ts s.qt (fun i => (L i).sh) k (h : Int).toNat; rw [Int.toNat_natCast, hsh]; omega, hpast⟩
      have hph : popHost ts k = h := by unfold popHost; rw [hh]; exact Int.toNat_natCast h
      obtain ⟨a, hA, ha, hca, hpc⟩ := sw.pkt h4 (show 0 < (L h).n by omega)
      have hln := (HSP.out).2.2.2.2 h h4
      have hp0 := hpc 0 (show 0 < (L h).n by omega)
      have at0 := (sw.at h4).1
      rw [hA] at at0
      replace at0 : wr.cell? ⟨B, h * 9, none⟩ = some (.slice (some ⟨a, 0, none⟩) (L h).n (C h)) := at0
      replace hca : (L h).n ≤ C h := hca
      replace hpc : ∀ i, i < (L h).n → PAt wr a (i * 6) ((L h).f i) := hpc
      replace hp0 : PAt wr a 0 ((L h).f 0) := by rw [Nat.zero_mul] at hp0; exact hp0
      have hgd := good_first hln (show 0 < (L h).n by omega)
      obtain ⟨p, hp⟩ : ∃ p, (L h).f 0 = p := ⟨_, rfl⟩
      rw [hp] at hp0 hgd
      obtain ⟨hz0, hz1⟩ := size_good hgd
      obtain ⟨c0, c1, c2, c3, c4, c5⟩ := hp0
      obtain ⟨cp, hcp⟩ : ∃ c, C h = c := ⟨_, rfl⟩
      obtain ⟨r, hr⟩ : ∃ r, (L h).n = r + 1 := ⟨(L h).n - 1, by omega⟩
      rw [hr] at at0 hca hpc
      rw [hcp] at at0 hca
      have hnz := nl_le HSP.out h4
      rw [hr] at hnz
      have HST : Hid (StopK ts s.qt (fun i => (L i).sh) k) := hst
      have HPH : Hid (popHost ts k = h) := hph
      have HPP : Hid ((L h).f 0 = p) := hp
      have HLN : Hid ((L h).n = r + 1) := hr
      have HSW1 : Hid (SW base wr V B cl s A C (lnSh L (shK ts s.qt (fun i => (L i).sh) k)) (some ⟨g, 0, none⟩) (m + 1) cy tn) := sw
      have HP1 : Hid (Sits wr w.heap.size (pkCells pk0) 31) := hP
      have HB1 : Hid (Below base w wr) := hB
      have HTN : Hid (∀ i, i < m + 1 → tn i = tAt ts (k + i)) := htn
      have HYP : Hid (g ≠ w.heap.size) := hyP _ rfl
      have HSH : Hid (shK ts s.qt (fun i => (L i).sh) k h = sh) := hsh
      have HHT : Hid (tAt ts k = (h : Int)) := hh
      have HPC : Hid (∀ i, i < r + 1 → PAt wr a (i * 6) ((L h).f i)) := hpc
      have lVr := sw.sv.lt
      have lBr := sw.lq.lt
      have lPr := hP.lt
      clear sw htn hpast hyP hP hB hst hph hA hpc hln hp hsh hh hcs hgd hcp hr hnh
      go_upto_region 9 with fail
      obtain ⟨v8, hv8⟩ : ∃ v, (wr.alloc (.cells (pkCells p) 31)).drew = v := ⟨_, rfl⟩
      obtain ⟨F, hF⟩ : ∃ F, wr.heap.size = F := ⟨_, rfl⟩
      have b8 : Below wr.heap.size wr v8 := by rw [← hv8]; exact ((Below.refl _ wr).alloc (Nat.le_refl _) _).drew
      have sF : Sits v8 F (pkCells p) 31 := by rw [← hv8]; exact Sits.drew' (Sits.new' hF)
      have HSW8 : Hid (SW base v8 V B cl s A C (lnSh L (shK ts s.qt (fun i => (L i).sh) k)) (some ⟨g, 0, none⟩) (m + 1) cy tn) := (HSW1.out).below b8
      have HP8 : Hid (Sits v8 w.heap.size (pkCells pk0) 31) := Sits.below HP1.out b8 lPr
      have HB8 : Hid (Below base w v8) := (HB1.out).trans (b8.mono (HSW1.out).bw)
      have HPR8 : Hid (PR v8.heap.size v8 (tlA a cp 6) r (fun i => (L h).f (i + 1))) := tl_pr hca (Nat.lt_of_lt_of_le ha b8.size) fun i hi => (HPC.out i hi).below b8 ha
      have HF8 : Hid (Sits v8 F (pkCells p) 31) := sF
      have hPF : w.heap.size < F := by omega
      have z5 := (HSW8.out).sv.cell 5
      have y0 : v8.cell? ⟨B, h * 9, none⟩ = some (.slice (some ⟨a, 0, none⟩) (r + 1) cp) := (b8.cell (p := ⟨B, h * 9, none⟩) lBr).trans at0
      have lV8 := (HSW8.out).sv.lt
      have lB8 := (HSW8.out).lq.lt
      have fB8 := (HSW8.out).lq.frozen
      have lF8 := sF.lt
      have hbw8 := (HSW8.out).bw
      rw [hv8]
      try rw [hF]
      have hBF : B < F := by omega
      have hVF8 : V < F := by omega
      clear hv8 b8 sF c0 c1 c2 c3 c4 c5 at0 HSW1 HP1 HB1 lVr lBr x3 x5 x6 ab fB e0 ha hg hF lPr HPC
      go_cut [7, 8] from 93 (fun s7 s8 wx => s7 = .int .i64 (h : Int) ∧ s8 = .pointer (some ⟨F, 0, none⟩) ∧ ∃ (x : Option Addr) (cx : Nat), SW base wx V B cl s (fun i => if i = h then x else A i) (fun i => if i = h then cx else C i) (fun i => if i = h then ⟨r, fun i => (L h).f (i + 1), shK ts s.qt (fun i => (L i).sh) k h, (L h).cd⟩ else lnSh L (shK ts s.qt (fun i => (L i).sh) k) i) (some ⟨g, 0, none⟩) (m + 1) cy tn ∧ (∀ b, x = some b → F < b.block) ∧ Sits wx F (pkCells p) 31 ∧ Sits wx w.heap.size (pkCells pk0) 31 ∧ Below base w wx)
      case first =>
        go_region_law (refine step_append_pk (by rfl) _ _ (by rfl) v8.heap.size (.slice (some ⟨v8.heap.size, 0, none⟩) 0 0) (by rfl) (pk_empty_new _ _ _ (by simp) (by simp)) (tlA a cp 6) r (cp - 1) (fun i => (L h).f (i + 1)) (by rfl) ((PR.below HPR8.out (by go_grown)).mono (by simp)) (by omega) (by simp) ?_; intro x cx w9 hpo hgrow; have b9 : Below v8.heap.size v8 w9 := Below.grown (B := v8.heap.size) (a := v8) (by go_grown) hgrow (by simp) (fun k e => by simp [Value.ownBlock] at e; omega); have d0 := (b9.cell (p := ⟨B, h * 9, none⟩) lB8).trans y0; have d1 := (b9.frozen (p := ⟨B, h * 9, none⟩) lB8).trans (fB8 (h * 9)); have d5 := (b9.cell (p := ⟨V, 5, none⟩) lV8).trans z5)
        all_goals go_wp2_with fail
        all_goals go_meet
        all_goals exact ⟨rfl, rfl, x, cx, SW.put HSW8.out b9 h4 hpo, fun b hb => by have := hpo.above b hb; omega, (Sits.below HF8.out b9 lF8).other (by omega) _, (Sits.below HP8.out b9 (by omega)).other (by omega) _, ((HB8.out).trans (b9.mono hbw8)).setCell (HSW8.out).lq.lo _⟩
      case rest =>
        obtain ⟨rfl, rfl, x, cx, sw9, hxF, sF9, sP9, b9⟩ := hcut
        have ab9 : wc.cell? ⟨B, h * 9 + 1, none⟩ = some (.int .i64 sh) := by have := (sw9.at h4).2; simpa [HSH.out] using this
        have z59 := sw9.sv.cell 5
        have f39 := sF9.cell 3
        have fB9 := sw9.lq.frozen
        have HSW9 : Hid (SW base wc V B cl s _ _ _ (some ⟨g, 0, none⟩) (m + 1) cy tn) := sw9
        have HXF : Hid (∀ b, x = some b → F < b.block) := hxF
        have HF9 : Hid (Sits wc F (pkCells p) 31) := sF9
        have HP9 : Hid (Sits wc w.heap.size (pkCells pk0) 31) := sP9
        have HB9 : Hid (Below base w wc) := b9
        clear sw9 hxF sF9 sP9 b9 z5 y0 fB8 HSW8 HP8 HB8 HPR8 HF8 lV8 lB8 lF8 hbw8
        go_wp2
        go_region
        go_upto_region 11 with fail
        obtain ⟨v10, hv10⟩ : ∃ v, (wc.setCell ⟨B, h * 9 + 1, none⟩ (.int .i64 (sh - p.size))).drew = v := ⟨_, rfl⟩
        have hLL : (fun i => if i = h then (⟨((fun i => if i = h then (⟨r, fun i => (L h).f (i + 1), shK ts s.qt (fun i => (L i).sh) k h, (L h).cd⟩ : Ln) else lnSh L (shK ts s.qt (fun i => (L i).sh) k) i) h).n, ((fun i => if i = h then (⟨r, fun i => (L h).f (i + 1), shK ts s.qt (fun i => (L i).sh) k h, (L h).cd⟩ : Ln) else lnSh L (shK ts s.qt (fun i => (L i).sh) k) i) h).f, sh - p.size, ((fun i => if i = h then (⟨r, fun i => (L h).f (i + 1), shK ts s.qt (fun i => (L i).sh) k h, (L h).cd⟩ : Ln) else lnSh L (shK ts s.qt (fun i => (L i).sh) k) i) h).cd⟩ : Ln) else (fun i => if i = h then (⟨r, fun i => (L h).f (i + 1), shK ts s.qt (fun i => (L i).sh) k h, (L h).cd⟩ : Ln) else lnSh L (shK ts s.qt (fun i => (L i).sh) k) i) i) = popLn L (shK ts s.qt (fun i => (L i).sh) k) h := by
          have e1 := HLN.out
          have e2 := HPP.out
          have e3 := HSH.out
          funext i
          unfold popLn
          by_cases e : i = h
          · rw [if_pos e, if_pos e, e1, e2, e3]; simp
          · rw [if_neg e, if_neg e]; dsimp only; rw [if_neg e]; rfl
        have sw10 : SW base v10 V B cl s (fun i => if i = h then x else A i) (fun i => if i = h then cx else C i) (popLn L (shK ts s.qt (fun i => (L i).sh) k) h) (some ⟨g, 0, none⟩) (m + 1) cy tn := by rw [← hv10, ← hLL]; exact ((HSW9.out).short h4 (sh - p.size)).drew
        have F10 : Sits v10 F (pkCells p) 31 := by rw [← hv10]; exact Sits.drew' (Sits.other HF9.out (by omega) _)
        have P10 : Sits v10 w.heap.size (pkCells pk0) 31 := by rw [← hv10]; exact Sits.drew' (Sits.other HP9.out (by omega) _)
        have B10 : Below base w v10 := by rw [← hv10]; exact ((HB9.out).setCell (HSW9.out).lq.lo _).drew
        rw [hv10]
        have z510 := sw10.sv.cell 5
        have a010 : v10.cell? ⟨B, h * 9, none⟩ = some (.slice x r cx) := by
          have := (sw10.at h4).1
          have e1 := HLN.out
          simpa [popLn, e1] using this
        have HSW10 : Hid (SW base v10 V B cl s (fun i => if i = h then x else A i) (fun i => if i = h then cx else C i) (popLn L (shK ts s.qt (fun i => (L i).sh) k) h) (some ⟨g, 0, none⟩) (m + 1) cy tn) := sw10
        have HF10 : Hid (Sits v10 F (pkCells p) 31) := F10
        have HP10 : Hid (Sits v10 w.heap.size (pkCells pk0) 31) := P10
        have HB10 : Hid (Below base w v10) := B10
        have hF10 := F10.lt
        clear hv10 hLL sw10 F10 P10 B10 HSW9 HF9 HP9 HB9 ab9 z59 f39 fB9
        go_upto_if 138 with fail
        go_cut [7, 8] from 77 (fun s7 s8 wx => s8 = .pointer (some ⟨F, 0, none⟩) ∧ ∃ (y' : Option Addr) (n' cy' : Nat) (tn' : Nat → Int), SW base wx V B cl s (fun i => if i = h then x else A i) (fun i => if i = h then cx else C i) (popLn L (shK ts s.qt (fun i => (L i).sh) k) h) y' n' cy' tn' ∧ (List.range n').map tn' = popTs L ts k ∧ (∀ b, y' = some b → b.block ≠ w.heap.size) ∧ Sits wx F (pkCells p) 31 ∧ Sits wx w.heap.size (pkCells pk0) 31 ∧ Below base w wx)
        case first =>
          have hrot : (List.range (m + 1)).map tn = rotT ts k := by
            unfold rotT
            rw [HLEN.out]
            exact List.map_congr_left fun i hi => HTN.out i (by simpa using hi)
          by_cases hr0 : r = 0
          case neg =>
            have hr0' : ((r : Int) == 0) = false := by simpa using hr0
            have HT : Hid ((List.range (m + 1)).map tn = popTs L ts k) := by
              show _ = _
              unfold popTs
              rw [HPH.out, HLN.out, if_neg (by omega)]; exact hrot
            clear hrot
            go_wp2_with fail
            go_meet
            case rel =>
              exact ⟨rfl, some ⟨g, 0, none⟩, m + 1, cy, tn, HSW10.out, HT.out, fun b hb => by cases hb; exact HYP.out, HF10.out, HP10.out, HB10.out⟩
          case pos =>
            have hr0' : ((r : Int) == 0) = true := by simpa using hr0
            have HT : Hid ((List.range m).map (fun i => tn (i + 1)) = popTs L ts k) := by
              show _ = _
              unfold popTs
              rw [HPH.out, HLN.out, if_pos (by omega), ← hrot]
              rw [List.range_succ_eq_map, List.map_cons, List.drop_succ_cons, List.drop_zero, List.map_map]; rfl
            have lV10 := (HSW10.out).sv.lt
            have z610 := (HSW10.out).sv.cell 6
            have HROW : Hid (Row .i64 (v10.alloc (.cells #[] 3)) (tlA g cy 1) m (fun i => tn (i + 1))) := by
              obtain ⟨g', e, h1, h2, h3⟩ := (HSW10.out).slc hnp
              cases e
              exact tl_row h2 (by simp; omega) fun i hi => by rw [World.cell?_alloc_lt _ _ _ h1]; exact h3 i hi
            clear hrot
            go_wp2_with (at_builtin; refine wpList_append_inN rfl _ _ rfl v10.heap.size (some ⟨v10.heap.size, 0, none⟩) 0 0 tn rfl (jo_empty _ _ _ _ rfl (Nat.le_refl _)) (tlA g cy 1) m (cy - 1) (fun i => tn (i + 1)) rfl HROW.out (by omega) (by simp) ?_; intro y1 cy1 w11 hjo hgr; have HJ1 : Hid (JO v10.heap.size w11 y1 m cy1 (fun i => tn (i + 1))) := JO.congr (f := joinI tn 0 (fun i => tn (i + 1))) (by simpa using hjo) (fun i _ => by simp [joinI]); have HB11 : Hid (Below v10.heap.size v10 w11) := Below.grown (B := v10.heap.size) (a := v10) ((Below.refl _ _).alloc (Nat.le_refl _) _) hgr (by simp) (fun k e => by simp [Value.ownBlock] at e; omega); have sv11 := (SW.below HSW10.out HB11.out).sv; have a611 := sv11.cell 6; have f611 := sv11.frozen; clear hjo hgr sv11)
            go_meet
            case rel =>
              have hVF : F ≠ V := by omega
              have hVP : w.heap.size ≠ V := by omega
              exact ⟨rfl, y1, m, cy1, fun i => tn (i + 1), SW.turn HSW10.out HB11.out HJ1.out, HT.out, fun b hb => by have := (HJ1.out).abov b hb; omega, (Sits.below HF10.out HB11.out hF10).other hVF _, (Sits.below HP10.out HB11.out (by omega)).other hVP _, ((HB10.out).trans ((HB11.out).mono (HSW10.out).bw)).setCell (HSW10.out).bV _⟩
        case rest =>
          obtain ⟨rfl, y', n', cy', tn', sw12, ht12, hy12, sF12, sP12, b12⟩ := hcut
          have HSW12 : Hid (SW base wc V B cl s (fun i => if i = h then x else A i) (fun i => if i = h then cx else C i) (popLn L (shK ts s.qt (fun i => (L i).sh) k) h) y' n' cy' tn') := sw12
          have HT12 : Hid ((List.range n').map tn' = popTs L ts k) := ht12
          have HY12 : Hid (∀ b, y' = some b → b.block ≠ w.heap.size) := hy12
          have HF12 : Hid (Sits wc F (pkCells p) 31) := sF12
          have HP12 : Hid (Sits wc w.heap.size (pkCells pk0) 31) := sP12
          have HB12 : Hid (Below base w wc) := b12
          have lF12 := sF12.lt
          have lV12 := sw12.sv.lt
          have HNUM : Hid (numP s) := (HSP.out).1
          obtain ⟨q, hq⟩ : ∃ q, costF s p.size = q := ⟨_, rfl⟩
          have HQ : Hid (costF s p.size = q) := hq
          have hqb : 0 ≤ q ∧ q ≤ 2200000001 := by
            obtain ⟨⟨r0, r1⟩, ⟨o0, o1⟩, _⟩ := HNUM.out
            obtain ⟨e0, e1⟩ := cost_small r0 r1 o0 o1 hz0 hz1
            rw [← hq]; exact up_small e0 e1
          obtain ⟨qb0, qb1⟩ := hqb
          have hwr : IntKind.i64.wrap (now + q) = now + q := by rw [IntKind.wrap_i64]; omega
          clear sw12 ht12 hy12 sF12 sP12 b12 hq a010 z510 HSW10 HF10 HP10 HB10 hF10
          go_wp2
          refine wp_region_qtail 9 (C := fun w' => Below wc.heap.size wc w') (by kernel_rfl) (by kernel_rfl) ((Below.refl _ _).drew) ?_
          simp only [List.take_succ_cons, List.take_zero, List.drop_succ_cons, List.drop_zero]
          repeat (first
            | go_big_quiet_skip
            | (go_big_quiet_want
               unfold Oper.quiet
               apply Exists.intro
               refine ⟨fun w' hw' => ?_, ?_⟩
               (have sv' := Sits.below (HSW12.out).sv hw' lV12
                have sf' := Sits.below HF12.out hw' lF12
                have q0' := sv'.cell 0
                have q1' := sv'.cell 1
                have q2' := sv'.cell 2
                have q3' := sv'.cell 3
                have q4' := sv'.cell 4
                have q5' := sv'.cell 5
                have q6' := sv'.cell 6
                have g3' := sf'.cell 3
                clear sv' sf'
                go_simp
                first
                  | (go_at_call 61; refine (l8cost_any s (some ⟨B, 0, none⟩) 4 cl y' n' cy' p.size _ HNUM.out hz0 hz1).mono ?_; rintro e w8 ⟨rfl, b8⟩; rw [HQ.out]; exact ⟨rfl, hw'.trans (b8.mono hw'.size)⟩)
                  | exact rfl)
               simp only [Act.put, List.setIfInBounds_toArray, List.set_cons_zero, List.set_cons_succ]
               go_big_quiet_on))
          refine wpQuiet_nil ?_
          intro w13 hw13
          have sw13 := (HSW12.out).below hw13
          have sF13 := Sits.below HF12.out hw13 lF12
          have sP13 := Sits.below HP12.out hw13 (by omega)
          have d2 := sw13.sv.cell 2
          have df := sw13.sv.frozen
          have f0 := sF13.cell 0
          have f1 := sF13.cell 1
          have f2 := sF13.cell 2
          have f3 := sF13.cell 3
          have f4 := sF13.cell 4
          have f5 := sF13.cell 5
          have r0 := sP13.cell 0
          have r1 := sP13.cell 1
          have r2 := sP13.cell 2
          have r3 := sP13.cell 3
          have r4 := sP13.cell 4
          have r5 := sP13.cell 5
          have rf := sP13.frozen
          have hVF : V ≠ F := by omega
          have hVP : V ≠ w.heap.size := by omega
          have HSW14 : Hid (SW base (w13.setCell ⟨V, 2, none⟩ (.int .i64 (now + q))) V B cl ⟨s.rt, s.ov, now + q, s.qt, s.lim⟩ (fun i => if i = h then x else A i) (fun i => if i = h then cx else C i) (popLn L (shK ts s.qt (fun i => (L i).sh) k) h) y' n' cy' tn') := sw13.next (now + q)
          have HP14 : Hid (Sits (w13.setCell ⟨V, 2, none⟩ (.int .i64 (now + q))) w.heap.size (pkCells pk0) 31) := sP13.other (fun e => hVP e.symm) _
          have HB14 : Hid (Below base w (w13.setCell ⟨V, 2, none⟩ (.int .i64 (now + q)))) := ((HB12.out).trans (hw13.mono (HSW12.out).bw)).setCell (HSW12.out).bV _
          clear sw13 sF13 sP13 hw13
          go_wp2
          refine bodyPost_ret (ret_pkb (p := p) Try.results28 rfl rfl (pk_put HP14.out p)) rfl ?_
          exact l8pop_end (HSW.out).bw HE.out HST.out HPH.out HPP.out HQ.out HSW14.out HT12.out HXF.out hPF (fun i hi => ((HSW.out).lq.own i hi).under) HY12.out hlV hlB HB14.out

end Go.Proofs.Ytmjggolllijamaa
