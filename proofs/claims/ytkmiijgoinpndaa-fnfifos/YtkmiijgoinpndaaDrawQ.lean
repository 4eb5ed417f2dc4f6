/-
  A QUEUE DRAWN: l3draw.
-/
import Derived.Test.YtkmiijgoinpndaaDrawPk
import Derived.Test.YtkmiijgoinpndaaAppPk
import Derived.Deep.RegionLaw
namespace Go.Proofs.Ytkmiijgoinpndaa
open Go.RowKit
set_option linter.unusedVariables false

theorem step_pkt {w : World} {ops : Array Oper} {o : Oper} {act : Act} {K : Act → World → Prop} {Q : Exit → Act → World → Prop} {E : Prop} (hgd : o.guard = none) (x y z : Operand) (t1 t2 t3 : TypeId)
    (ho : o.op = .call { callee := .value (.func 16), args := #[x, y, z], argTypes := #[t1, t2, t3] })
    (B : Nat) (id tm : Int) (hx : act.eval x = .pointer (some ⟨B, 0, none⟩)) (hy : act.eval y = .int .i64 id) (hz : act.eval z = .int .i64 tm) (a : Option Addr) (len cap : Nat) (hc : Cur w B a len cap)
    (h : ∀ (p : Pk) w', p.drawn id tm → Cur w' B a len cap → Only B w w' → K (act.put o.dst p.val) w') :
    if Region.wanted o (yielded ops act.tmps) = true then Oper.wp Try.prog o act w K Q else E := by
  have hw : Region.wanted o (yielded ops act.tmps) = true := by simp [Region.wanted, hgd]
  rw [if_pos hw]
  unfold Oper.wp
  have he : (execOp act.eval o).run Try.prog w = .ok (.enter 16 #[.pointer (some ⟨B, 0, none⟩), .int .i64 id, .int .i64 tm]) w := by
    have hfun := Try.func16
    simp [execOp, ho, resolve, invoke, go_sem, Act.eval]
    exact ⟨by simpa [Act.eval] using hx, by simpa [Act.eval] using hy, by simpa [Act.eval] using hz⟩
  rw [he, Oper.upon_enter]
  refine (l3pkt_any B a len cap w hc id tm).mono ?_
  rintro e w' ⟨p, rfl, hp, cc, oo⟩
  exact h p w' hp cc oo

/-- Packets as they are drawn, up to the moment t. -/
def LineI (g : Nat → Pk) (k : Nat) (t : Int) : Prop := (∀ j, j < k → ((g j).good = true ∧ (g j).id = (j : Int) + 1 ∧ (g j).tm ≤ t)) ∧ ∀ i j, i < j → j < k → (g i).tm ≤ (g j).tm
theorem LineI.zero (g : Nat → Pk) (t : Int) : LineI g 0 t := ⟨fun j hj => absurd hj (Nat.not_lt_zero _), fun i j _ hj => absurd hj (Nat.not_lt_zero _)⟩
theorem LineI.more {g : Nat → Pk} {k : Nat} {t u : Int} (h : LineI g k t) (htu : t ≤ u) (h0 : 0 ≤ u) (h1 : u ≤ 1000000000000) (hk : k ≤ 1000) {p : Pk} (hp : p.drawn ((k : Int) + 1) u) : LineI (fun i => if i = k then p else g i) (k + 1) u := by
  obtain ⟨p1, p2, p3, p4, p5, p6⟩ := hp
  have pg : p.good = true := by
    unfold Pk.good inB
    simp only [Bool.and_eq_true, decide_eq_true_eq]
    omega
  refine ⟨fun j hj => ?_, fun i j hij hj => ?_⟩
  · by_cases e : j = k
    · subst e; simp only [if_true]; exact ⟨pg, p1, by omega⟩
    · simp only [if_neg e]
      obtain ⟨q1, q2, q3⟩ := h.1 j (by omega)
      exact ⟨q1, q2, by omega⟩
  · by_cases e : j = k
    · subst e
      simp only [if_true, if_neg (show ¬ i = j by omega)]
      have := (h.1 i (by omega)).2.2
      omega
    · simp only [if_neg e, if_neg (show ¬ i = k by omega)]
      exact h.2 i j hij (by omega)
theorem LineI.line {g : Nat → Pk} {k : Nat} {t lim : Int} (h : LineI g k t) (l1 : 1 ≤ lim) (l2 : lim ≤ 40) (hk : (k : Int) ≤ lim) : fifoB g k lim = true := by
  unfold fifoB inB lineB
  simp only [Bool.and_eq_true, decide_eq_true_eq]
  refine ⟨⟨l1, l2⟩, hk, fun j hj => ⟨(h.1 j hj).1, fun i hi => ⟨h.2 i j hi hj, ?_⟩⟩⟩
  have e1 := (h.1 i (by omega)).2.1
  have e2 := (h.1 j hj).2.1
  omega

/-- A queue, handed back. -/
theorem ret_f {fn : Func} {tmps : Array Value} {W : World} {i B : Nat} {v u : Value} {t : TypeId} (hr : fn.results = #[.cell i 25]) (hi : tmps[i]?.getD undef = .pointer (some ⟨B, 0, none⟩)) (hs : Sits W B #[v, u] t) : (results fn tmps).run Try.prog W = .ok (.agg #[v, u]) W := by
  have e0 : W.cell? ⟨B, 0, none⟩ = some v := hs.cell 0
  have e1 : W.cell? ⟨B, 1, none⟩ = some u := hs.cell 1
  simp [results, hr, hi, go_sem, e0, e1]

theorem po_keep {base : Nat} {w w' : World} {x : Option Addr} {m cap : Nat} {f : Nat → Pk} (h : PO base w x m cap f) (hk : ∀ k, base ≤ k → k < w.heap.size → w'.heap[k]? = w.heap[k]?) : PO base w' x m cap f := by
  obtain ⟨hl, ⟨hv, h0⟩ | ⟨g, cp, cur, hv, hbs, hh, h1, h2, h3, h4⟩⟩ := h
  · exact ⟨hl, .inl ⟨hv, h0⟩⟩
  · exact ⟨hl, .inr ⟨g, cp, cur, hv, hbs, (hk g hbs (Array.getElem?_eq_some_iff.1 hh).1).trans hh, h1, h2, h3, h4⟩⟩
theorem po_only {base B : Nat} {w w' : World} {x : Option Addr} {m cap : Nat} {f : Nat → Pk} (h : PO base w x m cap f) (ho : Only B w w') (hB : B < base) : PO base w' x m cap f := po_keep h fun k hk hk2 => ho.block k hk2 (by omega)
theorem only_low {B C : Nat} {a w w' : World} (h : Only B a w) (hb : Below C w w') (hC : a.heap.size ≤ C) : Only B a w' :=
  ⟨hb.os.trans h.os, hb.tape.trans h.tape, hb.output.trans h.output, Nat.le_trans h.size hb.size, fun k hk hn => (hb.block k (by omega)).trans (h.block k hk hn)⟩
theorem cur_low {B C : Nat} {w w' : World} {a : Option Addr} {len cap : Nat} (h : Cur w B a len cap) (hb : Below C w w') (hC : B < C) : Cur w' B a len cap := by
  obtain ⟨hB, hl, ⟨i, k, i0, i1, c0, c1, c2⟩, f1, f2, hcode⟩ := h
  have e : ∀ b x, b < C → w'.cell? ⟨b, x, none⟩ = w.cell? ⟨b, x, none⟩ := fun b x hbC => hb.cell (p := ⟨b, x, none⟩) hbC
  have f : ∀ b x, b < C → w'.frozen? ⟨b, x, none⟩ = w.frozen? ⟨b, x, none⟩ := fun b x hbC => hb.frozen (p := ⟨b, x, none⟩) hbC
  exact ⟨Nat.lt_of_lt_of_le hB hb.size, hl, ⟨i, k, i0, i1, (e _ _ hC).trans c0, (e _ _ hC).trans c1, (e _ _ hC).trans c2⟩, (f _ _ hC).trans f1, (f _ _ hC).trans f2, hcode.move fun b x hbB => e b x (by omega)⟩

set_option maxRecDepth 100000 in
set_option maxHeartbeats 4000000 in
theorem l3draw_any (B : Nat) (a : Option Addr) (len cap : Nat) (w : World) (hc : Cur w B a len cap) :
    Calls Try.prog 25 #[.pointer (some ⟨B, 0, none⟩)] w fun e w' => ∃ (x : Option Addr) (n k : Nat) (lim t : Int) (g : Nat → Pk), e = .returned (.agg #[.slice x n k, .int .i64 lim]) ∧ PO w.heap.size w' x n k g ∧ LineI g n t ∧ (0 ≤ t ∧ t ≤ 60000000) ∧ (1 ≤ lim ∧ lim ≤ 12 ∧ (n : Int) ≤ lim) ∧ Cur w' B a len cap ∧ Only B w w' := by
  have hB := hc.1
  have C0 : Hid (Cur (w.alloc (.cells #[.slice none 0 0, .int .i64 0] 25)) B a len cap) := hc.alloc _ _
  have Z0 : Hid (Sits (w.alloc (.cells #[.slice none 0 0, .int .i64 0] 25)) w.heap.size #[.slice none 0 0, .int .i64 0] 25) := Sits.new _ _ _
  have O0 : Hid (Only B w (w.alloc (.cells #[.slice none 0 0, .int .i64 0] 25))) := (Only.refl B w).alloc _
  clear hc
  go_enter Try.func25, Try.ntmps25
  go_wp2_with fail
  refine (below_any B a len cap _ C0.out 12 (by omega) (by omega)).mono ?_
  rintro o w1 ⟨x1, rfl, x10, x11, c1, o1⟩
  have C1 : Hid _ := c1
  have z1 := Sits.only Z0.out o1 (by omega)
  have hz1 := z1.lt
  have Z1 : Hid _ := z1
  have O1 : Hid _ := Only.trans O0.out o1
  clear c1 o1 z1 C0 Z0 O0
  go_wp2_with fail
  obtain ⟨V, hV⟩ : ∃ V, w1.heap.size = V := ⟨_, rfl⟩
  obtain ⟨W1, hW1⟩ : ∃ W1, w1.alloc (.cells #[.slice none 0 0, .int .i64 (1 + x1)] 25) = W1 := ⟨_, rfl⟩
  have C2 : Hid (Cur W1 B a len cap) := by rw [← hW1]; exact Cur.alloc C1.out _ _
  have Z2 : Hid (Sits W1 w.heap.size #[.slice none 0 0, .int .i64 0] 25) := by rw [← hW1]; exact Sits.alloc Z1.out _
  have V2 : Hid (Sits W1 V #[.slice none 0 0, .int .i64 (1 + x1)] 25) := by rw [← hW1, ← hV]; exact Sits.new _ _ _
  have O2 : Hid (Only B w W1) := by rw [← hW1]; exact Only.alloc O1.out _
  have hVw : w.heap.size < V := by rw [← hV]; exact hz1
  rw [hW1, hV]
  clear hW1 hV hz1 C1 Z1 O1
  refine (below_any B a len cap _ C2.out 9 (by omega) (by omega)).mono ?_
  rintro o w3 ⟨x3, rfl, x30, x31, c3, o3⟩
  have C3 : Hid _ := c3
  have Z3 : Hid _ := Sits.only Z2.out o3 (by omega)
  have v3 := Sits.only V2.out o3 (by omega)
  have e1 : w3.cell? ⟨V, 1, none⟩ = some (.int .i64 (1 + x1)) := v3.cell 1
  have V3 : Hid _ := v3
  have O3 : Hid _ := Only.trans O2.out o3
  clear c3 o3 v3 C2 Z2 V2 O2
  go_wp2_with fail
  refine (below_any B a len cap _ C3.out (1 + x1 + 1) (by omega) (by omega)).mono ?_
  rintro o w4 ⟨x4, rfl, x40, x41, c4, o4⟩
  have C4 : Hid _ := c4
  have Z4 : Hid _ := Sits.only Z3.out o4 (by omega)
  have V4 : Hid _ := Sits.only V3.out o4 (by omega)
  have O4 : Hid _ := Only.trans O3.out o4
  clear c4 o4 C3 Z3 V3 O3 e1
  obtain ⟨n, rfl⟩ := Int.eq_ofNat_of_zero_le x40
  go_wp2
  go_loopw [4, 6] (fun t i W => ∃ (k : Nat) (tt : Int) (y : Option Addr) (c : Nat) (g : Nat → Pk), k ≤ n ∧ i = .int .i64 k ∧ t = .int .i64 tt ∧ 0 ≤ tt ∧ tt ≤ 8000000 + 4000000 * (k : Int) ∧ Sits W V #[.slice y k c, .int .i64 (1 + x1)] 25 ∧ Sits W w.heap.size #[.slice none 0 0, .int .i64 0] 25 ∧ PO (V + 1) W y k c g ∧ LineI g k tt ∧ Cur W B a len cap ∧ Only B w W) (fun _ i _ => n - (intOf i).toNat)
  case atStart => exact ⟨0, x3 * 1000000, none, 0, fun _ => default, Nat.zero_le _, rfl, rfl, by omega, by omega, V4.out, Z4.out, PO.nil _ _ _, LineI.zero _ _, C4.out, O4.out⟩
  case round =>
    obtain ⟨k, tt, y, c, g, hk, rfl, rfl, t0, t1, sV, sZ, hpo, hli, hcu, hon⟩ := hrel
    have e0 : wr.cell? ⟨V, 0, none⟩ = some (.slice y k c) := sV.cell 0
    have e1 : wr.cell? ⟨V, 1, none⟩ = some (.int .i64 (1 + x1)) := sV.cell 1
    have z0 : wr.cell? ⟨w.heap.size, 0, none⟩ = some (.slice none 0 0) := sZ.cell 0
    have z1 : wr.cell? ⟨w.heap.size, 1, none⟩ = some (.int .i64 0) := sZ.cell 1
    have fV := sV.frozen
    have fZ := sZ.frozen
    have hVl := sV.lt
    have SV : Hid _ := sV
    have SZ : Hid _ := sZ
    have PP : Hid _ := hpo
    have LL : Hid _ := hli
    have CU : Hid _ := hcu
    have ON : Hid _ := hon
    clear sV sZ hpo hli hcu hon C4 Z4 V4 O4
    by_cases hlt : k < n
    · clear z0 z1 fZ
      go_wp2_with fail
      refine (below_any B a len cap _ CU.out 5 (by omega) (by omega)).mono ?_
      rintro o w5 ⟨x5, rfl, x50, x51, c5, o5⟩
      have s5 := Sits.only SV.out o5 (by omega)
      clear e0 e1 fV
      have e0 : w5.cell? ⟨V, 0, none⟩ = some (.slice y k c) := s5.cell 0
      have fV := s5.frozen
      have hV5 := s5.lt
      have S5 : Hid _ := s5
      have Z5 : Hid _ := Sits.only SZ.out o5 (by omega)
      have P5 : Hid _ := po_only PP.out o5 (by omega)
      have C5 : Hid _ := c5
      have O5 : Hid _ := Only.trans ON.out o5
      clear s5 c5 o5 SV SZ PP CU ON
      obtain ⟨tu, htu⟩ : ∃ tu, tt + x5 * 1000000 = tu := ⟨_, rfl⟩
      have u0 : tt ≤ tu := by omega
      have u1 : tu ≤ 8000000 + 4000000 * ((k : Int) + 1) := by omega
      have hw1 : IntKind.i64.wrap tu = tu := by rw [IntKind.wrap_i64]; omega
      have hw2 : IntKind.i64.wrap ((k : Int) + 1) = (k : Int) + 1 := by rw [IntKind.wrap_i64]; omega
      go_wp2_with fail
      go_region_law (first | (refine step_append_pk1 (by rfl) _ _ (by rfl) (V + 1) y k c g (by rfl) (po_keep (po_only (w := w5.drew) P5.out oo (by omega)) (fun i hi hi2 => Below.heap_alloc _ _ i hi2)) w6.heap.size p (by rfl) (Lies.pk (Lies.new w6 (pkCells p) _)) (by omega) (by simp; omega) ?_; intro gb c' w7 hbo hgrow hat hlt7; have hbel : Below (V + 1) w6 w7 := ((Below.refl (V + 1) w6).alloc (by omega) _).grown hgrow (by simp; omega) (fun kk ek => (PO.own_lt (po_only (w := w5.drew) P5.out oo (by omega)) kk ek).1); have s7 := Sits.below (Sits.only (Sits.drew S5.out) oo (by omega)) hbel (by omega); have d7 : w7.cell? ⟨V, 0, none⟩ = some (.slice y k c) := s7.cell 0; have f7 := s7.frozen 0; clear hgrow hat) | (refine step_pkt (by rfl) _ _ _ _ _ _ (by rfl) B ((k : Int) + 1) tu (by rfl) (by rfl) (by rfl) a len cap (Cur.drew C5.out) ?_; intro p w6 hp cc oo; have d6 : w6.cell? ⟨V, 0, none⟩ = some (.slice y k c) := (Sits.only (Sits.drew S5.out) oo (by omega)).cell 0; have lw6 := Sits.lt (Sits.only (Sits.drew S5.out) oo (by omega))))
      all_goals
        (go_wp2_with fail)
        go_roundw
        case rel =>
          exact ⟨k + 1, tu, some ⟨gb, 0, none⟩, c', fun i => if i = k then p else g i, by omega, by go_num, rfl, by omega, by omega, s7.set 0 _, (Sits.below (Sits.only (Sits.drew Z5.out) oo (by omega)) hbel (by omega)).other (by omega) _, hbo.far (by omega) 0 _, LineI.more LL.out u0 (by omega) (by omega) (by omega) hp, Cur.setNew (cur_low cc hbel (by omega)) (by omega) _, Only.setNew (only_low (Only.trans (Only.drew O5.out) oo) hbel (by omega)) (by omega) _⟩
        case measure => simp [intOf]; omega
    · obtain rfl : k = n := by omega
      go_wp2
      refine bodyPost_ret (ret_f (v := .slice y k c) (u := .int .i64 (1 + x1)) (t := 25) (B := w.heap.size) Try.results25 rfl ?_) rfl ⟨y, k, c, 1 + x1, tt, g, rfl, ?_, LL.out, ⟨t0, by omega⟩, ⟨by omega, by omega, by omega⟩, ?_, ?_⟩
      · have h0 : Sits (wr.setCell ⟨w.heap.size, 0, none⟩ (.slice y k c)) w.heap.size #[.slice y k c, .int .i64 0] 25 := Sits.set SZ.out 0 _
        exact h0.set 1 _
      · exact PO.mono (PO.far (PO.far PP.out (by omega) 0 _) (by omega) 1 _) (by omega)
      · exact Cur.setNew (Cur.setNew CU.out (by omega) _) (by omega) _
      · exact Only.setNew (Only.setNew ON.out (Nat.le_refl _) _) (Nat.le_refl _) _

end Go.Proofs.Ytkmiijgoinpndaa
