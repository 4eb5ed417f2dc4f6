/-
  A QUEUE DRAWN AND BENT: l3bent.
-/
import Derived.Test.YtkmiijgoinpndaaDrawQ
import Derived.Test.YtkmiijgoinpndaaPkMark
namespace Go.Proofs.Ytkmiijgoinpndaa
open Go.RowKit
set_option linter.unusedVariables false

/-- A packet of small numbers. -/
def Pk.small (p : Pk) : Prop := (0 ≤ p.id ∧ p.id ≤ 1000) ∧ (0 ≤ p.tm ∧ p.tm ≤ 1000000000000) ∧ (0 ≤ p.flow ∧ p.flow ≤ 15) ∧ (0 ≤ p.host ∧ p.host ≤ 3) ∧ (0 ≤ p.size ∧ p.size ≤ 2000) ∧ (0 ≤ p.ecn ∧ p.ecn ≤ 3)
theorem LineI.small {g : Nat → Pk} {k : Nat} {t : Int} (h : LineI g k t) (hk : k ≤ 40) : ∀ j, j < k → (g j).small := fun j hj => by
  obtain ⟨q1, q2, q3⟩ := h.1 j hj
  unfold Pk.good inB at q1
  simp only [Bool.and_eq_true, decide_eq_true_eq] at q1
  unfold Pk.small
  omega
theorem own_put {w : World} {B m o : Nat} {F : Nat → Int} (h : Own .i64 w B m F) (ho : o < m) (v : Int) : Own .i64 (w.setCell ⟨B, o, none⟩ (.int .i64 v)) B m (fun i => if i = o then v else F i) := by
  refine ⟨by simpa using h.1, fun i hi => ?_⟩
  obtain ⟨h1, h2⟩ := h.2 i hi
  obtain ⟨h3, h4⟩ := h.2 o ho
  by_cases e : i = o
  · subst e
    exact ⟨by simp [go_sem, h3], by simp [go_sem, h4]⟩
  · exact ⟨by simp [go_sem, h1, e], by simp [go_sem, h2]⟩

/-- The first one's At is written. -/
def putPk (g : Nat → Pk) : Nat → Pk := fun i => if i = 0 then ⟨(g 0).id, (g 0).flow, (g 0).host, (g 0).size, 1000000000000, (g 0).ecn⟩ else g i
theorem flat_putAt (g : Nat → Pk) : flat (putPk g) = fun o => if o = 4 then 1000000000000 else flat g o := by
  funext o
  unfold flat putPk
  by_cases h : o / 6 = 0
  · rw [if_pos h, h]
    have hc : o = 0 ∨ o = 1 ∨ o = 2 ∨ o = 3 ∨ o = 4 ∨ o = 5 := by omega
    rcases hc with rfl | rfl | rfl | rfl | rfl | rfl <;> rfl
  · rw [if_neg h, if_neg (by omega)]
theorem small_putAt {g : Nat → Pk} {n : Nat} (h : ∀ j, j < n → (g j).small) : ∀ j, j < n → (putPk g j).small := fun j hj => by
  unfold putPk
  split
  · next e =>
    subst e
    obtain ⟨h1, h2, h3, h4, h5, h6⟩ := h 0 hj
    exact ⟨h1, by first | exact h2 | (dsimp only; omega), h3, h4, by first | exact h5 | (dsimp only; omega), h6⟩
  · exact h j hj

/-- The first one's Size is written. -/
def putSize (g : Nat → Pk) : Nat → Pk := fun i => if i = 0 then ⟨(g 0).id, (g 0).flow, (g 0).host, 0, (g 0).tm, (g 0).ecn⟩ else g i
theorem flat_putSize (g : Nat → Pk) : flat (putSize g) = fun o => if o = 3 then 0 else flat g o := by
  funext o
  unfold flat putSize
  by_cases h : o / 6 = 0
  · rw [if_pos h, h]
    have hc : o = 0 ∨ o = 1 ∨ o = 2 ∨ o = 3 ∨ o = 4 ∨ o = 5 := by omega
    rcases hc with rfl | rfl | rfl | rfl | rfl | rfl <;> rfl
  · rw [if_neg h, if_neg (by omega)]
theorem small_putSize {g : Nat → Pk} {n : Nat} (h : ∀ j, j < n → (g j).small) : ∀ j, j < n → (putSize g j).small := fun j hj => by
  unfold putSize
  split
  · next e =>
    subst e
    obtain ⟨h1, h2, h3, h4, h5, h6⟩ := h 0 hj
    exact ⟨h1, by first | exact h2 | (dsimp only; omega), h3, h4, by first | exact h5 | (dsimp only; omega), h6⟩
  · exact h j hj

theorem at_ne {d : Value} {gb V s L : Nat} (hat : d.ownBlock = some gb ∨ gb = s) (h1 : ∀ kk, d.ownBlock = some kk → L ≤ kk ∧ kk < V) (h2 : V < s) : gb ≠ V := by
  rcases hat with e | e
  · have := (h1 gb e).2; omega
  · omega
theorem zi_only {L U B : Nat} {w w' : World} {a : Option Addr} {n : Nat} {f : Nat → Int} (h : ZI L U w a n f) (ho : Only B w w') (hB : B < L) : ZI L U w' a n f := by
  rcases h with h | ⟨g, h1, h2, h3, h4⟩
  · exact .inl h
  · exact .inr ⟨g, h1, h2, h3, own_same h4 (ho.block g h4.1 (by omega)) ho.size⟩
theorem zi_high {L U : Nat} {w : World} {a : Option Addr} {n : Nat} {f : Nat → Int} (h : ZI L U w a n f) {B : Nat} (hB : U ≤ B) (o : Nat) (v : Value) : ZI L U (w.setCell ⟨B, o, none⟩ v) a n f := by
  rcases h with h | ⟨g, h1, h2, h3, h4⟩
  · exact .inl h
  · exact .inr ⟨g, h1, h2, h3, own_same h4 (Below.heap_setCell _ ⟨B, o, none⟩ _ g (by show g ≠ B; omega)) (by simp)⟩
theorem zi_low {L U : Nat} {w : World} {a : Option Addr} {n : Nat} {f : Nat → Int} (h : ZI L U w a n f) {B : Nat} (hB : B < L) (o : Nat) (v : Value) : ZI L U (w.setCell ⟨B, o, none⟩ v) a n f := by
  rcases h with h | ⟨g, h1, h2, h3, h4⟩
  · exact .inl h
  · exact .inr ⟨g, h1, h2, h3, own_same h4 (Below.heap_setCell _ ⟨B, o, none⟩ _ g (by show g ≠ B; omega)) (by simp)⟩

set_option maxRecDepth 100000 in
set_option maxHeartbeats 4000000 in
theorem l3bent_any (B : Nat) (a : Option Addr) (len cap : Nat) (w : World) (hc : Cur w B a len cap) :
    Calls Try.prog 15 #[.pointer (some ⟨B, 0, none⟩)] w fun e w' => ∃ (x : Option Addr) (n k : Nat) (lim : Int) (g : Nat → Pk), e = .returned (.agg #[.slice x n k, .int .i64 lim]) ∧ ZI w.heap.size w'.heap.size w' x (n * 6) (flat g) ∧ n ≤ k ∧ n ≤ 13 ∧ (∀ j, j < n → (g j).small) ∧ (0 ≤ lim ∧ lim ≤ 41) ∧ Cur w' B a len cap ∧ Only B w w' := by
  have hB := hc.1
  have C0 : Hid (Cur (w.alloc (.cells #[.slice none 0 0, .int .i64 0] 25)) B a len cap) := hc.alloc _ _
  have Z0 : Hid (Sits (w.alloc (.cells #[.slice none 0 0, .int .i64 0] 25)) w.heap.size #[.slice none 0 0, .int .i64 0] 25) := Sits.new _ _ _
  have O0 : Hid (Only B w (w.alloc (.cells #[.slice none 0 0, .int .i64 0] 25))) := (Only.refl B w).alloc _
  clear hc
  go_enter Try.func15, Try.ntmps15
  go_wp2_with fail
  refine (l3draw_any B a len cap _ C0.out).mono ?_
  rintro o w1 ⟨x, n, k, lim, t, g, rfl, p1, li, ⟨t0, t1⟩, ⟨l1, l2, l3⟩, c1, o1⟩
  have C1 : Hid _ := c1
  have z1 := Sits.only Z0.out o1 (by omega)
  have hz1 := z1.lt
  have Z1 : Hid _ := z1
  have P1 : Hid _ := p1
  have LL : Hid _ := li.small (by omega)
  have O1 : Hid _ := Only.trans O0.out o1
  clear c1 o1 z1 C0 Z0 O0 p1 li
  go_wp2_with fail
  obtain ⟨V, hV⟩ : ∃ V, w1.heap.size = V := ⟨_, rfl⟩
  obtain ⟨W1, hW1⟩ : ∃ W1, w1.alloc (.cells #[.slice x n k, .int .i64 lim] 25) = W1 := ⟨_, rfl⟩
  have C2 : Hid (Cur W1 B a len cap) := by rw [← hW1]; exact Cur.alloc C1.out _ _
  have Z2 : Hid (Sits W1 w.heap.size #[.slice none 0 0, .int .i64 0] 25) := by rw [← hW1]; exact Sits.alloc Z1.out _
  have V2 : Hid (Sits W1 V #[.slice x n k, .int .i64 lim] 25) := by rw [← hW1, ← hV]; exact Sits.new _ _ _
  have O2 : Hid (Only B w W1) := by rw [← hW1]; exact Only.alloc O1.out _
  have P2 : Hid (PO (w.heap.size + 1) W1 x n k g) := by rw [← hW1]; exact po_keep (PO.mono P1.out (by simp)) (fun i hi hi2 => Below.heap_alloc _ _ i hi2)
  have X2 : Hid (ZI (w.heap.size + 1) V W1 x (n * 6) (flat g)) := by
    have h := PO.zi P1.out
    rw [hV] at h
    have h2 : ZI (w.heap.size + 1) V w1 x (n * 6) (flat g) := by simpa using h
    rw [← hW1]
    exact h2.below ((Below.refl _ _).alloc (Nat.le_refl _) _)
  have HO : Hid (∀ kk, (Value.slice x n k).ownBlock = some kk → w.heap.size + 1 ≤ kk ∧ kk < V) := fun kk ek => by
    have h := PO.own_lt P1.out kk ek
    rw [hV] at h
    simpa using h
  have hVw : w.heap.size < V := by rw [← hV]; exact hz1
  rw [hW1, hV]
  clear hW1 hV hz1 C1 Z1 O1 P1
  have hcap : n ≤ k := PO.cap P2.out
  refine (once_any B a len cap _ C2.out 9 (by omega) (by omega)).mono ?_
  rintro o w3 ⟨b3, rfl, c3, o3⟩
  have C3 : Hid _ := c3
  have Z3 : Hid _ := Sits.only Z2.out o3 (by omega)
  have V3 : Hid _ := Sits.only V2.out o3 (by omega)
  have P3 : Hid _ := po_only P2.out o3 (by omega)
  have X3 : Hid (ZI (w.heap.size + 1) V w3 x (n * 6) (flat g)) := zi_only X2.out o3 (by omega)
  have O3 : Hid _ := Only.trans O2.out o3
  clear c3 o3 C2 Z2 V2 P2 X2 O2
  cases b3
  · have e0 : w3.cell? ⟨V, 0, none⟩ = some (.slice x n k) := Sits.cell (V3.out) 0
    have e1 : w3.cell? ⟨V, 1, none⟩ = some (.int .i64 (lim)) := Sits.cell (V3.out) 1
    have z0 : w3.cell? ⟨w.heap.size, 0, none⟩ = some (.slice none 0 0) := Sits.cell (Z3.out) 0
    have z1 : w3.cell? ⟨w.heap.size, 1, none⟩ = some (.int .i64 0) := Sits.cell (Z3.out) 1
    have fZ := Sits.frozen (Z3.out)
    have hVl := Sits.lt (V3.out)
    go_wp2
    refine bodyPost_ret (ret_f (v := .slice x n k) (u := .int .i64 (lim)) (t := 25) (B := w.heap.size) Try.results15 rfl ?_) rfl ⟨x, n, k, lim, g, rfl, ?_, ?_, ?_, LL.out, ⟨?_, ?_⟩, ?_, ?_⟩
    · have h0 : Sits (w3.setCell ⟨w.heap.size, 0, none⟩ (.slice x n k)) w.heap.size #[.slice x n k, .int .i64 0] 25 := Sits.set (Z3.out) 0 _
      exact h0.set 1 _
    · exact ZI.wide (zi_low (zi_low (X3.out) (by omega) 0 _) (by omega) 1 _) (by omega) (by first | (simp; done) | (simp; omega))
    · first | omega | exact hcap
    · omega
    · omega
    · omega
    · exact Cur.setNew (Cur.setNew (C3.out) (by omega) _) (by omega) _
    · exact Only.setNew (Only.setNew (O3.out) (Nat.le_refl _) _) (Nat.le_refl _) _
  · go_wp2_with fail
    refine (below_any B a len cap _ C3.out 4 (by omega) (by omega)).mono ?_
    rintro o w4 ⟨x4, rfl, x40, x41, c4, o4⟩
    have C4 : Hid _ := c4
    have Z4 : Hid _ := Sits.only Z3.out o4 (by omega)
    have V4 : Hid _ := Sits.only V3.out o4 (by omega)
    have P4 : Hid _ := po_only P3.out o4 (by omega)
    have X4 : Hid (ZI (w.heap.size + 1) V w4 x (n * 6) (flat g)) := zi_only X3.out o4 (by omega)
    have O4 : Hid _ := Only.trans O3.out o4
    clear c4 o4 C3 Z3 V3 P3 X3 O3
    rcases (show x4 = 0 ∨ x4 = 1 ∨ x4 = 2 ∨ x4 = 3 by omega) with rfl | rfl | rfl | rfl
    · go_wp2_with fail
      refine Calls.mono (pick_lit (fun x => 0 ≤ x ∧ x ≤ 41) B a len cap _ C4.out _ _ 4 ?n1 ?n2 ?n3 ?q) ?_
      case n1 => rfl
      case n2 => omega
      case n3 => omega
      case q =>
        intro v hv
        simp only [List.mem_cons, List.not_mem_nil, or_false] at hv
        rcases hv with rfl | rfl | rfl | rfl
        all_goals exact ⟨_, rfl, by omega, by omega⟩
      rintro o w5 ⟨x5, rfl, ⟨x50, x51⟩, c5, o5⟩
      have C5 : Hid _ := c5
      have Z5 : Hid _ := Sits.only Z4.out o5 (by omega)
      have V5 : Hid _ := Sits.only V4.out o5 (by omega)
      have P5 : Hid _ := po_only P4.out o5 (by omega)
      have X5 : Hid (ZI (w.heap.size + 1) V w5 x (n * 6) (flat g)) := zi_only X4.out o5 (by omega)
      have O5 : Hid _ := Only.trans O4.out o5
      clear c5 o5 C4 Z4 V4 P4 X4 O4
      have E0 : w5.cell? ⟨V, 0, none⟩ = some (.slice x n k) := Sits.cell V5.out 0
      have E1 : w5.cell? ⟨V, 1, none⟩ = some (.int .i64 lim) := Sits.cell V5.out 1
      have fV := Sits.frozen V5.out
      have z0 : w5.cell? ⟨w.heap.size, 0, none⟩ = some (.slice none 0 0) := Sits.cell Z5.out 0
      have z1 : w5.cell? ⟨w.heap.size, 1, none⟩ = some (.int .i64 0) := Sits.cell Z5.out 1
      have fZ := Sits.frozen Z5.out
      have hVl := Sits.lt V5.out
      have hne : ¬ V = w.heap.size := by omega
      go_wp2
      refine bodyPost_ret (ret_f (v := .slice x n k) (u := .int .i64 x5) (t := 25) (B := w.heap.size) Try.results15 rfl ?_) rfl ⟨x, n, k, x5, g, rfl, ?_, hcap, ?_, LL.out, ⟨x50, x51⟩, ?_, ?_⟩
      · have h0 : Sits ((w5.setCell ⟨V, 1, none⟩ (.int .i64 x5)).setCell ⟨w.heap.size, 0, none⟩ (.slice x n k)) w.heap.size #[.slice x n k, .int .i64 0] 25 := Sits.set (Sits.other Z5.out (by omega) _) 0 _
        exact h0.set 1 _
      · exact ZI.wide (zi_low (zi_low (zi_high X5.out (Nat.le_refl _) 1 _) (by omega) 0 _) (by omega) 1 _) (by omega) (by first | (simp; done) | (simp; omega))
      · omega
      · exact Cur.setNew (Cur.setNew (Cur.setNew C5.out (by omega) _) (by omega) _) (by omega) _
      · exact Only.setNew (Only.setNew (Only.setNew O5.out (by omega) _) (Nat.le_refl _) _) (Nat.le_refl _) _
    · have s4 : Sits w4 V #[.slice x n k, .int .i64 lim] 25 := V4.out
      have E0 : w4.cell? ⟨V, 0, none⟩ = some (.slice x n k) := s4.cell 0
      have fV := s4.frozen
      have hVl := s4.lt
      clear s4
      go_wp2_with fail
      go_region_law (first | (refine step_append_pk1 (by rfl) _ _ (by rfl) (w.heap.size + 1) x n k g (by rfl) (po_keep (po_only (w := w4.drew) P4.out oo (by omega)) (fun i hi hi2 => Below.heap_alloc _ _ i hi2)) w6.heap.size p (by rfl) (Lies.pk (Lies.new w6 (pkCells p) _)) (by omega) (by simp; omega) ?_; intro gb c' w7 hbo hgrow hat hlt7; have hbel : Below (w.heap.size + 1) w6 w7 := ((Below.refl (w.heap.size + 1) w6).alloc (by omega) _).grown hgrow (by simp; omega) (fun kk ek => (HO.out kk ek).1); have s7 : Sits w7 V #[.slice x n k, .int .i64 lim] 25 := (hgrow.block V (by simp; omega) (fun ek => by have := (HO.out V ek.symm).2; omega)).trans (Sits.alloc (Sits.only (Sits.drew V4.out) oo (by omega)) _); have hgV : gb ≠ V := at_ne hat HO.out (by simp; omega); have d7 : w7.cell? ⟨V, 0, none⟩ = some (.slice x n k) := s7.cell 0; have f7 := s7.frozen 0; clear hgrow hat) | (refine step_pkt (by rfl) _ _ _ _ _ _ (by rfl) B 1 0 (by rfl) (by rfl) (by rfl) a len cap (Cur.drew C4.out) ?_; intro p w6 hp cc oo; have d6 : w6.cell? ⟨V, 0, none⟩ = some (.slice x n k) := (Sits.only (Sits.drew V4.out) oo (by omega)).cell 0; have lw6 := Sits.lt (Sits.only (Sits.drew V4.out) oo (by omega))))
      all_goals
        have s8 : Sits (w7.setCell ⟨V, 0, none⟩ (.slice (some ⟨gb, 0, none⟩) (n + 1) c')) V #[.slice (some ⟨gb, 0, none⟩) (n + 1) c', .int .i64 lim] 25 := s7.set 0 _
        have F8 : Sits (w7.setCell ⟨V, 0, none⟩ (.slice (some ⟨gb, 0, none⟩) (n + 1) c')) w.heap.size #[.slice none 0 0, .int .i64 0] 25 := Sits.other (Sits.below (Sits.only (Sits.drew Z4.out) oo (by omega)) hbel (by omega)) (by omega) _
        have hp8 := PO.set_ne hbo hgV 0 (.slice (some ⟨gb, 0, none⟩) (n + 1) c')
        have hc8 := PO.cap hbo
        have C8 : Cur (w7.setCell ⟨V, 0, none⟩ (.slice (some ⟨gb, 0, none⟩) (n + 1) c')) B a len cap := Cur.setNew (cur_low cc hbel (by omega)) (by omega) _
        have O8 : Only B w (w7.setCell ⟨V, 0, none⟩ (.slice (some ⟨gb, 0, none⟩) (n + 1) c')) := Only.setNew (only_low (Only.trans (Only.drew O4.out) oo) hbel (by omega)) (by omega) _
        obtain ⟨w8, hw8⟩ : ∃ w8, w7.setCell ⟨V, 0, none⟩ (.slice (some ⟨gb, 0, none⟩) (n + 1) c') = w8 := ⟨_, rfl⟩
        rw [hw8] at s8 F8 hp8 C8 O8 ⊢
        have S8 : Hid (Sits w8 V #[.slice (some ⟨gb, 0, none⟩) (n + 1) c', .int .i64 lim] 25) := s8
        have G8 : Hid (Sits w8 w.heap.size #[.slice none 0 0, .int .i64 0] 25) := F8
        have hz8 : ZI (w.heap.size + 1) w8.heap.size w8 (some ⟨gb, 0, none⟩) ((n + 1) * 6) (flat fun i => if i = n then p else g i) := PO.zi hp8
        have hcap8 : n + 1 ≤ c' := hc8
        have sm8 : ∀ j, j < n + 1 → ((fun i => if i = n then p else g i) j).small := fun j hj => by
          by_cases ej : j = n
          · simp only [if_pos ej]
            obtain ⟨h1, h2, h3, h4, h5, h6⟩ := hp
            exact ⟨by omega, by omega, h3, h4, by omega, h6⟩
          · simp only [if_neg ej]
            exact LL.out j (by omega)
        have HZ8 : Hid _ := hz8
        have HM8 : Hid _ := sm8
        clear hw8 s8 F8 hp8 hc8 hz8 sm8 s7 d7 f7 d6 hbo hbel
        have e0 : w8.cell? ⟨V, 0, none⟩ = some (.slice (some ⟨gb, 0, none⟩) (n + 1) c') := Sits.cell (S8.out) 0
        have e1 : w8.cell? ⟨V, 1, none⟩ = some (.int .i64 (lim)) := Sits.cell (S8.out) 1
        have z0 : w8.cell? ⟨w.heap.size, 0, none⟩ = some (.slice none 0 0) := Sits.cell (G8.out) 0
        have z1 : w8.cell? ⟨w.heap.size, 1, none⟩ = some (.int .i64 0) := Sits.cell (G8.out) 1
        have fZ := Sits.frozen (G8.out)
        have hVl := Sits.lt (S8.out)
        go_wp2
        refine bodyPost_ret (ret_f (v := .slice (some ⟨gb, 0, none⟩) (n + 1) c') (u := .int .i64 (lim)) (t := 25) (B := w.heap.size) Try.results15 rfl ?_) rfl ⟨(some ⟨gb, 0, none⟩), (n + 1), c', lim, rfl, (fun i => if i = n then p else g i), ?_, ?_, ?_, HM8.out, ⟨?_, ?_⟩, ?_, ?_⟩
        · have h0 : Sits (w8.setCell ⟨w.heap.size, 0, none⟩ (.slice (some ⟨gb, 0, none⟩) (n + 1) c')) w.heap.size #[.slice (some ⟨gb, 0, none⟩) (n + 1) c', .int .i64 0] 25 := Sits.set (G8.out) 0 _
          exact h0.set 1 _
        · exact ZI.wide (zi_low (zi_low (HZ8.out) (by omega) 0 _) (by omega) 1 _) (by omega) (by first | (simp; done) | (simp; omega))
        · first | omega | exact hcap
        · omega
        · omega
        · omega
        · exact Cur.setNew (Cur.setNew (C8) (by omega) _) (by omega) _
        · exact Only.setNew (Only.setNew (O8) (Nat.le_refl _) _) (Nat.le_refl _) _
    · have hlen : ((n : Int) : Int) = (n : Int) := rfl
      rcases (show n = 0 ∨ 0 < n by omega) with hz | hz
      · subst hz
        have E0 : w4.cell? ⟨V, 0, none⟩ = some (.slice x 0 k) := Sits.cell V4.out 0
        have e0 : w4.cell? ⟨V, 0, none⟩ = some (.slice x 0 k) := Sits.cell (V4.out) 0
        have e1 : w4.cell? ⟨V, 1, none⟩ = some (.int .i64 (lim)) := Sits.cell (V4.out) 1
        have z0 : w4.cell? ⟨w.heap.size, 0, none⟩ = some (.slice none 0 0) := Sits.cell (Z4.out) 0
        have z1 : w4.cell? ⟨w.heap.size, 1, none⟩ = some (.int .i64 0) := Sits.cell (Z4.out) 1
        have fZ := Sits.frozen (Z4.out)
        have hVl := Sits.lt (V4.out)
        go_wp2
        refine bodyPost_ret (ret_f (v := .slice x 0 k) (u := .int .i64 (lim)) (t := 25) (B := w.heap.size) Try.results15 rfl ?_) rfl ⟨x, 0, k, lim, g, rfl, ?_, ?_, ?_, LL.out, ⟨?_, ?_⟩, ?_, ?_⟩
        · have h0 : Sits (w4.setCell ⟨w.heap.size, 0, none⟩ (.slice x 0 k)) w.heap.size #[.slice x 0 k, .int .i64 0] 25 := Sits.set (Z4.out) 0 _
          exact h0.set 1 _
        · exact ZI.wide (zi_low (zi_low (show ZI (w.heap.size + 1) V w4 x (0 * 6) (flat g) from .inl rfl) (by omega) 0 _) (by omega) 1 _) (by omega) (by first | (simp; done) | (simp; omega))
        · first | omega | exact hcap
        · omega
        · omega
        · omega
        · exact Cur.setNew (Cur.setNew (C4.out) (by omega) _) (by omega) _
        · exact Only.setNew (Only.setNew (O4.out) (Nat.le_refl _) _) (Nat.le_refl _) _
      · obtain ⟨gb, hx, hg2, hg3, ho⟩ : ∃ gb : Nat, x = some ⟨gb, 0, none⟩ ∧ w.heap.size + 1 ≤ gb ∧ gb < w4.heap.size ∧ Own .i64 w4 gb (n * 6) (flat g) := by
          rcases PO.zi P4.out with h0 | ⟨gb, h1, h2, h3, h4⟩
          · omega
          · exact ⟨gb, h1, h2, h3, h4⟩
        have hgV : gb < V := by
          rcases X4.out with h0 | ⟨g', h1, h2, h3, h4⟩
          · omega
          · rw [hx] at h1; simp only [Option.some.injEq, Addr.mk.injEq] at h1; omega
        subst hx
        have q4 := (ho.2 4 (by omega)).1
        have q5 := (ho.2 4 (by omega)).2
        have om := own_put ho (show 4 < n * 6 by omega) 1000000000000
        have E0 : w4.cell? ⟨V, 0, none⟩ = some (.slice (some ⟨gb, 0, none⟩) n k) := Sits.cell V4.out 0
        have E1 : w4.cell? ⟨V, 1, none⟩ = some (.int .i64 lim) := Sits.cell V4.out 1
        have z0 : w4.cell? ⟨w.heap.size, 0, none⟩ = some (.slice none 0 0) := Sits.cell Z4.out 0
        have z1 : w4.cell? ⟨w.heap.size, 1, none⟩ = some (.int .i64 0) := Sits.cell Z4.out 1
        have fZ := Sits.frozen Z4.out
        have hVl := Sits.lt V4.out
        have hn0 : (0 : Int) < (n : Int) := by omega
        have hne1 : ¬ gb = V := by omega
        have hne2 : ¬ gb = w.heap.size := by omega
        go_wp2
        refine bodyPost_ret (ret_f (v := .slice (some ⟨gb, 0, none⟩) n k) (u := .int .i64 lim) (t := 25) (B := w.heap.size) Try.results15 rfl ?_) rfl ⟨_, n, k, lim, putPk g, rfl, ?_, hcap, by omega, ?_, ⟨by omega, by omega⟩, ?_, ?_⟩
        · have h0 : Sits ((w4.setCell ⟨gb, 4, none⟩ (.int .i64 1000000000000)).setCell ⟨w.heap.size, 0, none⟩ (.slice (some ⟨gb, 0, none⟩) n k)) w.heap.size #[.slice (some ⟨gb, 0, none⟩) n k, .int .i64 0] 25 := Sits.set (Sits.other Z4.out (by omega) _) 0 _
          exact h0.set 1 _
        · have zz : ZI (w.heap.size + 1) V (w4.setCell ⟨gb, 4, none⟩ (.int .i64 1000000000000)) (some ⟨gb, 0, none⟩) (n * 6) (flat (putPk g)) := .inr ⟨gb, rfl, hg2, hgV, by rw [flat_putAt]; exact om⟩
          exact ZI.wide (zi_low (zi_low zz (by omega) 0 _) (by omega) 1 _) (by omega) (by simp; omega)
        · exact small_putAt LL.out
        · exact Cur.setNew (Cur.setNew (Cur.setNew C4.out (by omega) _) (by omega) _) (by omega) _
        · exact Only.setNew (Only.setNew (Only.setNew O4.out (by omega) _) (Nat.le_refl _) _) (Nat.le_refl _) _
    · have hlen : ((n : Int) : Int) = (n : Int) := rfl
      rcases (show n = 0 ∨ 0 < n by omega) with hz | hz
      · subst hz
        have E0 : w4.cell? ⟨V, 0, none⟩ = some (.slice x 0 k) := Sits.cell V4.out 0
        have e0 : w4.cell? ⟨V, 0, none⟩ = some (.slice x 0 k) := Sits.cell (V4.out) 0
        have e1 : w4.cell? ⟨V, 1, none⟩ = some (.int .i64 (lim)) := Sits.cell (V4.out) 1
        have z0 : w4.cell? ⟨w.heap.size, 0, none⟩ = some (.slice none 0 0) := Sits.cell (Z4.out) 0
        have z1 : w4.cell? ⟨w.heap.size, 1, none⟩ = some (.int .i64 0) := Sits.cell (Z4.out) 1
        have fZ := Sits.frozen (Z4.out)
        have hVl := Sits.lt (V4.out)
        go_wp2
        refine bodyPost_ret (ret_f (v := .slice x 0 k) (u := .int .i64 (lim)) (t := 25) (B := w.heap.size) Try.results15 rfl ?_) rfl ⟨x, 0, k, lim, g, rfl, ?_, ?_, ?_, LL.out, ⟨?_, ?_⟩, ?_, ?_⟩
        · have h0 : Sits (w4.setCell ⟨w.heap.size, 0, none⟩ (.slice x 0 k)) w.heap.size #[.slice x 0 k, .int .i64 0] 25 := Sits.set (Z4.out) 0 _
          exact h0.set 1 _
        · exact ZI.wide (zi_low (zi_low (show ZI (w.heap.size + 1) V w4 x (0 * 6) (flat g) from .inl rfl) (by omega) 0 _) (by omega) 1 _) (by omega) (by first | (simp; done) | (simp; omega))
        · first | omega | exact hcap
        · omega
        · omega
        · omega
        · exact Cur.setNew (Cur.setNew (C4.out) (by omega) _) (by omega) _
        · exact Only.setNew (Only.setNew (O4.out) (Nat.le_refl _) _) (Nat.le_refl _) _
      · obtain ⟨gb, hx, hg2, hg3, ho⟩ : ∃ gb : Nat, x = some ⟨gb, 0, none⟩ ∧ w.heap.size + 1 ≤ gb ∧ gb < w4.heap.size ∧ Own .i64 w4 gb (n * 6) (flat g) := by
          rcases PO.zi P4.out with h0 | ⟨gb, h1, h2, h3, h4⟩
          · omega
          · exact ⟨gb, h1, h2, h3, h4⟩
        have hgV : gb < V := by
          rcases X4.out with h0 | ⟨g', h1, h2, h3, h4⟩
          · omega
          · rw [hx] at h1; simp only [Option.some.injEq, Addr.mk.injEq] at h1; omega
        subst hx
        have q4 := (ho.2 3 (by omega)).1
        have q5 := (ho.2 3 (by omega)).2
        have om := own_put ho (show 3 < n * 6 by omega) 0
        have E0 : w4.cell? ⟨V, 0, none⟩ = some (.slice (some ⟨gb, 0, none⟩) n k) := Sits.cell V4.out 0
        have E1 : w4.cell? ⟨V, 1, none⟩ = some (.int .i64 lim) := Sits.cell V4.out 1
        have z0 : w4.cell? ⟨w.heap.size, 0, none⟩ = some (.slice none 0 0) := Sits.cell Z4.out 0
        have z1 : w4.cell? ⟨w.heap.size, 1, none⟩ = some (.int .i64 0) := Sits.cell Z4.out 1
        have fZ := Sits.frozen Z4.out
        have hVl := Sits.lt V4.out
        have hn0 : (0 : Int) < (n : Int) := by omega
        have hne1 : ¬ gb = V := by omega
        have hne2 : ¬ gb = w.heap.size := by omega
        go_wp2
        refine bodyPost_ret (ret_f (v := .slice (some ⟨gb, 0, none⟩) n k) (u := .int .i64 lim) (t := 25) (B := w.heap.size) Try.results15 rfl ?_) rfl ⟨_, n, k, lim, putSize g, rfl, ?_, hcap, by omega, ?_, ⟨by omega, by omega⟩, ?_, ?_⟩
        · have h0 : Sits ((w4.setCell ⟨gb, 3, none⟩ (.int .i64 0)).setCell ⟨w.heap.size, 0, none⟩ (.slice (some ⟨gb, 0, none⟩) n k)) w.heap.size #[.slice (some ⟨gb, 0, none⟩) n k, .int .i64 0] 25 := Sits.set (Sits.other Z4.out (by omega) _) 0 _
          exact h0.set 1 _
        · have zz : ZI (w.heap.size + 1) V (w4.setCell ⟨gb, 3, none⟩ (.int .i64 0)) (some ⟨gb, 0, none⟩) (n * 6) (flat (putSize g)) := .inr ⟨gb, rfl, hg2, hgV, by rw [flat_putSize]; exact om⟩
          exact ZI.wide (zi_low (zi_low zz (by omega) 0 _) (by omega) 1 _) (by omega) (by simp; omega)
        · exact small_putSize LL.out
        · exact Cur.setNew (Cur.setNew (Cur.setNew C4.out (by omega) _) (by omega) _) (by omega) _
        · exact Only.setNew (Only.setNew (Only.setNew O4.out (by omega) _) (Nat.le_refl _) _) (Nat.le_refl _) _

end Go.Proofs.Ytkmiijgoinpndaa
