/-
  THE PROGRAM's ITERATOR pieces, which panics where a span is none; its spansOk, which catches that; RecvOk of the program.
-/
import Derived.Test.YtfghnfanimpjjaaDoorRecvB
import Derived.Test.YtfghnfanimpjjaaDoorRfPanic
namespace Go.Proofs.YtfghnfanimpjjaaDoor
open Go.RowKit Go.Shelf
set_option linter.unusedVariables false
attribute [local go_sem] Oper.semAt_some

/-- The program's error lies in its variable. -/
def ErrSp (e : Addr) (w : World) : Prop := w.cell? ⟨0, 0, none⟩ = some (.iface 64 (.pointer (some e)))
theorem ErrSp.lt {e : Addr} {w : World} (h : ErrSp e w) : 0 < w.heap.size := by
  by_cases h0 : 0 < w.heap.size
  · exact h0
  · exfalso
    unfold ErrSp World.cell? at h
    rw [show w.heap[0]? = none from Array.getElem?_eq_none (by omega)] at h
    cases h
theorem ErrSp.below {e : Addr} {n : Nat} {w w' : World} (h : ErrSp e w) (hb : Below n w w') (hn : 0 < n) : ErrSp e w' := (hb.cell (p := ⟨0, 0, none⟩) hn).trans h

theorem run_panic_iface (t : TypeId) (v : Value) (w : World) : (Instr.panic (.iface t v)).run Tryd.prog w = .halt (.panic (.iface t v)) w := rfl

set_option maxHeartbeats 1000000 in
theorem pieces_in (m : Nat) (nx : Int) (a : Option Addr) (n c : Nat) (w : World) :
    CallsIn Fence.wide m Tryd.prog 18 #[rcVal nx a n c] w fun e w' => e = .returned (.func (.func 23) #[] #[.pointer (some ⟨w.heap.size, 0, none⟩)]) ∧ w' = w.alloc (.cells (rcCells nx a n c) 25) := by
  refine callsIn_of_wp Tryd.func18 rfl trivial ?_ rfl
  simp only [Tryd.ntmps18, List.size_toArray, List.length_cons, List.length_nil, Nat.reduceAdd, Nat.reduceSub, Array.replicate_succ, Array.replicate_zero, List.push_toArray, List.append_toArray, List.nil_append, List.cons_append]
  gi_wp2
  go_ret
  exact ⟨rfl, rfl⟩

/-- What the iterator ends with: a panic where a span is none. -/
def EndP (er : Addr) (nx : Int) (f : Nat → Sp) (n : Nat) (e : Ending) : Prop := (e = .panicked [{ v := .iface 64 (.pointer (some er)), recovered := false }] ∧ ¬ okS nx f n) ∨ ((∃ v, e = .returned v) ∧ okS nx f n)

set_option maxRecDepth 100000 in
set_option maxHeartbeats 4000000 in
theorem pieces1_all (m : Nat) (hm : 1 ≤ m) (l Bs n₀ n c : Nat) (a : Option Addr) (f : Nat → Sp) (nx : Int) (hn : n ≤ 8) (er : Addr) (J : World → Prop) (W : World)
    (hJ : ∀ V c t, J V → J (V.alloc (.cells c t)))
    (hY : ∀ (x : Int × Sp) V, J V → YieldAt Fence.wide (m - 1) Tryd.prog l #[.int .i64 x.1, x.2.val] V fun e V' => e = .returned (.bool true) ∧ J V' ∧ Below n₀ V V' ∧ KeepsCl V V')
    (hBs : Sits W Bs (rcCells nx a n c) 25) (hB0 : Bs < n₀) (hn₀ : n₀ ≤ W.heap.size) (hc : SR n₀ W a n f) (he : ErrSp er W) (hz : 0 < n₀) (h0 : J W) :
    CallsIn Fence.wide m Tryd.prog 23 #[.func (.yield l) #[] #[], .pointer (some ⟨Bs, 0, none⟩)] W fun e W' => EndP er nx f n e ∧ J W' := by
  refine callsIn_of_wp Tryd.func23 rfl trivial ?_ rfl
  simp only [Tryd.ntmps23, List.size_toArray, List.length_cons, List.length_nil, Nat.reduceAdd, Nat.reduceSub, Array.replicate_succ, Array.replicate_zero, List.push_toArray, List.append_toArray, List.nil_append, List.cons_append]
  have HC : Hid (SR n₀ W a n f) := hc
  have HS : Hid (∀ V, Below n₀ W V → Sits V Bs (rcCells nx a n c) 25) := fun V h => hBs.below h hB0
  have HE : Hid (∀ V, Below n₀ W V → ErrSp er V) := fun V h => he.below h hz
  obtain ⟨q0, q1⟩ := rc_cells hBs
  clear hc hBs he
  obtain ⟨fn, tmps, assign, body, hy, hR⟩ := hY (0, ⟨0, nx⟩) W h0
  dsimp only at hy
  gi_wp2
  refine hR.mono ?_
  rintro e W2 ⟨rfl, hJ2, hb2, -⟩
  clear hy hR q0 q1
  obtain ⟨q0, q1⟩ := rc_cells (HS.out _ hb2)
  gi_wp2
  gi_loopw [3, 17] (fun e i wr => ∃ k : Nat, (k : Int) ≤ (n : Int) ∧ e = .int .i64 (endF nx f k) ∧ i = .int .i64 k ∧ okS nx f k ∧ J wr ∧ Below n₀ W wr) (fun _ i _ => n - (intOf i).toNat)
  case atStart => exact ⟨0, by omega, rfl, rfl, okS_0 _ _, hJ2, hb2⟩
  case round =>
    obtain ⟨k, hk, rfl, rfl, hok, hJs, hnx⟩ := hrel
    have HOK : Hid (okS nx f k) := hok
    obtain ⟨E, hE⟩ : ∃ E, endF nx f k = E := ⟨_, rfl⟩
    rw [hE]
    have HEE : Hid (endF nx f k = E) := hE
    clear hok hE q0 q1
    by_cases hlt : k < n
    · obtain ⟨b, off, rfl, hbl, hcs⟩ := SR.at HC.out hlt
      obtain ⟨c0, c1⟩ := (hcs k hlt).below hnx hbl
      clear hcs
      have hlt' : (k : Int) < (n : Int) := by omega
      have hba : Below n₀ W (wr.alloc (.cells (spCells (f k)) 34)) := hnx.alloc (Nat.le_trans hn₀ (by have := hnx.size; omega)) _
      have e0 : (wr.alloc (.cells (spCells (f k)) 34)).cell? ⟨0, 0, none⟩ = some (.iface 64 (.pointer (some er))) := HE.out _ hba
      have hJa := hJ wr (spCells (f k)) 34 hJs
      have BAD : Hid ((f k).fr ≤ E ∨ (f k).to ≤ (f k).fr ∨ 1000000000000 < (f k).to → ¬ okS nx f n) := fun h ho => by
        have := ho k hlt
        rw [HEE.out] at this
        omega
      by_cases t0 : (f k).fr ≤ E
      · gi_wp2
        rw [run_panic_iface]
        exact ⟨rfl, .inl ⟨rfl, BAD.out (.inl t0)⟩, hJa⟩
      have d0 : decide ((f k).fr ≤ E) = false := by simp; omega
      by_cases t1 : (f k).to ≤ (f k).fr
      · gi_wp2
        rw [run_panic_iface]
        exact ⟨rfl, .inl ⟨rfl, BAD.out (.inr (.inl t1))⟩, hJa⟩
      have d1 : decide ((f k).to ≤ (f k).fr) = false := by simp; omega
      by_cases t2 : 1000000000000 < (f k).to
      · gi_wp2
        rw [run_panic_iface]
        exact ⟨rfl, .inl ⟨rfl, BAD.out (.inr (.inr t2))⟩, hJa⟩
      have d2 : decide (1000000000000 < (f k).to) = false := by simp; omega
      obtain ⟨fn, tmps, assign, body, hy, hR⟩ := hY (E, f k) _ hJa
      dsimp only at hy
      gi_wp2
      refine hR.mono ?_
      rintro e W3 ⟨rfl, hJ3, hb3, hkc⟩
      clear hy hR
      have g1 : Sits W3 wr.heap.size (spCells (f k)) 34 := hkc _ _ _ (Sits.new wr _ _)
      have y0 : W3.cell? ⟨wr.heap.size, 0, none⟩ = some (.int .i64 (f k).fr) := g1.cell 0
      have y1 : W3.cell? ⟨wr.heap.size, 1, none⟩ = some (.int .i64 (f k).to) := g1.cell 1
      gi_wp2
      go_roundw
      case rel => exact ⟨k + 1, by omega, by rw [endF_succ], by go_num, okS_succ HOK.out (by rw [HEE.out]; omega) (by omega) (by omega), hJ3, hba.trans hb3⟩
      case measure => simp [intOf]; omega
    · have hkn : k = n := by omega
      have hlt' : ¬ (k : Int) < (n : Int) := by omega
      have GOOD : Hid (okS nx f n) := by
        show okS nx f n
        rw [← hkn]
        exact HOK.out
      clear hkn
      gi_wp2
      go_end0
      exact ⟨.inr ⟨⟨_, rfl⟩, GOOD.out⟩, hJs⟩

theorem heap_set_ne {w : World} {p : Addr} {D : Nat} (h : D ≠ p.block) (v : Value) : (w.setCell p v).heap[D]? = w.heap[D]? := by
  simp only [World.setCell, Array.getElem?_modify]
  rw [if_neg (fun e => h e.symm)]

theorem caught_in (m : Nat) (p : Addr) (x : Bool) (u : TypeId) (pv : Value) (older : List PanicEntry) (w : World) (hc : w.cell? p = some (.bool x)) (hz : w.frozen? p = false) :
    CallsDIn Fence.wide m Tryd.prog 22 #[.pointer (some p)] (.panicking ({ v := .iface u pv, recovered := false } :: older)) w fun e u' w' =>
      e = .returned (.tuple #[]) ∧ u' = .panicking ({ v := .iface u pv, recovered := true } :: older) ∧ w' = w.setCell p (.bool false) := by
  refine callsDIn_of_wpSIn Tryd.func22 rfl (by trivial) fun c₀ cs hu => ?_
  apply wpSIn_region
  simp [wpOpsSIn, go_sem, recoverD, hu, Tryd.ntmps22, hc, hz, bodyPostS, results, Tryd.results22]

theorem idle_in (m : Nat) (p : Addr) (x : Bool) (w : World) (hc : w.cell? p = some (.bool x)) (hz : w.frozen? p = false) :
    CallsDIn Fence.wide m Tryd.prog 22 #[.pointer (some p)] .returning w fun e u' w' => e = .returned (.tuple #[]) ∧ u' = .returning ∧ w' = w.setCell p (.bool true) := by
  refine callsDIn_of_wpSIn Tryd.func22 rfl (by trivial) fun c₀ cs hu => ?_
  apply wpSIn_region
  simp [wpOpsSIn, go_sem, recoverD, hu, Tryd.ntmps22, hc, hz, bodyPostS, results, Tryd.results22]
  cases c₀
  simp_all

set_option maxRecDepth 100000 in
set_option maxHeartbeats 4000000 in
theorem spansOk_any (nx : Int) (a : Option Addr) (n c : Nat) (f : Nat → Sp) (er : Addr) (w : World) (hn : n ≤ 8) (hP : SR w.heap.size w a n f) (he : ErrSp er w) :
    Calls Tryd.prog 17 #[rcVal nx a n c] w fun e w' => e = .returned (.bool (decide (okS nx f n))) ∧ Below w.heap.size w w' := by
  have HP : Hid (SR w.heap.size w a n f) := hP
  have HE : Hid (ErrSp er w) := he
  have hl0 := he.lt
  clear hP he
  have hmf : ∀ (fn : Fn) (first cap : Array Value) (w : World), (Instr.makeFunc fn first cap).run Tryd.prog w = .ok (.func fn first cap) w := fun _ _ _ _ => rfl
  refine (callsIn_wide (n := 6)).1 ?_
  have hro : Fence.wide.round = none := rfl
  refine callsIn_of_wp_marks Tryd.func17 rfl trivial ?_ hro
  simp only [Tryd.ntmps17, List.size_toArray, List.length_cons, List.length_nil, Nat.reduceAdd, Nat.reduceSub, Array.replicate_succ, Array.replicate_zero, List.push_toArray, List.append_toArray, List.nil_append, List.cons_append]
  gi_wp2_with (refine ⟨trivial, ?_⟩; gi_at_call 18; refine (pieces_in 5 _ _ _ _ _).mono ?_; rintro e w' ⟨rfl, rfl⟩)
  obtain ⟨V0, hV0⟩ : ∃ V, (((w.alloc (.cells #[.int .i64 nx, .slice a n c] 25)).alloc (.cells #[.bool false] 4)).alloc (.cells (rcCells nx a n c) 25)) = V := ⟨_, rfl⟩
  have hsz : V0.heap.size = w.heap.size + 1 + 1 + 1 := by rw [← hV0]; simp
  have b0 : Below w.heap.size w V0 := by rw [← hV0]; exact (((Below.refl _ w).alloc (Nat.le_refl _) _).alloc (by simp) _).alloc (by simp; omega) _
  have sB : Sits V0 (w.heap.size + 1 + 1) (rcCells nx a n c) 25 := by rw [← hV0]; exact Sits.new' (by simp)
  have sK : Sits V0 (w.heap.size + 1) #[.bool false] 4 := by rw [← hV0]; exact (Sits.new' (by simp)).alloc _
  change Code.wpIn _ _ _ _ _ _ (((w.alloc (.cells #[.int .i64 nx, .slice a n c] 25)).alloc (.cells #[.bool false] 4)).alloc (.cells (rcCells nx a n c) 25))
  rw [hV0]
  clear hV0
  have HSK : Hid (Sits V0 (w.heap.size + 1) #[.bool false] 4) := sK
  refine wpIn_range_bare (α := Int × Sp) (chain := [{ v := .iface 64 (.pointer (some er)), recovered := false }]) (E := EndP er nx f n) hro (by omega) (gf := 23) (lb := #[.pointer (some ⟨w.heap.size + 1 + 1, 0, none⟩)]) rfl trivial (enters_of Tryd.func23 (by kernel_rfl) rfl)
    (encs := fun x => #[.int .i64 x.1, x.2.val]) (fun _ => rfl) ?seq ?hE ?norm ?pan
  case seq =>
    intro l J W hW hJ hY h0
    have hWb : Below w.heap.size w W := b0.trans (hW.mono b0.size)
    exact pieces1_all 5 (by omega) l (w.heap.size + 1 + 1) V0.heap.size n c a f nx hn er J W hJ hY (sB.below hW (by omega)) (by omega) hW.size ((SR.below HP.out hWb).mono b0.size) (ErrSp.below HE.out hWb hl0) (by omega) h0
  case hE =>
    rintro e (⟨rfl, _⟩ | ⟨h, _⟩)
    · exact .inl rfl
    · exact .inr h
  case norm =>
    rintro D W v hv hD hbW hK
    have hok : okS nx f n := by
      rcases hv with ⟨h, _⟩ | ⟨_, h⟩
      · cases h
      · exact h
    have sk := Sits.below HSK.out hbW (by omega)
    have k0 : W.cell? ⟨w.heap.size + 1, 0, none⟩ = some (.bool false) := sk.cell 0
    have fk := sk.frozen
    gi_wp2
    refine ⟨by simp, .inl ⟨_, _, rfl, run_takeDeferred ((heap_set_ne (p := ⟨w.heap.size + 1, 0, none⟩) (by show D ≠ w.heap.size + 1; omega) _).trans hK), ?_⟩⟩
    refine ⟨by simp, .inr ⟨fun _ => by omega, _, _, 22, #[.pointer (some ⟨w.heap.size + 1, 0, none⟩)], rfl, by simp [invoke, go_sem], fun _ _ => trivial, ?_⟩⟩
    have bW : Below w.heap.size w W := b0.trans (hbW.mono b0.size)
    have s2 := Sits.set sk 0 (.bool true)
    have s3 : Sits ((W.setCell ⟨w.heap.size + 1, 0, none⟩ (.bool true)).putObj D (.deferred none)) (w.heap.size + 1) #[.bool true] 4 := (World.putObj_heap_other (by omega)).trans s2
    have b3 : Below w.heap.size w ((W.setCell ⟨w.heap.size + 1, 0, none⟩ (.bool true)).putObj D (.deferred none)) := below_putObj (bW.setCell (by show w.heap.size ≤ w.heap.size + 1; omega) _) (by omega) (by have := bW.size; simp [World.setCell]; omega) _
    refine (idle_in 5 ⟨w.heap.size + 1, 0, none⟩ true _ (s3.cell 0) (by first | exact s3.frozen | exact s3.frozen 0 | exact s3.frozen _)).mono ?_
    rintro e u' w2 ⟨rfl, rfl, rfl⟩
    have s4 := Sits.set s3 0 (.bool true)
    have c4 := s4.cell 0
    refine ⟨.bool true, by simp [results, Tryd.results17, go_sem, c4], by rw [decide_eq_true hok], ?_⟩
    exact b3.setCell (by show w.heap.size ≤ w.heap.size + 1; omega) _
  case pan =>
    rintro D W hv hD hbW hK
    have hok : ¬ okS nx f n := by
      rcases hv with ⟨_, h⟩ | ⟨⟨_, h⟩, _⟩
      · exact h
      · cases h
    have sk := Sits.below HSK.out hbW (by omega)
    have k0 : W.cell? ⟨w.heap.size + 1, 0, none⟩ = some (.bool false) := sk.cell 0
    have fk := sk.frozen
    refine ⟨by simp, .inl ⟨_, _, rfl, run_takeDeferred hK, ?_⟩⟩
    refine ⟨by simp, .inr ⟨fun _ => by omega, _, _, 22, #[.pointer (some ⟨w.heap.size + 1, 0, none⟩)], rfl, by simp [invoke, go_sem], fun _ _ => trivial, ?_⟩⟩
    have bW : Below w.heap.size w W := b0.trans (hbW.mono b0.size)
    have s3 : Sits (W.putObj D (.deferred none)) (w.heap.size + 1) #[.bool false] 4 := (World.putObj_heap_other (by omega)).trans sk
    have b3 : Below w.heap.size w (W.putObj D (.deferred none)) := below_putObj bW (by omega) bW.size _
    refine (caught_in 5 ⟨w.heap.size + 1, 0, none⟩ false _ _ [] _ (s3.cell 0) (by first | exact s3.frozen | exact s3.frozen 0 | exact s3.frozen _)).mono ?_
    rintro e u' w2 ⟨rfl, rfl, rfl⟩
    have s4 := Sits.set s3 0 (.bool false)
    have c4 := s4.cell 0
    refine ⟨.bool false, by simp [results, Tryd.results17, go_sem, c4], by rw [decide_eq_false hok], ?_⟩
    exact b3.setCell (by show w.heap.size ≤ w.heap.size + 1; omega) _

set_option maxRecDepth 100000 in
set_option maxHeartbeats 4000000 in
theorem irecvOk_any (nx : Int) (a : Option Addr) (n c : Nat) (f : Nat → Sp) (er : Addr) (w : World) (hn : (n : Int) ≤ 9223372036854775807) (hP : SR w.heap.size w a n f) (he : ErrSp er w) :
    Calls Tryd.prog 7 #[rcVal nx a n c] w fun e w' => e = .returned (.bool (recvB nx f n)) ∧ Below w.heap.size w w' := by
  have HP : Hid (SR w.heap.size w a n f) := hP
  have HE : Hid (ErrSp er w) := he
  have hl0 := he.lt
  clear hP he
  have b0 : Below w.heap.size w (w.alloc (.cells (rcCells nx a n c) 25)) := (Below.refl _ w).alloc (Nat.le_refl _) _
  cases h1 : inB nx 0 1000000000000
  case false =>
    have hv : recvB nx f n = false := decide_eq_false fun h => by
      have e1 := h.1
      have e2 := h.2.1
      simp [inB] at h1
      omega
    rw [hv]
    clear hv
    go_enter Tryd.func7, Tryd.ntmps7
    go_wp2_with (go_at_call 16; refine (within_any _ _ _ _).mono ?_; rintro e w9 ⟨rfl, hw9⟩; replace hw9 := hw9.symm; subst hw9)
    go_ret
    exact ⟨rfl, b0⟩
  case true =>
  have hnx : 0 ≤ nx ∧ nx ≤ 1000000000000 := by simpa [inB] using h1
  by_cases h2 : (n : Int) ≤ 8
  case neg =>
    have hv : recvB nx f n = false := decide_eq_false fun h => by
      have := h.2.2.1
      omega
    rw [hv]
    have d2 : decide ((n : Int) ≤ 8) = false := by simp; omega
    clear hv hnx
    go_enter Tryd.func7, Tryd.ntmps7
    go_wp2_with (go_at_call 16; refine (within_any _ _ _ _).mono ?_; rintro e w9 ⟨rfl, hw9⟩; replace hw9 := hw9.symm; subst hw9)
    go_ret
    exact ⟨rfl, b0⟩
  case pos =>
    have hv : recvB nx f n = decide (okS nx f n) := decide_eq_decide.2 ⟨fun h => h.2.2.2, fun h => ⟨hnx.1, hnx.2, by omega, h⟩⟩
    rw [hv]
    clear hv hnx
    obtain ⟨B, hB⟩ : ∃ B, decide (okS nx f n) = B := ⟨_, rfl⟩
    rw [hB]
    go_enter Tryd.func7, Tryd.ntmps7
    go_wp2_with (first | (go_at_call 16; refine (within_any _ _ _ _).mono ?_; rintro e w9 ⟨rfl, hw9⟩; replace hw9 := hw9.symm; subst hw9) | (go_at_call 17; refine (spansOk_any nx a n c f er _ (by omega) (SR.mono (SR.below HP.out b0) b0.size) (ErrSp.below HE.out b0 hl0)).mono ?_; rintro e w2 ⟨rfl, b2⟩; rw [hB]; have c2 := b0.trans (b2.mono b0.size)))
    go_ret
    exact ⟨rfl, c2⟩

end Go.Proofs.YtfghnfanimpjjaaDoor
