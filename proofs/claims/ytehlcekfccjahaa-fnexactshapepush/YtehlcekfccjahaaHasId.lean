/-
  DOES A LINE HOLD AN ID? hasId of the program: a range over a function inside a loop, with a return within: the marks of its rounds pile up.
-/
import Derived.Test.YtehlcekfccjahaaShapeI
namespace Go.Proofs.Ytehlcekfccjahaa
open Go.RowKit Go.Shelf
set_option linter.unusedVariables false
attribute [local go_sem] Oper.semAt_some

/-- No packet of the lines has this id. -/
def noId (L : Nat → Ln) (id : Int) : Prop := ∀ i : Nat, i < 4 → ∀ k, k < (L i).n → ((L i).f k).id ≠ id
instance (L : Nat → Ln) (id : Int) : Decidable (noId L id) := by unfold noId; infer_instance
def hidB (L : Nat → Ln) (id : Int) : Bool := !decide (noId L id)

/-- The mark that a range over a function leaves. -/
def mrk (D : Nat) : Deferred := { target := .collected D, args := #[] }
theorem putObj_ne (w : World) (D k : Nat) (o : Obj) (h : k ≠ D) : (w.putObj D o).heap[k]? = w.heap[k]? := by
  simp only [World.putObj]
  exact Array.getElem?_setIfInBounds_ne (fun e => h e.symm)
/-- All marks are shut at the way out. -/
theorem leaves_marks {fn : Func} {tmps : Array Value} {R : Ending → World → Prop} {B : Nat} (n : Nat) : ∀ (Ds : List Nat) (w : World), (∀ D ∈ Ds, w.heap[D]? = some (.deferred (some []))) → Ds.Nodup → (∀ D ∈ Ds, B ≤ D) →
    (∀ w', Below B w w' → LeavesInM Fence.wide n Try.prog fn tmps R [] .returning w') → LeavesInM Fence.wide n Try.prog fn tmps R (Ds.map mrk) .returning w
  | [], w, _, _, _, h => h w (Below.refl _ _)
  | D :: Ds, w, h1, h2, h3, h => by
    have hl := (Array.getElem?_eq_some_iff.1 (h1 D (by simp))).1
    have h3' := h3 D (by simp)
    have hb : Below B w (w.putObj D (.deferred none)) := (Below.refl B w).grown (grownBy_putObj' w D _) (by omega) (fun k e => by cases e; exact h3')
    refine ⟨by simp, .inl ⟨D, _, rfl, run_takeDeferred (h1 D (by simp)), ?_⟩⟩
    refine leaves_marks n Ds _ (fun E hE => ?_) (List.nodup_cons.1 h2).2 (fun E hE => h3 E (by simp [hE])) (fun w' hw' => h w' (hb.trans hw'))
    rw [putObj_ne _ _ _ _ (fun e => (List.nodup_cons.1 h2).1 (by rw [← e]; exact hE))]
    exact h1 E (by simp [hE])

/-- All but block R is as it lay. -/
def KeptB (V : World) (R : Nat) (W : World) : Prop := V.heap.size ≤ W.heap.size ∧ ∀ j, j < V.heap.size → j ≠ R → W.heap[j]? = V.heap[j]?
theorem KeptB.own {β : Type} {V : World} {R B : Nat} (hB : V.heap.size ≤ B) : OwnFrom B (fun (_ : β) W => KeptB V R W) := fun _ X Y row hs hg hr =>
  ⟨Nat.le_trans hs.1 hg.size, fun j hj hne => (hg.block j (by have := hs.1; omega) (fun e => by have := (hr j e.symm).1; omega)).trans (hs.2 j hj hne)⟩

set_option maxRecDepth 100000 in
set_option maxHeartbeats 4000000 in
theorem ihasId_any (a : Option Addr) (c : Nat) (L : Nat → Ln) (id : Int) (w : World) (hcn : cntF L 4 ≤ 1048576) (hP : LR w.heap.size w a 4 L) :
    Calls Try.prog 26 #[.slice a 4 c, .int .i64 id] w fun e w' => e = .returned (.bool (hidB L id)) ∧ Below w.heap.size w w' := by
  have HP : Hid (LR w.heap.size w a 4 L) := hP
  have HCN : Hid (cntF L 4 ≤ 1048576) := hcn
  clear hP hcn
  obtain ⟨W0, hW0⟩ : ∃ W, (w.alloc (.cells #[.int .i64 id] 3)).alloc (.cells #[.bool false] 4) = W := ⟨_, rfl⟩
  have b0 : Below w.heap.size w W0 := by rw [← hW0]; exact ((Below.refl _ w).alloc (Nat.le_refl _) _).alloc (by simp) _
  have s0 : Boxed W0 w.heap.size 3 (.int .i64 id) := by rw [← hW0]; exact (Boxed.new w 3 _).alloc _
  have s1 : Boxed W0 (w.heap.size + 1) 4 (.bool false) := by rw [← hW0]; have := Boxed.new (w.alloc (.cells #[.int .i64 id] 3)) 4 (.bool false); simpa using this
  have HW0 : Hid ((w.alloc (.cells #[.int .i64 id] 3)).alloc (.cells #[.bool false] 4) = W0) := hW0
  have HB0 : Hid (Below w.heap.size w W0) := b0
  have HS0 : Hid (Boxed W0 w.heap.size 3 (.int .i64 id)) := s0
  have HS1 : Hid (Boxed W0 (w.heap.size + 1) 4 (.bool false)) := s1
  clear b0 s0 s1 hW0
  refine (callsIn_wide (n := 6)).1 ?_
  have hro : Fence.wide.round = none := rfl
  refine callsIn_of_wp_marks Try.func26 rfl trivial ?_ hro
  simp only [Try.ntmps26, List.size_toArray, List.length_cons, List.length_nil, Nat.reduceAdd, Nat.reduceSub, Array.replicate_succ, Array.replicate_zero, List.push_toArray, List.append_toArray, List.nil_append, List.cons_append]
  gi_wp2
  rw [HW0.out]
  clear HW0
  refine wpIn_loop (fun a' wr => ∃ (k : Nat) (Ds : List Nat) (t6 u12 u13 u14 u15 u16 u17 u24 : Value), k ≤ 4 ∧ a' = { tmps := #[.slice a 4 c, .int .i64 id, undef, .pointer (some ⟨w.heap.size, 0, none⟩), .pointer (some ⟨w.heap.size + 1, 0, none⟩), undef, t6, undef, undef, .slice a 4 c, .int .i64 4, .int .i64 (k : Int), u12, u13, u14, u15, u16, u17, undef, undef, undef, undef, undef, undef, u24], defers := Ds.map mrk } ∧ (∀ i, i < k → ∀ j, j < (L i).n → ((L i).f j).id ≠ id) ∧ Boxed wr w.heap.size 3 (.int .i64 id) ∧ Boxed wr (w.heap.size + 1) 4 (.bool false) ∧ Below w.heap.size w wr ∧ (∀ D ∈ Ds, wr.heap[D]? = some (.deferred (some []))) ∧ Ds.Nodup ∧ ∀ D ∈ Ds, w.heap.size + 2 ≤ D) (fun a' _ => 4 - (intOf (a'.tmps.getD 11 undef)).toNat) ⟨0, [], _, _, _, _, _, _, _, _, Nat.zero_le _, rfl, fun i hi => absurd hi (Nat.not_lt_zero _), HS0.out, HS1.out, HB0.out, by simp, by simp, by simp⟩ ?_
  rintro a' wr ⟨k, Ds, t6, u12, u13, u14, u15, u16, u17, u24, hk, rfl, hno, hb0, hb1, hB, hD1, hD2, hD3⟩
  have HNO : Hid (∀ i, i < k → ∀ j, j < (L i).n → ((L i).f j).id ≠ id) := hno
  have HT0 : Hid (Boxed wr w.heap.size 3 (.int .i64 id)) := hb0
  have HT1 : Hid (Boxed wr (w.heap.size + 1) 4 (.bool false)) := hb1
  have HB : Hid (Below w.heap.size w wr) := hB
  have HD1 : Hid (∀ D ∈ Ds, wr.heap[D]? = some (.deferred (some []))) := hD1
  have HD2 : Hid Ds.Nodup := hD2
  have HD3 : Hid (∀ D ∈ Ds, w.heap.size + 2 ≤ D) := hD3
  clear hno hD1 hD2 hD3 HS0 HS1 HB0
  by_cases hlt : k < 4
  · obtain ⟨b1, off, rfl, hbl, hcs⟩ := LR.at HP.out hlt
    obtain ⟨p, cp, hat, hnc, hpr⟩ := hcs k hlt
    obtain ⟨c0, c1, c2, c3, c4, c5, c6, c7, c8⟩ := hat.below hB hbl
    have HPR : Hid (PR w.heap.size w p (L k).n (L k).f) := hpr
    have hnk : (L k).n ≤ 1048576 := Nat.le_trans (cntF_le L hlt) HCN.out
    have HNK : Hid ((L k).n ≤ 1048576) := hnk
    have hlti : (k : Int) < 4 := by omega
    have hk0 : (0 : Int) ≤ (k : Int) := by omega
    have hr1 := hb1.lt
    clear hcs hat hpr hnc hB hb0 hb1
    gi_wp2_with (refine ⟨trivial, ?_⟩; gi_at_call 47; refine (told_in 5 _ _ _ _).mono ?_; rintro e w' ⟨rfl, rfl⟩)
    obtain ⟨V0, hV0⟩ : ∃ V, (wr.alloc (.cells (lnCells p cp (L k)) 54)).alloc (.cells #[.slice p (L k).n cp] 50) = V := ⟨_, rfl⟩
    have hz0 : V0.heap.size = wr.heap.size + 1 + 1 := by rw [← hV0]; simp
    have hw0 : Below wr.heap.size wr V0 := by rw [← hV0]; exact ((Below.refl _ wr).alloc (Nat.le_refl _) _).alloc (by simp) _
    have bN : Boxed V0 (wr.heap.size + 1) 50 (.slice p (L k).n cp) := by rw [← hV0]; have := Boxed.new (wr.alloc (.cells (lnCells p cp (L k)) 54)) 50 (.slice p (L k).n cp); simpa using this
    have hs := (HB.out).size
    have hPV : PR w.heap.size V0 p (L k).n (L k).f := PR.below HPR.out ((HB.out).trans (hw0.mono hs))
    have v0 : Boxed V0 w.heap.size 3 (.int .i64 id) := boxed_below HT0.out hw0 (Boxed.lt HT0.out)
    have v1 : Boxed V0 (w.heap.size + 1) 4 (.bool false) := boxed_below HT1.out hw0 (Boxed.lt HT1.out)
    have hVd : ∀ D ∈ Ds, V0.heap[D]? = some (.deferred (some [])) := fun D hD => (hw0.block D (Array.getElem?_eq_some_iff.1 (HD1.out D hD)).1).trans (HD1.out D hD)
    have hVl : ∀ D ∈ Ds, D < V0.heap.size := fun D hD => (Array.getElem?_eq_some_iff.1 (hVd D hD)).1
    have hBV : Below w.heap.size w V0 := (HB.out).trans (hw0.mono hs)
    change Code.wpIn _ _ _ _ _ _ ((wr.alloc (.cells (lnCells p cp (L k)) 54)).alloc (.cells #[.slice p (L k).n cp] 50))
    rw [hV0]
    clear hV0 c0 c1 c2 c3 c4 c5 c6 c7 c8
    refine wpIn_rangeFunc_ownH hro (by omega) (gf := 58) (lb := #[.pointer (some ⟨wr.heap.size + 1, 0, none⟩)]) rfl trivial (enters_of Try.func58 (by kernel_rfl) rfl)
      (told_stops 5 (by omega) (wr.heap.size + 1) w.heap.size (L k).n cp p (L k).f HNK.out V0 (by omega) (by omega) bN.cell hPV) belowK_t (belowK_b (by omega)) (Below.refl _ _) (fun _ => rfl)
      (fun pre W => (∀ y ∈ pre, ((L k).f y.1).id ≠ id) ∧ Below V0.heap.size V0 W)
      (fun ex pre W => ((ex = .ret ∧ ∃ y ∈ pre, ((L k).f y.1).id = id) ∧ Boxed W (w.heap.size + 1) 4 (.bool true)) ∧ (KeptB V0 (w.heap.size + 1) W ∧ Below w.heap.size V0 W))
      (OwnFrom.and (ownFrom_pure _ _) (ownFrom_below (Nat.le_refl _) (Nat.le_refl _)))
      (fun c => OwnFrom.and (OwnFrom.and (ownFrom_pure _ _) (Own.from (boxed_own _ _ _) _)) (OwnFrom.and (KeptB.own (Nat.le_refl _)) (ownFrom_below (by omega) (by omega))))
      ⟨by simp, Below.refl _ _⟩
      (fun y a' W => ∃ Bx, w.heap.size + 1 < Bx ∧ Lies W Bx (pkCells ((L k).f y.1)) 35 ∧ a' = { tmps := #[.slice (some ⟨b1, off, none⟩) 4 c, .int .i64 id, undef, .pointer (some ⟨w.heap.size, 0, none⟩), .pointer (some ⟨w.heap.size + 1, 0, none⟩), undef, .pointer (some ⟨wr.heap.size, 0, none⟩), undef, .pointer (some ⟨Bx, 0, none⟩), .slice (some ⟨b1, off, none⟩) 4 c, .int .i64 4, .int .i64 (k : Int), .bool true, .pointer (some ⟨b1, off + k * 9, none⟩), .agg (lnCells p cp (L k)), .pointer (some ⟨wr.heap.size, 0, none⟩), .slice p (L k).n cp, .func (.func 58) #[] #[.pointer (some ⟨wr.heap.size + 1, 0, none⟩)], .int .i64 (y.1 : Int), ((L k).f y.1).val, undef, undef, undef, undef, u24], defers := [] })
      (fun x a' _ X Y row hs hg hr => by obtain ⟨Bx, e1, e2, e3⟩ := hs; exact ⟨Bx, e1, lies_own Bx _ _ () X Y row e2 hg (fun r e => (hr r e).2), e3⟩)
      ?assign ?body ?done ?stop
    case assign =>
      rintro lp pre y W K ⟨hp, hBW⟩ hK
      have hsW := hBW.size
      gi_wp2
      exact hK _ _ ((KeepsOthers.alloc _ _).from _) ((Below.refl _ W).alloc (by omega) _) ⟨hp, hBW.alloc hsW _⟩ ⟨W.heap.size, by omega, Lies.new W _ _, rfl⟩
    case body =>
      rintro lp pre y a' W hl ⟨r, hr⟩ ⟨hp, hBW⟩ ⟨Bx, hBx, bX, rfl⟩ hlt2
      have bR1 := boxed_below v1 hBW v1.lt
      have bM1 := boxed_below v0 hBW v0.lt
      have cR := bR1.cell
      have fR := bR1.frozen
      have cM := bM1.cell
      obtain ⟨q0, q1, q2, q3, q4, q5⟩ := bX.pk
      simp only [Nat.zero_add] at q1 q2 q3 q4 q5
      have hz1 := hz0
      by_cases hq : ((L k).f y.1).id = id
      · have hq' : (((L k).f y.1).id == id) = true := by simpa using hq
        gi_wp2
        exact ⟨(KeepsOthers.setCell _ _ _).from _, ⟨⟨rfl, y, List.mem_append.2 (.inr (by simp)), hq⟩, bR1.set _⟩, ⟨by have := hBW.size; simpa using this, fun j hj hne => (Below.heap_setCell W ⟨w.heap.size + 1, 0, none⟩ _ j hne).trans (hBW.block j hj)⟩, (hBW.mono (by omega)).setCell (p := ⟨w.heap.size + 1, 0, none⟩) (show w.heap.size ≤ w.heap.size + 1 by omega) _⟩
      · have hq' : (((L k).f y.1).id == id) = false := by simpa using hq
        gi_wp2
        exact ⟨KeepsFrom.refl _ _, Below.refl _ _, fun z hz => (List.mem_append.1 hz).elim (hp z) (fun e => by simp at e; subst e; exact hq), hBW⟩
    case done =>
      rintro D zs W hD hz ⟨hp, hBW⟩ hK
      have hsW := hBW.size
      have hz1 := hz0
      clear hz0
      gi_wp2
      refine ⟨⟨k + 1, D :: Ds, _, _, _, _, _, _, _, _, by omega, rfl, fun i hi j hj => ?_, boxed_below v0 hBW v0.lt, boxed_below v1 hBW v1.lt, hBV.trans (hBW.mono (by omega)), fun E hE => ?_, List.nodup_cons.2 ⟨fun hm => by have := hVl D hm; omega, HD2.out⟩, fun E hE => ?_⟩, ?_⟩
      · by_cases e : i = k
        · subst e
          have hm : j ∈ zs.map (·.1) := by rw [hz]; exact List.mem_range.2 hj
          obtain ⟨z, hz2, rfl⟩ := List.mem_map.1 hm
          exact hp z hz2
        · exact HNO.out i (by omega) j hj
      · rcases List.mem_cons.1 hE with rfl | h
        · exact hK
        · exact (hBW.block E (hVl E h)).trans (hVd E h)
      · rcases List.mem_cons.1 hE with rfl | h
        · omega
        · exact HD3.out E h
      · simp [intOf]; omega
    case stop =>
      rintro D ex pre W hD hpre ⟨⟨⟨rfl, y, hy, hyb⟩, bR1⟩, hKp, hKb⟩ hK
      have hE : hidB L id = true := by unfold hidB; rw [decide_eq_false fun h : noId L id => h k hlt y.1 y.2 hyb]; rfl
      have hsW := hKp.1
      gi_wp2
      refine leaves_marks (B := w.heap.size + 2) 6 (D :: Ds) W (fun E hE => ?_) (List.nodup_cons.2 ⟨fun hm => by have := hVl D hm; omega, HD2.out⟩) (fun E hE => ?_) (fun w' hw' => ?_)
      · rcases List.mem_cons.1 hE with rfl | h
        · exact hK
        · exact (hKp.2 E (hVl E h) (by have := HD3.out E h; omega)).trans (hVd E h)
      · rcases List.mem_cons.1 hE with rfl | h
        · omega
        · exact HD3.out E h
      · refine ⟨_, ret_b1 Try.results26 rfl (boxed_below bR1 hw' (by omega)), by rw [hE], hBV.trans (hKb.trans (hw'.mono (by omega)))⟩
  · obtain rfl : k = 4 := by omega
    have cR := hb1.cell
    have fR := hb1.frozen
    have hE : hidB L id = false := by unfold hidB; rw [decide_eq_true (p := noId L id) (HNO.out)]; rfl
    gi_wp2
    refine leaves_marks (B := w.heap.size + 2) 6 Ds _ (fun E hE => ?_) HD2.out HD3.out (fun w' hw' => ?_)
    · exact (Below.heap_setCell wr ⟨w.heap.size + 1, 0, none⟩ _ E (by have := HD3.out E hE; show E ≠ w.heap.size + 1; omega)).trans (HD1.out E hE)
    · exact ⟨_, ret_b1 Try.results26 rfl (boxed_below (hb1.set _) hw' (by omega)), by rw [hE], (hB.setCell (p := ⟨w.heap.size + 1, 0, none⟩) (show w.heap.size ≤ w.heap.size + 1 by omega) _).trans (hw'.mono (by omega))⟩

end Go.Proofs.Ytehlcekfccjahaa
