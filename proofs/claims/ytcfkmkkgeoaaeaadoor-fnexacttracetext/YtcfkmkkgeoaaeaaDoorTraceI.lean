/-
  traceOk OF THE PROGRAM: two ranges over told, a region that draws within the first one's body.
-/
import Derived.Test.YtcfkmkkgeoaaeaaDoorTraceB
import Derived.Test.YtcfkmkkgeoaaeaaDoorMarks
import Derived.Test.YtcfkmkkgeoaaeaaDoorRound
namespace Go.Proofs.YtcfkmkkgeoaaeaaDoor
open Go.RowKit Go.Shelf
set_option linter.unusedVariables false
attribute [local go_sem] Oper.semAt_some

set_option maxRecDepth 100000 in
set_option maxHeartbeats 8000000 in
theorem itraceOk_any (T : Tr) (A : Ta) (w : World) (hA : TrAt w T A) (hno : T.no ≤ 1048576) (hnd : T.nd ≤ 1048576) :
    Calls Tryd.prog 19 #[T.val A] w fun e w' => e = .returned (.bool (trB T)) ∧ Below w.heap.size w w' := by
  have HA : Hid (TrAt w T A) := hA
  have HNO : Hid (T.no ≤ 1048576) := hno
  have HND : Hid (T.nd ≤ 1048576) := hnd
  have ho' : (T.no : Int) ≤ 1048576 := by omega
  have hd' : (T.nd : Int) ≤ 1048576 := by omega
  clear hA hno hnd
  obtain ⟨W0, hW0⟩ : ∃ W, (w.alloc (.cells (trCells T A) 31)).alloc (.cells #[.bool false] 4) = W := ⟨_, rfl⟩
  have hz0 : W0.heap.size = w.heap.size + 1 + 1 := by rw [← hW0]; simp
  have b0 : Below w.heap.size w W0 := by rw [← hW0]; exact ((Below.refl _ w).alloc (Nat.le_refl _) _).alloc (by simp) _
  have s0 : Sits W0 w.heap.size (trCells T A) 31 := by rw [← hW0]; exact (Sits.new _ _ _).alloc _
  have s1 : Boxed W0 (w.heap.size + 1) 4 (.bool false) := by rw [← hW0]; have := Boxed.new (w.alloc (.cells (trCells T A) 31)) 4 (.bool false); simpa using this
  have HB0 : Hid (Below w.heap.size w W0) := b0
  have HS0 : Hid (Sits W0 w.heap.size (trCells T A) 31) := s0
  have HS1 : Hid (Boxed W0 (w.heap.size + 1) 4 (.bool false)) := s1
  have HW0 : Hid ((w.alloc (.cells (trCells T A) 31)).alloc (.cells #[.bool false] 4) = W0) := hW0
  obtain ⟨x0, x1, x2, x3, x4, x5⟩ := tr_cells s0
  have cR := s1.cell
  have fR := s1.frozen
  have HZ0 : Hid (W0.heap.size = w.heap.size + 1 + 1) := hz0
  clear b0 s0 s1 hW0 hz0
  refine (callsIn_wide (n := 6)).1 ?_
  have hro : Fence.wide.round = none := rfl
  refine callsIn_of_wp_marks Tryd.func19 rfl trivial ?_ hro
  simp only [Tryd.ntmps19, List.size_toArray, List.length_cons, List.length_nil, Nat.reduceAdd, Nat.reduceSub, Array.replicate_succ, Array.replicate_zero, List.push_toArray, List.append_toArray, List.nil_append, List.cons_append]
  by_cases h1 : (T.nt : Int) = (T.no : Int)
  case neg =>
    have h1' : ((T.nt : Int) == (T.no : Int)) = false := by simpa using h1
    clear x0 x1 x2 x3 x4 x5 cR fR
    have HN := tr_no (T := T) (fun h => h1 (by rw [h.1]))
    rw [HN.out]
    gi_wp2
    refine ⟨.bool false, by simp [results, Tryd.results19, go_sem], rfl, ?_⟩
    go_grown
  case pos =>
  by_cases h2 : 120 < (T.no : Int) ∨ 120 < (T.nd : Int)
  · have h2' : ¬ (if T.no < T.nd then (T.nd : Int) else (T.no : Int)) ≤ 120 := by split <;> omega
    obtain ⟨mx, hmx⟩ : ∃ mx, (if T.no < T.nd then (T.nd : Int) else (T.no : Int)) = mx := ⟨_, rfl⟩
    have hm2 : 120 < mx := by omega
    clear h2' x0 x1 x2 x3 x4 x5 cR fR
    have HN := tr_no (T := T) (fun h => by have a := h.2.1; have b := h.2.2.1; omega)
    rw [HN.out]
    gi_wp2
    refine ⟨.bool false, by simp [results, Tryd.results19, go_sem], rfl, ?_⟩
    go_grown
  obtain ⟨mx, hmx⟩ : ∃ mx, (if T.no < T.nd then (T.nd : Int) else (T.no : Int)) = mx := ⟨_, rfl⟩
  have hm2 : ¬ 120 < mx := by rw [← hmx]; split <;> omega
  have HH : Hid (T.nt = T.no ∧ T.no ≤ 120 ∧ T.nd ≤ 120) := ⟨by omega, by omega, by omega⟩
  clear h2
  gi_wp2_with (refine ⟨trivial, ?_⟩; gi_at_call 21; refine (told_in 5 _ _ _ _).mono ?_; rintro e w' ⟨rfl, rfl⟩)
  change Code.wpIn _ _ _ _ _ _ (((w.alloc (.cells (trCells T A) 31)).alloc (.cells #[.bool false] 4)).alloc (.cells #[.slice A.o T.no A.co] 29))
  rw [HW0.out]
  obtain ⟨V0, hV0⟩ : ∃ V, W0.alloc (.cells #[.slice A.o T.no A.co] 29) = V := ⟨_, rfl⟩
  have hz0 := HZ0.out
  have hzV : V0.heap.size = w.heap.size + 1 + 1 + 1 := by rw [← hV0]; simp [hz0]
  have bV : Below w.heap.size w V0 := by rw [← hV0]; exact (HB0.out).alloc (HB0.out).size _
  have vT : Sits V0 w.heap.size (trCells T A) 31 := by rw [← hV0]; exact Sits.alloc HS0.out _
  have vR : Boxed V0 (w.heap.size + 1) 4 (.bool false) := by rw [← hV0]; exact Boxed.alloc HS1.out _
  have vN : Boxed V0 (w.heap.size + 1 + 1) 29 (.slice A.o T.no A.co) := by rw [← hV0, ← hz0]; exact Boxed.new W0 _ _
  rw [hV0]
  clear hV0 HW0 HZ0 HS0 HS1 HB0 x0 x1 x2 x3 x4 x5 cR fR hz0 h1
  refine wpIn_rangeFunc_ownH hro (by omega) (gf := 32) (lb := #[.pointer (some ⟨w.heap.size + 1 + 1, 0, none⟩)]) rfl trivial (enters_of Tryd.func32 (by kernel_rfl) rfl)
    (told_stops 5 (by omega) (w.heap.size + 1 + 1) w.heap.size T.no A.co A.o T.o HNO.out V0 (by omega) (by omega) vN.cell (PR.below (HA.out).o bV)) belowK_t (belowK_b (by omega)) (Below.refl _ _) (fun _ => rfl)
    (fun pre W => (∀ x ∈ pre, atT T x.1) ∧ Below V0.heap.size V0 W)
    (fun ex pre W => ((ex = .ret ∧ ∃ y ∈ pre, ¬ atT T y.1) ∧ Boxed W (w.heap.size + 1) 4 (.bool false)) ∧ Below w.heap.size w W)
    (OwnFrom.and (ownFrom_pure _ _) (ownFrom_below (Nat.le_refl _) (Nat.le_refl _)))
    (fun c => OwnFrom.and (OwnFrom.and (ownFrom_pure _ _) (Own.from (boxed_own _ _ _) _)) (ownFrom_below (Nat.le_refl _) (by omega)))
    ⟨by simp, Below.refl _ _⟩
    (fun x a' W => ∃ Bx, V0.heap.size ≤ Bx ∧ Lies W Bx (pkCells (T.o x.1)) 43 ∧ a' = { tmps := #[T.val A, .pointer (some ⟨w.heap.size, 0, none⟩), .pointer (some ⟨w.heap.size + 1, 0, none⟩), .int .i64 (x.1 : Int), .pointer (some ⟨Bx, 0, none⟩), undef, undef, .pointer (some ⟨w.heap.size, 4, none⟩), .slice A.t T.nt A.ct, .int .i64 (T.no : Int), .pointer (some ⟨w.heap.size, 1, none⟩), .slice A.o T.no A.co, .int .i64 (T.no : Int), .bool false, .bool false, .pointer (some ⟨w.heap.size, 1, none⟩), .slice A.o T.no A.co, .int .i64 (T.no : Int), .pointer (some ⟨w.heap.size, 2, none⟩), .slice A.d T.nd A.cd, .int .i64 (T.nd : Int), .int .i64 mx, .bool false, .bool false, .pointer (some ⟨w.heap.size, 1, none⟩), .slice A.o T.no A.co, .func (.func 32) #[] #[.pointer (some ⟨w.heap.size + 1 + 1, 0, none⟩)], .int .i64 (x.1 : Int), (T.o x.1).val, undef, undef, undef, undef, undef, undef, undef, undef, undef, undef, undef, undef, undef, undef, undef, undef, undef, undef, undef, undef, undef, undef], defers := [] })
    (fun x a' _ X Y row hs hg hr => by obtain ⟨Bx, e1, e2, e3⟩ := hs; exact ⟨Bx, e1, lies_own Bx _ _ () X Y row e2 hg (fun r e => (hr r e).2), e3⟩)
    ?assign ?body ?done ?stop
  case assign =>
    rintro l pre x W K ⟨hp, hBW⟩ hK
    have hsW := hBW.size
    gi_wp2
    exact hK _ _ ((KeepsOthers.alloc _ _).from _) ((Below.refl _ W).alloc (by omega) _) ⟨hp, hBW.alloc hsW _⟩ ⟨W.heap.size, hsW, Lies.new W _ _, rfl⟩
  case body =>
    rintro l pre x a' W hl ⟨r, hr⟩ ⟨hp, hBW⟩ ⟨Bx, hBx, bX, rfl⟩ hlt
    obtain ⟨k, hk⟩ := x
    dsimp only at bX ⊢
    have hk2 : k < T.nt := by rw [(HH.out).1]; exact hk
    have hkb : (k : Int) ≤ 120 := by have := (HH.out).2.1; omega
    have bR1 := boxed_below vR hBW vR.lt
    have bT1 := Sits.below vT hBW vT.lt
    obtain ⟨b2, o2, hbe2, hbl2, hcs2⟩ := Row.at (HA.out).t hk2
    have ct : W.cell? ⟨b2, o2 + k, none⟩ = some (.int .i64 (T.t k)) := (hBW.cell (p := ⟨b2, o2 + k, none⟩) (by show b2 < V0.heap.size; omega)).trans ((bV.cell (p := ⟨b2, o2 + k, none⟩) hbl2).trans (hcs2 k hk2))
    obtain ⟨x0, x1, x2, x3, x4, x5⟩ := tr_cells bT1
    rw [hbe2] at x4
    obtain ⟨q0, q1, q2, q3, q4, q5⟩ := bX.pk
    simp only [Nat.zero_add] at q1 q2 q3 q4 q5
    have hsW := hBW.size
    have hlX := bX.lt
    have hlT : w.heap.size < W.heap.size := by omega
    have hl2 : b2 < W.heap.size := by omega
    have HK : Hid (Below V0.heap.size V0 W) := hBW
    have HP : Hid (∀ x ∈ pre, atT T x.1) := hp
    have HX : Hid (Lies W Bx (pkCells (T.o k)) 43) := bX
    have HR1 : Hid (Boxed W (w.heap.size + 1) 4 (.bool false)) := bR1
    clear hcs2 hbe2 hp bX bT1 bR1 hBW hlt hr
    cases hg : (T.o k).good
    case false =>
      have HBAD : Hid (¬ atT T k) := fun h => by have := h.1; rw [hg] at this; cases this
      have HG : Hid ((T.o k).good = false) := hg
      have HW : Hid (inB (T.t k) (T.o k).tm 1000000000000 = inB (T.t k) (T.o k).tm 1000000000000) := rfl
      clear hg
      gi_wp2
      refine wpIn_region_quiet_round (C := fun w' => Below W.heap.size W w') (by kernel_rfl) (by rintro ⟨_, _, hh⟩; exact hh) (by kernel_rfl) (by kernel_rfl) ((Below.refl _ _).drew) ?_
      simp only []
      repeat (first
        | go_big_quiet_skip
        | (go_big_quiet_want
           unfold Oper.quiet
           apply Exists.intro
           refine ⟨fun w' hw' => ?_, ?_⟩
           (have z4 := (hw'.cell (p := ⟨w.heap.size, 4, none⟩) hlT).trans x4
            have y0 := (hw'.cell (p := ⟨Bx, 0, none⟩) hlX).trans q0
            have y1 := (hw'.cell (p := ⟨Bx, 1, none⟩) hlX).trans q1
            have y2 := (hw'.cell (p := ⟨Bx, 2, none⟩) hlX).trans q2
            have y3 := (hw'.cell (p := ⟨Bx, 3, none⟩) hlX).trans q3
            have y4 := (hw'.cell (p := ⟨Bx, 4, none⟩) hlX).trans q4
            have y5 := (hw'.cell (p := ⟨Bx, 5, none⟩) hlX).trans q5
            have yt := (hw'.cell (p := ⟨b2, o2 + k, none⟩) hl2).trans ct
            go_simp
            first
              | (go_at_call 29; refine (ipktOk_any (T.o k) _).mono ?_; rintro e w1 ⟨rfl, hk1⟩; exact ⟨by rw [HG.out], hw'.trans (hk1.1.mono hw'.size)⟩)
              | (go_at_call 30; refine (within_any _ _ _ _).mono ?_; rintro e w1 ⟨rfl, rfl⟩; exact ⟨by rw [HW.out], hw'⟩)
              | exact rfl)
           simp only [Act.put, List.setIfInBounds_toArray, List.set_cons_zero, List.set_cons_succ]
           go_big_quiet_on))
      refine wpQuiet_nil ?_
      intro w2 hw2
      have cR := (boxed_below HR1.out hw2 (Boxed.lt HR1.out)).cell
      have fR := (boxed_below HR1.out hw2 (Boxed.lt HR1.out)).frozen
      gi_wp2
      exact ⟨(keepsFrom_below hw2).trans ((KeepsOthers.setCell _ _ _).from _), ⟨⟨rfl, ⟨k, hk⟩, List.mem_append.2 (.inr (by simp)), HBAD.out⟩, (boxed_below HR1.out hw2 (Boxed.lt HR1.out)).set _⟩, ((bV.trans ((HK.out).mono bV.size)).trans (hw2.mono (by omega))).setCell (p := ⟨w.heap.size + 1, 0, none⟩) (show w.heap.size ≤ w.heap.size + 1 by omega) _⟩
    case true =>
    have HG : Hid ((T.o k).good = true) := hg
    cases hi : inB (T.t k) (T.o k).tm 1000000000000
    case false =>
      have HBAD : Hid (¬ atT T k) := fun h => by have : inB (T.t k) (T.o k).tm 1000000000000 = true := decide_eq_true h.2; rw [hi] at this; cases this
      have HW : Hid (inB (T.t k) (T.o k).tm 1000000000000 = false) := hi
      clear hg hi
      gi_wp2
      refine wpIn_region_quiet_round (C := fun w' => Below W.heap.size W w') (by kernel_rfl) (by rintro ⟨_, _, hh⟩; exact hh) (by kernel_rfl) (by kernel_rfl) ((Below.refl _ _).drew) ?_
      simp only []
      repeat (first
        | go_big_quiet_skip
        | (go_big_quiet_want
           unfold Oper.quiet
           apply Exists.intro
           refine ⟨fun w' hw' => ?_, ?_⟩
           (have z4 := (hw'.cell (p := ⟨w.heap.size, 4, none⟩) hlT).trans x4
            have y0 := (hw'.cell (p := ⟨Bx, 0, none⟩) hlX).trans q0
            have y1 := (hw'.cell (p := ⟨Bx, 1, none⟩) hlX).trans q1
            have y2 := (hw'.cell (p := ⟨Bx, 2, none⟩) hlX).trans q2
            have y3 := (hw'.cell (p := ⟨Bx, 3, none⟩) hlX).trans q3
            have y4 := (hw'.cell (p := ⟨Bx, 4, none⟩) hlX).trans q4
            have y5 := (hw'.cell (p := ⟨Bx, 5, none⟩) hlX).trans q5
            have yt := (hw'.cell (p := ⟨b2, o2 + k, none⟩) hl2).trans ct
            go_simp
            first
              | (go_at_call 29; refine (ipktOk_any (T.o k) _).mono ?_; rintro e w1 ⟨rfl, hk1⟩; exact ⟨by rw [HG.out], hw'.trans (hk1.1.mono hw'.size)⟩)
              | (go_at_call 30; refine (within_any _ _ _ _).mono ?_; rintro e w1 ⟨rfl, rfl⟩; exact ⟨by rw [HW.out], hw'⟩)
              | exact rfl)
           simp only [Act.put, List.setIfInBounds_toArray, List.set_cons_zero, List.set_cons_succ]
           go_big_quiet_on))
      refine wpQuiet_nil ?_
      intro w2 hw2
      have cR := (boxed_below HR1.out hw2 (Boxed.lt HR1.out)).cell
      have fR := (boxed_below HR1.out hw2 (Boxed.lt HR1.out)).frozen
      gi_wp2
      exact ⟨(keepsFrom_below hw2).trans ((KeepsOthers.setCell _ _ _).from _), ⟨⟨rfl, ⟨k, hk⟩, List.mem_append.2 (.inr (by simp)), HBAD.out⟩, (boxed_below HR1.out hw2 (Boxed.lt HR1.out)).set _⟩, ((bV.trans ((HK.out).mono bV.size)).trans (hw2.mono (by omega))).setCell (p := ⟨w.heap.size + 1, 0, none⟩) (show w.heap.size ≤ w.heap.size + 1 by omega) _⟩
    case true =>
    have HAT : Hid (atT T k) := ⟨hg, of_decide_eq_true hi⟩
    have HW : Hid (inB (T.t k) (T.o k).tm 1000000000000 = true) := hi
    clear hg hi
    gi_wp2
    refine wpIn_region_quiet_round (C := fun w' => Below W.heap.size W w') (by kernel_rfl) (by rintro ⟨_, _, hh⟩; exact hh) (by kernel_rfl) (by kernel_rfl) ((Below.refl _ _).drew) ?_
    simp only []
    repeat (first
      | go_big_quiet_skip
      | (go_big_quiet_want
         unfold Oper.quiet
         apply Exists.intro
         refine ⟨fun w' hw' => ?_, ?_⟩
         (have z4 := (hw'.cell (p := ⟨w.heap.size, 4, none⟩) hlT).trans x4
          have y0 := (hw'.cell (p := ⟨Bx, 0, none⟩) hlX).trans q0
          have y1 := (hw'.cell (p := ⟨Bx, 1, none⟩) hlX).trans q1
          have y2 := (hw'.cell (p := ⟨Bx, 2, none⟩) hlX).trans q2
          have y3 := (hw'.cell (p := ⟨Bx, 3, none⟩) hlX).trans q3
          have y4 := (hw'.cell (p := ⟨Bx, 4, none⟩) hlX).trans q4
          have y5 := (hw'.cell (p := ⟨Bx, 5, none⟩) hlX).trans q5
          have yt := (hw'.cell (p := ⟨b2, o2 + k, none⟩) hl2).trans ct
          go_simp
          first
            | (go_at_call 29; refine (ipktOk_any (T.o k) _).mono ?_; rintro e w1 ⟨rfl, hk1⟩; exact ⟨by rw [HG.out], hw'.trans (hk1.1.mono hw'.size)⟩)
            | (go_at_call 30; refine (within_any _ _ _ _).mono ?_; rintro e w1 ⟨rfl, rfl⟩; exact ⟨by rw [HW.out], hw'⟩)
            | exact rfl)
         simp only [Act.put, List.setIfInBounds_toArray, List.set_cons_zero, List.set_cons_succ]
         go_big_quiet_on))
    refine wpQuiet_nil ?_
    intro w2 hw2
    gi_wp2
    exact ⟨keepsFrom_below hw2, hw2.mono (by omega), fun z hz => (List.mem_append.1 hz).elim (HP.out z) (fun e => by simp at e; subst e; exact HAT.out), (HK.out).trans (hw2.mono hsW)⟩
  case done =>
    rintro D zs W hD hz ⟨hp, hBW⟩ hK
    have HALL : Hid (∀ j, j < T.no → atT T j) := fun j hj => by
      have hm : j ∈ zs.map (·.1) := by rw [hz]; exact List.mem_range.2 hj
      obtain ⟨z, hz2, rfl⟩ := List.mem_map.1 hm
      exact hp z hz2
    have hsW := hBW.size
    have bT1 := Sits.below vT hBW vT.lt
    have bR1 := boxed_below vR hBW vR.lt
    obtain ⟨x0, x1, x2, x3, x4, x5⟩ := tr_cells bT1
    have hlD := (Array.getElem?_eq_some_iff.1 hK).1
    clear hp hz
    gi_wp2_with (refine ⟨trivial, ?_⟩; gi_at_call 21; refine (told_in 5 _ _ _ _).mono ?_; rintro e w' ⟨rfl, rfl⟩)
    obtain ⟨V1, hV1⟩ : ∃ V, W.alloc (.cells #[.slice A.d T.nd A.cd] 29) = V := ⟨_, rfl⟩
    have hzV1 : V1.heap.size = W.heap.size + 1 := by rw [← hV1]; simp
    have b1 : Below W.heap.size W V1 := by rw [← hV1]; exact (Below.refl _ W).alloc (Nat.le_refl _) _
    have bV1 : Below w.heap.size w V1 := (bV.trans (hBW.mono bV.size)).trans (b1.mono (by omega))
    have vR1 : Boxed V1 (w.heap.size + 1) 4 (.bool false) := boxed_below bR1 b1 bR1.lt
    have vN1 : Boxed V1 W.heap.size 29 (.slice A.d T.nd A.cd) := by rw [← hV1]; exact Boxed.new W _ _
    have hK1 : V1.heap[D]? = some (.deferred (some [])) := (b1.block D hlD).trans hK
    rw [hV1]
    clear hV1 x0 x1 x2 x3 x4 x5 bT1 bR1
    refine wpIn_rangeFunc_ownH hro (by omega) (gf := 32) (lb := #[.pointer (some ⟨W.heap.size, 0, none⟩)]) rfl trivial (enters_of Tryd.func32 (by kernel_rfl) rfl)
      (told_stops 5 (by omega) W.heap.size w.heap.size T.nd A.cd A.d T.d HND.out V1 (by omega) (by omega) vN1.cell (PR.below (HA.out).d bV1)) belowK_t (belowK_b (by omega)) (Below.refl _ _) (fun _ => rfl)
      (fun pre X => (∀ x ∈ pre, (T.d x.1).good = true) ∧ Below V1.heap.size V1 X)
      (fun ex pre X => ((ex = .ret ∧ ∃ y ∈ pre, ¬ (T.d y.1).good = true) ∧ Boxed X (w.heap.size + 1) 4 (.bool false)) ∧ (KeptB V1 (w.heap.size + 1) X ∧ Below w.heap.size w X))
      (OwnFrom.and (ownFrom_pure _ _) (ownFrom_below (Nat.le_refl _) (Nat.le_refl _)))
      (fun c => OwnFrom.and (OwnFrom.and (ownFrom_pure _ _) (Own.from (boxed_own _ _ _) _)) (OwnFrom.and (KeptB.own (Nat.le_refl _)) (ownFrom_below (Nat.le_refl _) (by omega))))
      ⟨by simp, Below.refl _ _⟩
      (fun x a' X => ∃ Bx, V1.heap.size ≤ Bx ∧ Lies X Bx (pkCells (T.d x.1)) 43 ∧ a' = { tmps := #[T.val A, .pointer (some ⟨w.heap.size, 0, none⟩), .pointer (some ⟨w.heap.size + 1, 0, none⟩), undef, undef, undef, .pointer (some ⟨Bx, 0, none⟩), .pointer (some ⟨w.heap.size, 4, none⟩), .slice A.t T.nt A.ct, .int .i64 (T.no : Int), .pointer (some ⟨w.heap.size, 1, none⟩), .slice A.o T.no A.co, .int .i64 (T.no : Int), .bool false, .bool false, .pointer (some ⟨w.heap.size, 1, none⟩), .slice A.o T.no A.co, .int .i64 (T.no : Int), .pointer (some ⟨w.heap.size, 2, none⟩), .slice A.d T.nd A.cd, .int .i64 (T.nd : Int), .int .i64 mx, .bool false, .bool false, .pointer (some ⟨w.heap.size, 1, none⟩), .slice A.o T.no A.co, .func (.func 32) #[] #[.pointer (some ⟨w.heap.size + 1 + 1, 0, none⟩)], undef, undef, undef, undef, undef, undef, undef, undef, undef, undef, undef, undef, undef, undef, undef, undef, .pointer (some ⟨w.heap.size, 2, none⟩), .slice A.d T.nd A.cd, .func (.func 32) #[] #[.pointer (some ⟨W.heap.size, 0, none⟩)], .int .i64 (x.1 : Int), (T.d x.1).val, undef, undef, undef], defers := [] })
      (fun x a' _ X Y row hs hg hr => by obtain ⟨Bx, e1, e2, e3⟩ := hs; exact ⟨Bx, e1, lies_own Bx _ _ () X Y row e2 hg (fun r e => (hr r e).2), e3⟩)
      ?assign2 ?body2 ?done2 ?stop2
    case assign2 =>
      rintro l pre x X K ⟨hp, hBX⟩ hKK
      have hsX := hBX.size
      gi_wp2
      exact hKK _ _ ((KeepsOthers.alloc _ _).from _) ((Below.refl _ X).alloc (by omega) _) ⟨hp, hBX.alloc hsX _⟩ ⟨X.heap.size, hsX, Lies.new X _ _, rfl⟩
    case body2 =>
      rintro l pre x a' X hl ⟨r, hr⟩ ⟨hp, hBX⟩ ⟨Bx, hBx, bX, rfl⟩ hlt
      obtain ⟨k, hk⟩ := x
      dsimp only at bX ⊢
      have bR2 := boxed_below vR1 hBX vR1.lt
      have hsX := hBX.size
      obtain ⟨q0, q1, q2, q3, q4, q5⟩ := bX.pk
      simp only [Nat.zero_add] at q1 q2 q3 q4 q5
      cases hg : (T.d k).good
      case false =>
        have HG : Hid ((T.d k).good = false) := hg
        clear hg hr hlt
        gi_wp2_with (refine ⟨trivial, ?_⟩; gi_at_call 29; refine (CallsIn.inRound l (callsIn_wide.2 (ipktOk_any (T.d k) _))).mono ?_; rintro e w1 ⟨rfl, hk1⟩; rw [HG.out]; have cR' := (boxed_below bR2 hk1.1 bR2.lt).cell; have fR' := (boxed_below bR2 hk1.1 bR2.lt).frozen)
        exact ⟨(keepsFrom_below hk1.1).trans ((KeepsOthers.setCell _ _ _).from _), ⟨⟨rfl, ⟨k, hk⟩, List.mem_append.2 (.inr (by simp)), by show ¬ (T.d k).good = true; rw [HG.out]; simp⟩, (boxed_below bR2 hk1.1 bR2.lt).set _⟩, ⟨by have := hk1.1.size; simpa using Nat.le_trans hsX this, fun j hj hne => (Below.heap_setCell w1 ⟨w.heap.size + 1, 0, none⟩ _ j hne).trans ((hk1.1.block j (by omega)).trans (hBX.block j hj))⟩, ((bV1.trans (hBX.mono bV1.size)).trans (hk1.1.mono (by omega))).setCell (p := ⟨w.heap.size + 1, 0, none⟩) (show w.heap.size ≤ w.heap.size + 1 by omega) _⟩
      case true =>
        have HG : Hid ((T.d k).good = true) := hg
        clear hg hr hlt
        gi_wp2_with (refine ⟨trivial, ?_⟩; gi_at_call 29; refine (CallsIn.inRound l (callsIn_wide.2 (ipktOk_any (T.d k) _))).mono ?_; rintro e w1 ⟨rfl, hk1⟩; rw [HG.out])
        exact ⟨keepsFrom_below hk1.1, hk1.1.mono (by omega), fun z hz => (List.mem_append.1 hz).elim (hp z) (fun e => by simp at e; subst e; exact HG.out), hBX.trans (hk1.1.mono hsX)⟩
    case done2 =>
      rintro D2 zs X hD2 hz ⟨hp, hBX⟩ hK2
      have HY : Hid (trB T = true) := by
        show _ = _
        refine decide_eq_true (p := trP T) ⟨(HH.out).1, (HH.out).2.1, (HH.out).2.2, HALL.out, fun j hj => ?_⟩
        have hm : j ∈ zs.map (·.1) := by rw [hz]; exact List.mem_range.2 hj
        obtain ⟨z, hz2, rfl⟩ := List.mem_map.1 hm
        exact hp z hz2
      have bR2 := boxed_below vR1 hBX vR1.lt
      have cR := bR2.cell
      have fR := bR2.frozen
      have hsX := hBX.size
      have hne : ¬ D2 = D := by omega
      clear hp hz
      gi_wp2
      refine leaves_marks (B := w.heap.size + 1 + 1) 6 [D2, D] _ (fun E hE => ?_) (by simp [hne]) (fun E hE => ?_) (fun w' hw' => ?_)
      · have : E = D2 ∨ E = D := by simpa using hE
        rcases this with rfl | rfl
        · exact (Below.heap_setCell X ⟨w.heap.size + 1, 0, none⟩ _ E (by show E ≠ w.heap.size + 1; omega)).trans hK2
        · exact (Below.heap_setCell X ⟨w.heap.size + 1, 0, none⟩ _ E (by show E ≠ w.heap.size + 1; omega)).trans ((hBX.block E (by omega)).trans hK1)
      · have : E = D2 ∨ E = D := by simpa using hE
        omega
      · exact ⟨_, ret_b1 Tryd.results19 rfl (boxed_below (bR2.set _) hw' (by omega)), by rw [HY.out], ((bV1.trans (hBX.mono bV1.size)).setCell (p := ⟨w.heap.size + 1, 0, none⟩) (show w.heap.size ≤ w.heap.size + 1 by omega) _).trans (hw'.mono (by omega))⟩
    case stop2 =>
      rintro D2 ex pre X hD2 hpre ⟨⟨⟨rfl, y, hy, hyb⟩, bR2⟩, hKp, hKb⟩ hK2
      have HN := tr_no (T := T) (fun h => hyb (h.2.2.2.2 y.1 y.2))
      have hsX := hKp.1
      have hne : ¬ D2 = D := by omega
      gi_wp2
      refine leaves_marks (B := w.heap.size + 1 + 1) 6 [D2, D] X (fun E hE => ?_) (by simp [hne]) (fun E hE => ?_) (fun w' hw' => ?_)
      · have : E = D2 ∨ E = D := by simpa using hE
        rcases this with rfl | rfl
        · exact hK2
        · exact (hKp.2 E (by omega) (by omega)).trans hK1
      · have : E = D2 ∨ E = D := by simpa using hE
        omega
      · exact ⟨_, ret_b1 Tryd.results19 rfl (boxed_below bR2 hw' (by omega)), by rw [HN.out], hKb.trans (hw'.mono (by omega))⟩
  case stop =>
    rintro D ex pre W hD hpre ⟨⟨⟨rfl, y, hy, hyb⟩, bR1⟩, hKb⟩ hK
    have HN := tr_no (T := T) (fun h => hyb (h.2.2.2.1 y.1 y.2))
    gi_wp2
    refine leaves_marks (B := w.heap.size + 1 + 1) 6 [D] W (fun E hE => ?_) (by simp) (fun E hE => ?_) (fun w' hw' => ?_)
    · have : E = D := by simpa using hE
      rw [this]; exact hK
    · have : E = D := by simpa using hE
      rw [this]; omega
    · exact ⟨_, ret_b1 Tryd.results19 rfl (boxed_below bR1 hw' (by omega)), by rw [HN.out], hKb.trans (hw'.mono (by omega))⟩

end Go.Proofs.YtcfkmkkgeoaaeaaDoor
