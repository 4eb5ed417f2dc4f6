/-
  HOW LONG THOSE WAITED THAT WENT OUT: Delays OF THE PROGRAM.
-/
import Derived.Test.YtcmjnanejeekiaaDelaysB
namespace Go.Proofs.Ytcmjnanejeekiaa
open Go.RowKit Go.Shelf
set_option linter.unusedVariables false
attribute [local go_sem] Oper.semAt_some

set_option maxRecDepth 100000 in
set_option maxHeartbeats 4000000 in
theorem idelays_any (T : Tr) (A : Ta) (w : World) (hA : TrAt w T A) (hno : T.no ≤ 1048576) (hnd : T.nd ≤ 1048576) :
    Calls Try.prog 15 #[T.val A] w fun e w' => ∃ (x : Option Addr) (cap : Nat), e = .returned (.slice x (dlR T).length cap) ∧ OI w.heap.size w' x cap (dlR T) ∧ Below w.heap.size w w' := by
  have HA : Hid (∀ V, Below w.heap.size w V → TrAt V T A) := fun V h => hA.below h
  have HNO : Hid (T.no ≤ 1048576) := hno
  have HND : Hid (T.nd ≤ 1048576) := hnd
  clear hA hno hnd
  have HB0 : Hid (Below w.heap.size w (w.alloc (.cells (trCells T A) 36))) := (Below.refl _ w).alloc (Nat.le_refl _) _
  have HS0 : Hid (Sits (w.alloc (.cells (trCells T A) 36)) w.heap.size (trCells T A) 36) := Sits.new w _ _
  refine (callsIn_wide (n := 6)).1 ?_
  have hro : Fence.wide.round = none := rfl
  refine callsIn_of_wp_marks Try.func15 rfl trivial ?_ hro
  simp only [Try.ntmps15, List.size_toArray, List.length_cons, List.length_nil, Nat.reduceAdd, Nat.reduceSub, Array.replicate_succ, Array.replicate_zero, List.push_toArray, List.append_toArray, List.nil_append, List.cons_append]
  cases hb : trB T
  case false =>
    have hE : dlR T = [] := by unfold dlR; rw [hb]; rfl
    rw [hE]
    have HG : Hid (trB T = false) := hb
    clear hb hE
    gi_wp2_with (refine ⟨trivial, ?_⟩; gi_at_call 28; refine (callsIn_wide.2 (itraceOk_any T A _ ((HA.out) _ HB0.out) HNO.out HND.out)).mono ?_; rintro e w1 ⟨rfl, b1⟩; rw [HG.out])
    exact ⟨_, results_tmp rfl _ _ _, none, 0, rfl, World.ownsRow_nil _ _ _ _, (HB0.out).trans (b1.mono (HB0.out).size)⟩
  case true =>
    have hE : dlR T = dlF T T.no := by unfold dlR; rw [hb]; rfl
    rw [hE]
    have HG : Hid (trB T = true) := hb
    have htp : trP T := of_decide_eq_true hb
    have HTP : Hid (trP T) := htp
    clear hb hE htp
    obtain ⟨i0, hi, hz0, hz1, hz2⟩ := info_parts infoInt
    gi_wp2_with (refine ⟨trivial, ?_⟩; first | (gi_at_call 28; refine (callsIn_wide.2 (itraceOk_any T A _ ((HA.out) _ HB0.out) HNO.out HND.out)).mono ?_; rintro e w1 ⟨rfl, b1⟩; rw [HG.out]; have t1 := Sits.below HS0.out b1 (Sits.lt HS0.out); obtain ⟨x0, x1, x2, x3, x4, x5⟩ := tr_cells t1; have hl1 := t1.lt) | (gi_at_call 29; refine (told_in 5 _ _ _ _).mono ?_; rintro e w' ⟨rfl, rfl⟩))
    have B1 : Below w.heap.size w w1 := (HB0.out).trans (b1.mono (HB0.out).size)
    obtain ⟨V0, hV0⟩ : ∃ V, (w1.alloc (.cells #[.slice none 0 0] 29)).alloc (.cells #[.slice A.o T.no A.co] 34) = V := ⟨_, rfl⟩
    have hzV : V0.heap.size = w1.heap.size + 1 + 1 := by rw [← hV0]; simp
    have bV1 : Below w1.heap.size w1 V0 := by rw [← hV0]; exact ((Below.refl _ w1).alloc (Nat.le_refl _) _).alloc (by simp) _
    have vS : Boxed V0 w1.heap.size 29 (.slice none 0 0) := by rw [← hV0]; exact (Boxed.new w1 29 _).alloc _
    have vN : Boxed V0 (w1.heap.size + 1) 34 (.slice A.o T.no A.co) := by rw [← hV0]; have := Boxed.new (w1.alloc (.cells #[.slice none 0 0] 29)) 34 (.slice A.o T.no A.co); simpa using this
    have hP1 : PR w1.heap.size V0 A.o T.no T.o := (((HA.out) _ B1).o).below bV1
    have hR1 : Row .i64 w1 A.t T.nt T.t := ((HA.out) _ B1).t
    have tV : Sits V0 w.heap.size (trCells T A) 36 := t1.below bV1 hl1
    change Code.wpIn _ _ _ _ _ _ ((w1.alloc (.cells #[.slice none 0 0] 29)).alloc (.cells #[.slice A.o T.no A.co] 34))
    rw [hV0]
    clear hV0 x0 x1 x2 x3 x4 x5 HS0 HB0 t1 b1
    refine wpIn_rangeFunc_ownH hro (by omega) (gf := 34) (lb := #[.pointer (some ⟨w1.heap.size + 1, 0, none⟩)]) rfl trivial (enters_of Try.func34 (by kernel_rfl) rfl)
      (told_stops 5 (by omega) (w1.heap.size + 1) w1.heap.size T.no A.co A.o T.o HNO.out V0 (by omega) (by omega) vN.cell hP1) belowK_t (belowK_b (by omega)) (Below.refl _ _) (fun _ => rfl)
      (fun pre W => (∃ v, Boxed W w1.heap.size 29 v ∧ W.ownsRow w1.heap.size 3 1 v (dlL T pre).length ((dlL T pre).map (Value.int .i64)) ∧ True) ∧ Below w1.heap.size V0 W)
      (fun _ _ _ => False)
      (OwnFrom.and (Own.from (holdsRow_own w1.heap.size w1.heap.size 29 3 1 (fun pre => (dlL T pre).length) (fun pre => (dlL T pre).map (Value.int .i64)) (fun _ _ => True)) _) (ownFrom_below (by omega) (by omega)))
      (fun c => ownFrom_pure _ _)
      ⟨⟨_, vS, World.ownsRow_nil _ _ _ _, trivial⟩, Below.refl _ _⟩
      (fun x a' W => ∃ Bx, w1.heap.size < Bx ∧ Lies W Bx (pkCells (T.o x.1)) 47 ∧ a' = { tmps := #[T.val A, .pointer (some ⟨w.heap.size, 0, none⟩), .slice none 0 0, .pointer (some ⟨w1.heap.size, 0, none⟩), .int .i64 (x.1 : Int), .pointer (some ⟨Bx, 0, none⟩), T.val A, .bool true, .bool false, .pointer (some ⟨w.heap.size, 1, none⟩), .slice A.o T.no A.co, .func (.func 34) #[] #[.pointer (some ⟨w1.heap.size + 1, 0, none⟩)], .int .i64 (x.1 : Int), (T.o x.1).val, undef, undef, undef, undef, undef, undef, undef, undef, undef, undef, undef, undef], defers := [] })
      (fun x a' _ X Y row hs hg hr => by obtain ⟨Bx, e1, e2, e3⟩ := hs; exact ⟨Bx, e1, lies_own Bx _ _ () X Y row e2 hg (fun r e => (hr r e).2), e3⟩)
      ?assign ?body ?done ?stop
    case assign =>
      rintro l pre x W K ⟨⟨v, hv, hrow, _⟩, hBW⟩ hK
      have hsW := hBW.size
      gi_wp2
      exact hK _ _ ((KeepsOthers.alloc _ _).from _) ((Below.refl _ W).alloc (by omega) _) ⟨⟨v, hv.alloc _, hrow.alloc _, trivial⟩, hBW.alloc (by omega) _⟩ ⟨W.heap.size, hv.lt, Lies.new W _ _, rfl⟩
    case body =>
      rintro l pre x a' W hl ⟨r, hr⟩ ⟨⟨v, hv, hrow, _⟩, hBW⟩ ⟨Bx, hBx, bX, rfl⟩ hlt
      obtain ⟨k, hk⟩ := x
      dsimp only at bX ⊢
      have hsW := hBW.size
      have hc := hv.cell
      have hf := hv.frozen
      have hpl := dlL_len T pre
      have hlv := hv.lt
      have hpl2 : (dlL T pre).length ≤ 1000000 := by have := HNO.out; have := (HTP.out).2.1; omega
      clear hpl
      have hk2 : k < T.nt := by rw [(HTP.out).1]; exact hk
      have h120 : (T.no : Int) ≤ 120 := by have := (HTP.out).2.1; omega
      obtain ⟨b2, o2, hbe2, hbl2, hcs2⟩ := Row.at hR1 hk2
      have ct : W.cell? ⟨b2, o2 + k, none⟩ = some (.int .i64 (T.t k)) := (hBW.cell (p := ⟨b2, o2 + k, none⟩) hbl2).trans ((bV1.cell (p := ⟨b2, o2 + k, none⟩) hbl2).trans (hcs2 k hk2))
      obtain ⟨x0, x1, x2, x3, x4, x5⟩ := tr_cells (tV.below hBW hl1)
      rw [hbe2] at x4
      have q4 : W.cell? ⟨Bx, 4, none⟩ = some (.int .i64 (T.o k).tm) := by have := bX.pk.2.2.2.2.1; simpa using this
      have hlX := bX.lt
      obtain ⟨⟨d0, d1⟩, d2, d3⟩ := dl_bd HTP.out hk
      have hwr : IntKind.i64.wrap (T.t k - (T.o k).tm) = T.t k - (T.o k).tm := by rw [IntKind.wrap_i64]; omega
      have HSK : Hid (∀ V : World, (∀ j, j < W.heap.size → j ≠ w1.heap.size → (Value.ownBlock v = some j → False) → V.heap[j]? = W.heap[j]?) → V.cell? ⟨w.heap.size, 4, none⟩ = some (.slice (some ⟨b2, o2, none⟩) T.nt A.ct) ∧ V.cell? ⟨b2, o2 + k, none⟩ = some (.int .i64 (T.t k)) ∧ V.cell? ⟨Bx, 4, none⟩ = some (.int .i64 (T.o k).tm)) := fun V hV => by
        refine ⟨(World.cell?_of_block (a := ⟨w.heap.size, 4, none⟩) (hV w.heap.size (by omega) (by omega) (fun e => by have := (World.ownsRow.lt hrow _ e).1; omega))).trans x4, (World.cell?_of_block (a := ⟨b2, o2 + k, none⟩) (hV b2 (by omega) (by omega) (fun e => by have := (World.ownsRow.lt hrow _ e).1; omega))).trans ct, (World.cell?_of_block (a := ⟨Bx, 4, none⟩) (hV Bx hlX (by omega) (fun e => ?_))).trans q4⟩
        have ho := hrow.2
        rcases ho with ⟨hv0, _⟩ | ⟨g, cap, cur, hv0, _, hh, _⟩
        · rw [hv0] at e; simp [Value.ownBlock] at e
        · rw [hv0] at e
          have : g = Bx := by simpa [Value.ownBlock] using e
          subst this
          have hbX : W.heap[g]? = some (.cells (pkCells (T.o k)) 47) := bX
          rw [hbX] at hh
          simp only [Option.some.injEq, Obj.cells.injEq] at hh
          exact absurd hh.2 (by decide)
      gi_wp2
      refine wpIn_region_any_round (by kernel_rfl) (by rintro ⟨_, _, hh⟩; exact hh) (by kernel_rfl) (wpAny_of_held (S := fun V => V.cell? ⟨w.heap.size, 4, none⟩ = some (.slice (some ⟨b2, o2, none⟩) T.nt A.ct) ∧ V.cell? ⟨b2, o2 + k, none⟩ = some (.int .i64 (T.t k)) ∧ V.cell? ⟨Bx, 4, none⟩ = some (.int .i64 (T.o k).tm)) _ _ _ _ ?_)
      change wpAnyH _ _ _ _ _ 12 (Array.replicate 12 false) _ W.drew
      have HS0 : Hid (W.drew.cell? ⟨w.heap.size, 4, none⟩ = some (.slice (some ⟨b2, o2, none⟩) T.nt A.ct) ∧ W.drew.cell? ⟨b2, o2 + k, none⟩ = some (.int .i64 (T.t k)) ∧ W.drew.cell? ⟨Bx, 4, none⟩ = some (.int .i64 (T.o k).tm)) := HSK.out _ (fun _ _ _ _ => rfl)
      refine wpAnyH_take (i := 1) (v := .pointer (some ⟨w.heap.size, 4, none⟩)) (by rfl) (by kernel_rfl) (by kernel_rfl) (by kernel_rfl) (fun _ _ _ h => h) (.inl ⟨by rfl, ?y1⟩) HS0.out ?_
      case y1 =>
        rintro V ⟨e1, e2, e3⟩
        go_simp
      simp only [Act.put]
      refine wpAnyH_take (i := 2) (v := .slice (some ⟨b2, o2, none⟩) T.nt A.ct) (by rfl) (by kernel_rfl) (by kernel_rfl) (by kernel_rfl) (fun _ _ _ h => h) (.inl ⟨by rfl, ?y2⟩) HS0.out ?_
      case y2 =>
        rintro V ⟨e1, e2, e3⟩
        go_simp
      simp only [Act.put]
      refine wpAnyH_take (i := 3) (v := .int .i64 (k : Int)) (by rfl) (by kernel_rfl) (by kernel_rfl) (by kernel_rfl) (fun _ _ _ h => h) (.inl ⟨by rfl, ?y3⟩) HS0.out ?_
      case y3 =>
        rintro V ⟨e1, e2, e3⟩
        go_simp
      simp only [Act.put]
      refine wpAnyH_take (i := 4) (v := .pointer (some ⟨b2, o2 + k, none⟩)) (by rfl) (by kernel_rfl) (by kernel_rfl) (by kernel_rfl) (fun _ _ _ h => h) (.inl ⟨by rfl, ?y4⟩) HS0.out ?_
      case y4 =>
        rintro V ⟨e1, e2, e3⟩
        go_simp
      simp only [Act.put]
      refine wpAnyH_take (i := 5) (v := .int .i64 (T.t k)) (by rfl) (by kernel_rfl) (by kernel_rfl) (by kernel_rfl) (fun _ _ _ h => h) (.inl ⟨by rfl, ?y5⟩) HS0.out ?_
      case y5 =>
        rintro V ⟨e1, e2, e3⟩
        go_simp
      simp only [Act.put]
      refine wpAnyH_take (i := 6) (v := .pointer (some ⟨Bx, 4, none⟩)) (by rfl) (by kernel_rfl) (by kernel_rfl) (by kernel_rfl) (fun _ _ _ h => h) (.inl ⟨by rfl, ?y6⟩) HS0.out ?_
      case y6 =>
        rintro V ⟨e1, e2, e3⟩
        go_simp
      simp only [Act.put]
      refine wpAnyH_take (i := 7) (v := .int .i64 (T.o k).tm) (by rfl) (by kernel_rfl) (by kernel_rfl) (by kernel_rfl) (fun _ _ _ h => h) (.inl ⟨by rfl, ?y7⟩) HS0.out ?_
      case y7 =>
        rintro V ⟨e1, e2, e3⟩
        go_simp
      simp only [Act.put]
      refine wpAnyH_take (i := 8) (v := .int .i64 (T.t k - (T.o k).tm)) (by rfl) (by kernel_rfl) (by kernel_rfl) (by kernel_rfl) (fun _ _ _ h => h) (.inl ⟨by rfl, ?y8⟩) HS0.out ?_
      case y8 =>
        rintro V ⟨e1, e2, e3⟩
        go_simp
      simp only [Act.put]
      refine wpAnyH_all (rs := [0, 9]) (by kernel_rfl) (by simp) (fun i him => ?_)
      have hii : i = 0 ∨ i = 9 := by simpa using him
      rcases hii with rfl | rfl
      · clear him
        refine wpOp_of_k fun K' HK' => ⟨_, rfl, ?_⟩
        simp only [List.getElem_toArray, List.getElem_cons_zero]
        go_wp2_with (fail)
        refine HK'.out _ _ ⟨HSK.out _ (fun _ _ _ _ => rfl), ?_⟩
        try simp only [Act.put]
        refine wpAnyH_all (rs := [9]) (by kernel_rfl) (by simp) (fun i him => ?_)
        obtain rfl : i = 9 := by simpa using him
        refine wpOp_of_k fun K' HK' => ⟨_, rfl, ?_⟩
        simp only [List.getElem_toArray, List.getElem_cons_zero, List.getElem_cons_succ]
        go_wp2_with (fail)
        refine HK'.out _ _ ⟨HSK.out _ (fun j hj _ _ => Below.heap_alloc W _ j hj), ?_⟩
        try simp only [Act.put]
        refine wpAnyH_all (rs := [10]) (by kernel_rfl) (by simp) (fun i him => ?_)
        obtain rfl : i = 10 := by simpa using him
        refine wpOp_of_k fun K' HK' => ⟨_, rfl, ?_⟩
        simp only [List.getElem_toArray, List.getElem_cons_zero, List.getElem_cons_succ]
        go_wp2_with (at_builtin; refine wpList_append_own _ rfl _ _ 29 rfl w1.heap.size 3 i0 (.int .i64 0) 1 8 Try.underlying29 hi hz0 hz1 hz2 rfl (by decide) _ _ _ rfl (World.ownsRow.alloc (w := W.drew) hrow _) ⟨W.heap.size, 0, none⟩ 1 1 [.int .i64 (T.t k - (T.o k).tm)] rfl rfl (cell_one_new _ _ _) (by simp [Value.oneCell']) (by unfold maxLen; omega) (by omega) (by simp; omega) ?_; intro v' w2 hown' hgrow _; obtain ⟨g', cap', rfl⟩ := ownsRow_succ hown'; replace hgrow : (W.alloc (.cells #[.int .i64 (T.t k - (T.o k).tm)] 3)).grownBy w2 v.ownBlock := ⟨hgrow.os, hgrow.tape, hgrow.output, hgrow.size, hgrow.block⟩)
        refine HK'.out _ _ ⟨HSK.out _ (fun j hj _ he => (hgrow.block j (by show j < (W.heap.push _).size; simp; omega) (fun e => he e.symm)).trans (Below.heap_alloc W _ j hj)), ?_⟩
        try simp only [Act.put]
        obtain ⟨hv1, hv2, hr2, hk2', hb2⟩ := hv.appended (by decide) hrow (show w1.heap.size ≤ W.heap.size by omega) (Nat.le_refl _) hown' hgrow
        have hc1 := hv1.cell
        have hf1 := hv1.frozen
        refine wpAnyH_all (rs := [11]) (by kernel_rfl) (by simp) (fun i him => ?_)
        obtain rfl : i = 11 := by simpa using him
        refine wpOp_of_k fun K' HK' => ⟨_, rfl, ?_⟩
        simp only [List.getElem_toArray, List.getElem_cons_zero, List.getElem_cons_succ]
        go_wp2_with (fail)
        refine HK'.out _ _ ⟨HSK.out _ (fun j hj hne he => (Below.heap_setCell w2 ⟨w1.heap.size, 0, none⟩ _ j hne).trans ((hgrow.block j (by show j < (W.heap.push _).size; simp; omega) (fun e => he e.symm)).trans (Below.heap_alloc W _ j hj))), ?_⟩
        try simp only [Act.put]
        refine wpAnyH_done (by kernel_rfl) ?_ _
        gi_wp2
        exact ⟨hk2'.from _, hb2, ⟨_, hv2, by rw [dlL_snoc]; simpa [dl] using hr2, trivial⟩, hBW.trans hb2⟩
      · clear him
        refine wpOp_of_k fun K' HK' => ⟨_, rfl, ?_⟩
        simp only [List.getElem_toArray, List.getElem_cons_zero, List.getElem_cons_succ]
        go_wp2_with (fail)
        refine HK'.out _ _ ⟨HSK.out _ (fun j hj _ _ => Below.heap_alloc W _ j hj), ?_⟩
        try simp only [Act.put]
        refine wpAnyH_all (rs := [0]) (by kernel_rfl) (by simp) (fun i him => ?_)
        obtain rfl : i = 0 := by simpa using him
        refine wpOp_of_k fun K' HK' => ⟨_, rfl, ?_⟩
        simp only [List.getElem_toArray, List.getElem_cons_zero]
        go_wp2_with (fail)
        refine HK'.out _ _ ⟨HSK.out _ (fun j hj _ _ => Below.heap_alloc W _ j hj), ?_⟩
        try simp only [Act.put]
        refine wpAnyH_all (rs := [10]) (by kernel_rfl) (by simp) (fun i him => ?_)
        obtain rfl : i = 10 := by simpa using him
        refine wpOp_of_k fun K' HK' => ⟨_, rfl, ?_⟩
        simp only [List.getElem_toArray, List.getElem_cons_zero, List.getElem_cons_succ]
        go_wp2_with (at_builtin; refine wpList_append_own _ rfl _ _ 29 rfl w1.heap.size 3 i0 (.int .i64 0) 1 8 Try.underlying29 hi hz0 hz1 hz2 rfl (by decide) _ _ _ rfl (World.ownsRow.alloc (w := W.drew) hrow _) ⟨W.heap.size, 0, none⟩ 1 1 [.int .i64 (T.t k - (T.o k).tm)] rfl rfl (cell_one_new _ _ _) (by simp [Value.oneCell']) (by unfold maxLen; omega) (by omega) (by simp; omega) ?_; intro v' w2 hown' hgrow _; obtain ⟨g', cap', rfl⟩ := ownsRow_succ hown'; replace hgrow : (W.alloc (.cells #[.int .i64 (T.t k - (T.o k).tm)] 3)).grownBy w2 v.ownBlock := ⟨hgrow.os, hgrow.tape, hgrow.output, hgrow.size, hgrow.block⟩)
        refine HK'.out _ _ ⟨HSK.out _ (fun j hj _ he => (hgrow.block j (by show j < (W.heap.push _).size; simp; omega) (fun e => he e.symm)).trans (Below.heap_alloc W _ j hj)), ?_⟩
        try simp only [Act.put]
        obtain ⟨hv1, hv2, hr2, hk2', hb2⟩ := hv.appended (by decide) hrow (show w1.heap.size ≤ W.heap.size by omega) (Nat.le_refl _) hown' hgrow
        have hc1 := hv1.cell
        have hf1 := hv1.frozen
        refine wpAnyH_all (rs := [11]) (by kernel_rfl) (by simp) (fun i him => ?_)
        obtain rfl : i = 11 := by simpa using him
        refine wpOp_of_k fun K' HK' => ⟨_, rfl, ?_⟩
        simp only [List.getElem_toArray, List.getElem_cons_zero, List.getElem_cons_succ]
        go_wp2_with (fail)
        refine HK'.out _ _ ⟨HSK.out _ (fun j hj hne he => (Below.heap_setCell w2 ⟨w1.heap.size, 0, none⟩ _ j hne).trans ((hgrow.block j (by show j < (W.heap.push _).size; simp; omega) (fun e => he e.symm)).trans (Below.heap_alloc W _ j hj))), ?_⟩
        try simp only [Act.put]
        refine wpAnyH_done (by kernel_rfl) ?_ _
        gi_wp2
        exact ⟨hk2'.from _, hb2, ⟨_, hv2, by rw [dlL_snoc]; simpa [dl] using hr2, trivial⟩, hBW.trans hb2⟩
    case done =>
      rintro D zs W hD hz ⟨⟨v, hv, hrow, _⟩, hBW⟩ hK
      have hc := hv.cell
      gi_wp2
      refine ⟨by simp, .inl ⟨_, _, rfl, run_takeDeferred hK, ?_⟩⟩
      have hs1 := B1.size
      have hBB : Below w.heap.size w W := (B1.trans (bV1.mono hs1)).trans (hBW.mono hs1)
      rw [dlL_all T zs hz] at hrow
      obtain ⟨x, cap, rfl, hoi⟩ := oi_of (ownsRow_putObj hrow (.deferred none) hK rfl)
      exact ⟨_, results_tmp rfl _ _ _, x, cap, rfl, World.ownsRow.mono hoi hs1, hBB.trans (belowK_b (w := w) (Nat.le_refl _) W D _ _ (by omega) hK rfl rfl)⟩
    case stop =>
      rintro D c pre W _ _ h _
      exact h.elim

end Go.Proofs.Ytcmjnanejeekiaa
