/-
  THE BYTES OF ONE FLOW THAT WENT OUT: FlowBytes OF BOTH SIDES.
-/
import Derived.Test.YtcmjnanejeekiaaTraceI
namespace Go.Proofs.Ytcmjnanejeekiaa
open Go.RowKit Go.Shelf
set_option linter.unusedVariables false
attribute [local go_sem] Oper.semAt_some

def sizF (T : Tr) (flow : Int) (j : Nat) : Int := if (T.o j).flow = flow then (T.o j).size else 0
def flS (T : Tr) (flow : Int) (k : Nat) : Int := ((List.range k).map (sizF T flow)).sum
theorem flS_succ (T : Tr) (flow : Int) (k : Nat) : flS T flow (k + 1) = flS T flow k + sizF T flow k := by
  unfold flS; rw [List.range_succ, List.map_append, List.sum_append]; simp
theorem sizF_bd {T : Tr} (h : trP T) (flow : Int) {j : Nat} (hj : j < T.no) : 0 ≤ sizF T flow j ∧ sizF T flow j ≤ 2000 := by
  have := (h.2.2.2.1 j hj).1
  have hs : 1 ≤ (T.o j).size ∧ (T.o j).size ≤ 2000 := by
    unfold Pk.good inB at this
    simp only [Bool.and_eq_true, decide_eq_true_eq] at this
    exact this.2.2.2.2.1
  unfold sizF
  split <;> omega
theorem flS_bd {T : Tr} (h : trP T) (flow : Int) : ∀ k, k ≤ T.no → 0 ≤ flS T flow k ∧ flS T flow k ≤ 2000 * (k : Int) := by
  intro k
  induction k with
  | zero => intro _; simp [flS]
  | succ k ih =>
    intro hk
    have h1 := ih (by omega)
    have h2 := sizF_bd h flow (show k < T.no by omega)
    rw [flS_succ]
    omega
def flowF (T : Tr) (flow : Int) : Int := if trB T then flS T flow T.no else 0
def flL {len : Nat} (T : Tr) (flow : Int) (pre : List (Upto len)) : Int := (pre.map fun x => sizF T flow x.1).sum
theorem flL_snoc {len : Nat} (T : Tr) (flow : Int) (pre : List (Upto len)) (x : Upto len) : flL T flow (pre ++ [x]) = flL T flow pre + sizF T flow x.1 := by
  unfold flL; rw [List.map_append, List.sum_append]; simp
theorem flL_all {len : Nat} (T : Tr) (flow : Int) (zs : List (Upto len)) (h : zs.map (·.1) = List.range len) : flL T flow zs = flS T flow len := by
  unfold flL flS; rw [← h, List.map_map]; rfl
theorem flL_bd {T : Tr} (h : trP T) (flow : Int) : ∀ pre : List (Upto T.no), 0 ≤ flL T flow pre ∧ flL T flow pre ≤ 2000 * (pre.length : Int) := by
  intro pre
  induction pre with
  | nil => simp [flL]
  | cons x l ih =>
    have h2 := sizF_bd h flow x.2
    have e : flL T flow (x :: l) = sizF T flow x.1 + flL T flow l := by unfold flL; simp
    rw [e, List.length_cons]
    omega

set_option maxRecDepth 100000 in
set_option maxHeartbeats 4000000 in
theorem sflowBytes_any (T : Tr) (A : Ta) (flow : Int) (w : World) (hA : TrAt w T A) :
    Calls Try.prog 10 #[T.val A, .int .i64 flow] w fun e w' => e = .returned (.int .i64 (flowF T flow)) ∧ Below w.heap.size w w' := by
  have HA : Hid (∀ V, Below w.heap.size w V → TrAt V T A) := fun V h => hA.below h
  clear hA
  have HB0 : Hid (Below w.heap.size w (w.alloc (.cells (trCells T A) 36))) := (Below.refl _ w).alloc (Nat.le_refl _) _
  have HS0 : Hid (Sits (w.alloc (.cells (trCells T A) 36)) w.heap.size (trCells T A) 36) := Sits.new w _ _
  cases hb : trB T
  case false =>
    have HE : Hid (flowF T flow = 0) := by show _ = _; unfold flowF; rw [hb]; rfl
    have HG : Hid (trB T = false) := hb
    clear hb
    go_enter Try.func10, Try.ntmps10
    go_wp2_with (go_at_call 25; refine (straceOk_any T A _ ((HA.out) _ HB0.out)).mono ?_; rintro e w1 ⟨rfl, b1⟩; rw [HG.out])
    go_ret
    exact ⟨ret_int HE.out.symm, (HB0.out).trans (b1.mono (HB0.out).size)⟩
  case true =>
    have HE : Hid (flowF T flow = flS T flow T.no) := by show _ = _; unfold flowF; rw [hb]; rfl
    have HG : Hid (trB T = true) := hb
    have htp : trP T := of_decide_eq_true hb
    have HTP : Hid (trP T) := htp
    clear htp
    clear hb
    go_enter Try.func10, Try.ntmps10
    go_wp2_with (go_at_call 25; refine (straceOk_any T A _ ((HA.out) _ HB0.out)).mono ?_; rintro e w1 ⟨rfl, b1⟩; rw [HG.out])
    have HB1 : Hid (Below w.heap.size w w1) := (HB0.out).trans (b1.mono (HB0.out).size)
    have s1 := Sits.below HS0.out b1 (Sits.lt HS0.out)
    obtain ⟨x0, x1, x2, x3, x4, x5⟩ := tr_cells s1
    clear b1 HB0 HS0 s1
    go_loop [5, 6] (fun n i => ∃ k : Nat, k ≤ T.no ∧ i = .int .i64 k ∧ n = .int .i64 (flS T flow k)) (fun _ i => T.no - (intOf i).toNat)
    case atStart => exact ⟨0, Nat.zero_le _, rfl, by simp [flS]⟩
    case round =>
      obtain ⟨k, hk, rfl, rfl⟩ := hrel
      have hkb : (k : Int) ≤ 120 := by have := (HTP.out).2.1; omega
      obtain ⟨f1, f2⟩ := flS_bd HTP.out flow k hk
      by_cases hlt : k < T.no
      · obtain ⟨b, off, hbe, hbl, hcs⟩ := PR.at ((HA.out) _ HB1.out).o hlt
        obtain ⟨c0, c1, c2, c3, c4, c5⟩ := hcs k hlt
        have hs := flS_succ T flow k
        have hsb := sizF_bd HTP.out flow hlt
        have x1' := x1
        rw [hbe] at x1'
        clear hcs x1
        by_cases hf : (T.o k).flow = flow
        · have hf' : ((T.o k).flow == flow) = true := by simpa using hf
          have hz : sizF T flow k = (T.o k).size := if_pos hf
          rw [hz] at hs hsb
          clear hf hz
          have HSS : Hid (flS T flow (k + 1) = flS T flow k + (T.o k).size) := hs
          clear hs
          go_wp2
          go_round
          case rel => exact ⟨k + 1, by omega, by go_num, by rw [HSS.out]⟩
          case measure => simp [intOf]; omega
        · have hf' : ((T.o k).flow == flow) = false := by simpa using hf
          have hz : sizF T flow k = 0 := if_neg hf
          rw [hz] at hs
          clear hz
          have HSS : Hid (flS T flow (k + 1) = flS T flow k + 0) := hs
          clear hs
          go_wp2
          go_round
          case rel => exact ⟨k + 1, by omega, by go_num, by rw [HSS.out, Int.add_zero]⟩
          case measure => simp [intOf]; omega
      · obtain rfl : k = T.no := by omega
        go_wp2
        go_ret
        exact ⟨ret_int HE.out.symm, HB1.out⟩

set_option maxRecDepth 100000 in
set_option maxHeartbeats 4000000 in
theorem iflowBytes_any (T : Tr) (A : Ta) (flow : Int) (w : World) (hA : TrAt w T A) (hno : T.no ≤ 1048576) (hnd : T.nd ≤ 1048576) :
    Calls Try.prog 12 #[T.val A, .int .i64 flow] w fun e w' => e = .returned (.int .i64 (flowF T flow)) ∧ Below w.heap.size w w' := by
  have HA : Hid (∀ V, Below w.heap.size w V → TrAt V T A) := fun V h => hA.below h
  have HNO : Hid (T.no ≤ 1048576) := hno
  have HND : Hid (T.nd ≤ 1048576) := hnd
  clear hA hno hnd
  obtain ⟨W0, hW0⟩ : ∃ W, (w.alloc (.cells (trCells T A) 36)).alloc (.cells #[.int .i64 flow] 3) = W := ⟨_, rfl⟩
  have b0 : Below w.heap.size w W0 := by rw [← hW0]; exact ((Below.refl _ w).alloc (Nat.le_refl _) _).alloc (by simp) _
  have s0 : Sits W0 w.heap.size (trCells T A) 36 := by rw [← hW0]; exact (Sits.new _ _ _).alloc _
  have s1 : Boxed W0 (w.heap.size + 1) 3 (.int .i64 flow) := by rw [← hW0]; have := Boxed.new (w.alloc (.cells (trCells T A) 36)) 3 (.int .i64 flow); simpa using this
  have HB0 : Hid (Below w.heap.size w W0) := b0
  have HS0 : Hid (Sits W0 w.heap.size (trCells T A) 36) := s0
  have HS1 : Hid (Boxed W0 (w.heap.size + 1) 3 (.int .i64 flow)) := s1
  have HW0 : Hid ((w.alloc (.cells (trCells T A) 36)).alloc (.cells #[.int .i64 flow] 3) = W0) := hW0
  clear b0 s0 s1 hW0
  refine (callsIn_wide (n := 6)).1 ?_
  have hro : Fence.wide.round = none := rfl
  refine callsIn_of_wp_marks Try.func12 rfl trivial ?_ hro
  simp only [Try.ntmps12, List.size_toArray, List.length_cons, List.length_nil, Nat.reduceAdd, Nat.reduceSub, Array.replicate_succ, Array.replicate_zero, List.push_toArray, List.append_toArray, List.nil_append, List.cons_append]
  cases hb : trB T
  case false =>
    have HE : Hid (flowF T flow = 0) := by show _ = _; unfold flowF; rw [hb]; rfl
    have HG : Hid (trB T = false) := hb
    clear hb
    gi_wp2_with (refine ⟨trivial, ?_⟩; gi_at_call 28; refine (callsIn_wide.2 (itraceOk_any T A _ ((HA.out) _ (by rw [HW0.out]; exact HB0.out)) HNO.out HND.out)).mono ?_; rintro e w1 ⟨rfl, b1⟩; rw [HG.out]; rw [HW0.out] at b1)
    exact ⟨_, results_tmp rfl _ _ _, by rw [HE.out]; rfl, (HB0.out).trans (b1.mono (HB0.out).size)⟩
  case true =>
    have HE : Hid (flowF T flow = flS T flow T.no) := by show _ = _; unfold flowF; rw [hb]; rfl
    have HG : Hid (trB T = true) := hb
    have htp : trP T := of_decide_eq_true hb
    have HTP : Hid (trP T) := htp
    clear htp
    clear hb
    gi_wp2_with (refine ⟨trivial, ?_⟩; first | (gi_at_call 28; refine (callsIn_wide.2 (itraceOk_any T A _ ((HA.out) _ (by rw [HW0.out]; exact HB0.out)) HNO.out HND.out)).mono ?_; rintro e w1 ⟨rfl, b1⟩; rw [HG.out]; rw [HW0.out] at b1; have t1 := Sits.below HS0.out b1 (Sits.lt HS0.out); obtain ⟨x0, x1, x2, x3, x4, x5⟩ := tr_cells t1; have hl1 := t1.lt) | (gi_at_call 29; refine (told_in 5 _ _ _ _).mono ?_; rintro e w' ⟨rfl, rfl⟩))
    have B1 : Below w.heap.size w w1 := (HB0.out).trans (b1.mono (HB0.out).size)
    have f1 : Boxed w1 (w.heap.size + 1) 3 (.int .i64 flow) := boxed_below HS1.out b1 (Boxed.lt HS1.out)
    have hlf := f1.lt
    obtain ⟨V0, hV0⟩ : ∃ V, (w1.alloc (.cells #[.int .i64 0] 3)).alloc (.cells #[.slice A.o T.no A.co] 34) = V := ⟨_, rfl⟩
    have hzV : V0.heap.size = w1.heap.size + 1 + 1 := by rw [← hV0]; simp
    have bV1 : Below w1.heap.size w1 V0 := by rw [← hV0]; exact ((Below.refl _ w1).alloc (Nat.le_refl _) _).alloc (by simp) _
    have vS : Boxed V0 w1.heap.size 3 (.int .i64 0) := by rw [← hV0]; exact (Boxed.new w1 3 _).alloc _
    have vN : Boxed V0 (w1.heap.size + 1) 34 (.slice A.o T.no A.co) := by rw [← hV0]; have := Boxed.new (w1.alloc (.cells #[.int .i64 0] 3)) 34 (.slice A.o T.no A.co); simpa using this
    have hP1 : PR w1.heap.size V0 A.o T.no T.o := (((HA.out) _ B1).o).below bV1
    have f2 : Boxed V0 (w.heap.size + 1) 3 (.int .i64 flow) := boxed_below f1 bV1 hlf
    change Code.wpIn _ _ _ _ _ _ ((w1.alloc (.cells #[.int .i64 0] 3)).alloc (.cells #[.slice A.o T.no A.co] 34))
    rw [hV0]
    clear hV0 x0 x1 x2 x3 x4 x5 HW0 HS0 HS1 HB0 t1 b1 f1
    refine wpIn_rangeFunc_ownH hro (by omega) (gf := 34) (lb := #[.pointer (some ⟨w1.heap.size + 1, 0, none⟩)]) rfl trivial (enters_of Try.func34 (by kernel_rfl) rfl)
      (told_stops 5 (by omega) (w1.heap.size + 1) w1.heap.size T.no A.co A.o T.o HNO.out V0 (by omega) (by omega) vN.cell hP1) belowK_t (belowK_b (by omega)) (Below.refl _ _) (fun _ => rfl)
      (fun pre W => Boxed W w1.heap.size 3 (.int .i64 (flL T flow pre)) ∧ Below w1.heap.size V0 W)
      (fun _ _ _ => False)
      (OwnFrom.and (Own.from (boxed_own _ _ _) _) (ownFrom_below (by omega) (by omega)))
      (fun c => ownFrom_pure _ _)
      ⟨vS, Below.refl _ _⟩
      (fun x a' W => ∃ Bx, w1.heap.size < Bx ∧ Lies W Bx (pkCells (T.o x.1)) 47 ∧ a' = { tmps := #[T.val A, .int .i64 flow, .pointer (some ⟨w.heap.size, 0, none⟩), .pointer (some ⟨w.heap.size + 1, 0, none⟩), .int .i64 0, .pointer (some ⟨w1.heap.size, 0, none⟩), undef, .pointer (some ⟨Bx, 0, none⟩), T.val A, .bool true, .bool false, .pointer (some ⟨w.heap.size, 1, none⟩), .slice A.o T.no A.co, .func (.func 34) #[] #[.pointer (some ⟨w1.heap.size + 1, 0, none⟩)], .int .i64 (x.1 : Int), (T.o x.1).val, undef, undef, undef, undef, undef, undef, undef, undef, undef], defers := [] })
      (fun x a' _ X Y row hs hg hr => by obtain ⟨Bx, e1, e2, e3⟩ := hs; exact ⟨Bx, e1, lies_own Bx _ _ () X Y row e2 hg (fun r e => (hr r e).2), e3⟩)
      ?assign ?body ?done ?stop
    case assign =>
      rintro l pre x W K ⟨bS1, hBW⟩ hK
      have hsW := hBW.size
      gi_wp2
      exact hK _ _ ((KeepsOthers.alloc _ _).from _) ((Below.refl _ W).alloc (by omega) _) ⟨bS1.alloc _, hBW.alloc (by omega) _⟩ ⟨W.heap.size, bS1.lt, Lies.new W _ _, rfl⟩
    case body =>
      rintro l pre x a' W hl ⟨r, hr⟩ ⟨bS1, hBW⟩ ⟨Bx, hBx, bX, rfl⟩ hlt
      have cS := bS1.cell
      have fS := bS1.frozen
      have cF := (boxed_below f2 hBW (by omega)).cell
      obtain ⟨q0, q1, q2, q3, q4, q5⟩ := bX.pk
      simp only [Nat.zero_add] at q1 q2 q3 q4 q5
      obtain ⟨s1, s2⟩ := flL_bd HTP.out flow pre
      have hpl : (pre.length : Int) < (T.no : Int) := by omega
      have h120 : (T.no : Int) ≤ 120 := by have := (HTP.out).2.1; omega
      have hsb := sizF_bd HTP.out flow x.2
      have HSN : Hid (flL T flow (pre ++ [x]) = flL T flow pre + sizF T flow x.1) := flL_snoc T flow pre x
      clear hlt hr
      by_cases hf : (T.o x.1).flow = flow
      · have hf' : ((T.o x.1).flow == flow) = true := by simpa using hf
        have HZ : Hid (sizF T flow x.1 = (T.o x.1).size) := if_pos hf
        rw [HZ.out] at hsb
        clear hf
        gi_wp2
        exact ⟨(KeepsOthers.setCell _ _ _).from _, (Below.refl _ W).setCell (p := ⟨w1.heap.size, 0, none⟩) (Nat.le_refl _) _, by rw [HSN.out, HZ.out]; exact bS1.set _, hBW.setCell (p := ⟨w1.heap.size, 0, none⟩) (Nat.le_refl _) _⟩
      · have hf' : ((T.o x.1).flow == flow) = false := by simpa using hf
        have HZ : Hid (sizF T flow x.1 = 0) := if_neg hf
        gi_wp2
        exact ⟨KeepsFrom.refl _ _, Below.refl _ _, by rw [HSN.out, HZ.out, Int.add_zero]; exact bS1, hBW⟩
    case done =>
      rintro D zs W hD hz ⟨bS1, hBW⟩ hK
      have cS := bS1.cell
      have HZS : Hid (flL T flow zs = flS T flow T.no) := flL_all T flow zs hz
      clear hz
      have hs1 := B1.size
      gi_wp2
      refine ⟨by simp, .inl ⟨_, _, rfl, run_takeDeferred hK, ?_⟩⟩
      have bW : Below w.heap.size w W := (B1.trans (bV1.mono hs1)).trans (hBW.mono hs1)
      exact ⟨_, results_tmp rfl _ _ _, by rw [HE.out, ← HZS.out]; rfl, bW.trans (belowK_b (w := w) (Nat.le_refl _) W D _ _ (by omega) hK rfl rfl)⟩
    case stop =>
      rintro D c pre W _ _ h _
      exact h.elim

end Go.Proofs.Ytcmjnanejeekiaa
