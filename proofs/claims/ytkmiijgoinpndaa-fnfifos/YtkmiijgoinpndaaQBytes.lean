/-
  HOW MANY BYTES THERE ARE: Bytes OF BOTH SIDES.
-/
import Derived.Test.YtkmiijgoinpndaaQOps
namespace Go.Proofs.Ytkmiijgoinpndaa
open Go.RowKit Go.Shelf
set_option linter.unusedVariables false
attribute [local go_sem] Oper.semAt_some

def sumF (f : Nat → Pk) (n : Nat) : Int := ((List.range n).map fun j => (f j).size).sum
theorem sumF_succ (f : Nat → Pk) (n : Nat) : sumF f (n + 1) = sumF f n + (f n).size := by
  unfold sumF; rw [List.range_succ, List.map_append, List.sum_append]; simp
theorem sumF_bd (f : Nat → Pk) (n : Nat) (h : ∀ j, j < n → 1 ≤ (f j).size ∧ (f j).size ≤ 2000) : 0 ≤ sumF f n ∧ sumF f n ≤ 2000 * (n : Int) := by
  induction n with
  | zero => simp [sumF]
  | succ n ih =>
    have := ih (fun j hj => h j (by omega))
    have h2 := h n (by omega)
    rw [sumF_succ]
    omega
def bytesF (f : Nat → Pk) (n : Nat) (lim : Int) : Int := if fifoB f n lim = true then sumF f n else 0
def sumL {len : Nat} (f : Nat → Pk) (pre : List (Upto len)) : Int := (pre.map fun x => (f x.1).size).sum
theorem sumL_snoc {len : Nat} (f : Nat → Pk) (pre : List (Upto len)) (x : Upto len) : sumL f (pre ++ [x]) = sumL f pre + (f x.1).size := by
  unfold sumL; rw [List.map_append, List.sum_append]; simp
theorem sumL_bd {len : Nat} (f : Nat → Pk) (h : ∀ j, j < len → 1 ≤ (f j).size ∧ (f j).size ≤ 2000) : ∀ pre : List (Upto len), 0 ≤ sumL f pre ∧ sumL f pre ≤ 2000 * (pre.length : Int)
  | [] => by simp [sumL]
  | x :: pre => by
    have := sumL_bd f h pre
    have h2 := h x.1 x.2
    unfold sumL at *
    simp only [List.map_cons, List.sum_cons, List.length_cons]
    omega
theorem sumL_all {len : Nat} (f : Nat → Pk) (zs : List (Upto len)) (h : zs.map (·.1) = List.range len) : sumL f zs = sumF f len := by
  unfold sumL sumF; rw [← h, List.map_map]; rfl

set_option maxRecDepth 100000 in
set_option maxHeartbeats 4000000 in
theorem ibytesOf_any (a : Option Addr) (n c : Nat) (f : Nat → Pk) (w : World) (hn : n ≤ 1048576) (hP : PR w.heap.size w a n f) (hs : ∀ j, j < n → 1 ≤ (f j).size ∧ (f j).size ≤ 2000) :
    Calls Try.prog 24 #[.slice a n c] w fun e w' => e = .returned (.int .i64 (sumF f n)) ∧ Below w.heap.size w w' := by
  have HP : Hid (PR w.heap.size w a n f) := hP
  have HS : Hid (∀ j, j < n → 1 ≤ (f j).size ∧ (f j).size ≤ 2000) := hs
  clear hP hs
  refine (callsIn_wide (n := 6)).1 ?_
  have hro : Fence.wide.round = none := rfl
  refine callsIn_of_wp_marks Try.func24 rfl trivial ?_ hro
  simp only [Try.ntmps24, List.size_toArray, List.length_cons, List.length_nil, Nat.reduceAdd, Nat.reduceSub, Array.replicate_succ, Array.replicate_zero, List.push_toArray, List.append_toArray, List.nil_append, List.cons_append]
  gi_wp2_with (refine ⟨trivial, ?_⟩; gi_at_call 28; refine (told_in 5 _ _ _ _).mono ?_; rintro e w' ⟨rfl, rfl⟩)
  have bS := (Boxed.new w 3 (.int .i64 0)).alloc (.cells #[.slice a n c] 23)
  have bN := Boxed.new (w.alloc (.cells #[.int .i64 0] 3)) 23 (.slice a n c)
  simp only [World.size_alloc] at bN
  have hB0 : Below w.heap.size w ((w.alloc (.cells #[.int .i64 0] 3)).alloc (.cells #[.slice a n c] 23)) := ((Below.refl _ w).alloc (Nat.le_refl _) _).alloc (by simp) _
  have hsz : ((w.alloc (.cells #[.int .i64 0] 3)).alloc (.cells #[.slice a n c] 23)).heap.size = w.heap.size + 2 := by simp
  have hP1 : PR w.heap.size w a n f := HP.out
  obtain ⟨W0, hW0⟩ : ∃ W0, (w.alloc (.cells #[.int .i64 0] 3)).alloc (.cells #[.slice a n c] 23) = W0 := ⟨_, rfl⟩
  rw [hW0] at bS bN hB0 hsz ⊢
  clear hW0
  refine wpIn_rangeFunc_ownH hro (by omega) (gf := 29) (lb := #[.pointer (some ⟨w.heap.size + 1, 0, none⟩)]) rfl trivial (enters_of Try.func29 (by kernel_rfl) rfl)
    (told_stops 5 (by omega) (w.heap.size + 1) w.heap.size n c a f hn W0 (by omega) (by omega) bN.cell (hP1.below hB0)) belowK_t (belowK_b (by omega)) (Below.refl _ _) (fun _ => rfl)
    (fun pre W => Boxed W w.heap.size 3 (.int .i64 (sumL f pre)) ∧ Below w.heap.size w W)
    (fun _ _ _ => False)
    (OwnFrom.and (Own.from (boxed_own _ _ _) _) (ownFrom_below (Nat.le_refl _) (by omega)))
    (fun c => ownFrom_pure _ _)
    ⟨bS, hB0⟩
    (fun x a' W => ∃ Bx, w.heap.size < Bx ∧ Lies W Bx (pkCells (f x.1)) 27 ∧ a' = { tmps := #[.slice a n c, undef, .int .i64 0, .pointer (some ⟨w.heap.size, 0, none⟩), undef, .pointer (some ⟨Bx, 0, none⟩), .slice a n c, .func (.func 29) #[] #[.pointer (some ⟨w.heap.size + 1, 0, none⟩)], .int .i64 (x.1 : Int), (f x.1).val, undef, undef, undef, undef, undef], defers := [] })
    (fun x a' _ X Y row hs hg hr => by obtain ⟨Bx, e1, e2, e3⟩ := hs; exact ⟨Bx, e1, lies_own Bx _ _ () X Y row e2 hg (fun r e => (hr r e).2), e3⟩)
    ?assign ?body ?done ?stop
  case assign =>
    rintro l pre x W K ⟨bS1, hBW⟩ hK
    gi_wp2
    exact hK _ _ ((KeepsOthers.alloc _ _).from _) ((Below.refl _ W).alloc hBW.size _) ⟨bS1.alloc _, hBW.alloc hBW.size _⟩ ⟨W.heap.size, bS1.lt, Lies.new W _ _, rfl⟩
  case body =>
    rintro l pre x a' W hl ⟨r, hr⟩ ⟨bS1, hBW⟩ ⟨Bx, hBx, bX, rfl⟩ hlt
    have cS := bS1.cell
    have fS := bS1.frozen
    obtain ⟨q0, q1, q2, q3, q4, q5⟩ := bX.pk
    simp only [Nat.zero_add] at q1 q2 q3 q4 q5
    obtain ⟨s1, s2⟩ := sumL_bd f HS.out pre
    obtain ⟨s3, s4⟩ := HS.out x.1 x.2
    clear hsz
    gi_wp2
    exact ⟨(KeepsOthers.setCell _ _ _).from _, (Below.refl _ W).setCell (p := ⟨w.heap.size, 0, none⟩) (Nat.le_refl _) _, by rw [sumL_snoc]; exact bS1.set _, hBW.setCell (p := ⟨w.heap.size, 0, none⟩) (Nat.le_refl _) _⟩
  case done =>
    rintro D zs W hD hz ⟨bS1, hBW⟩ hK
    have cS := bS1.cell
    gi_wp2
    refine ⟨by simp, .inl ⟨_, _, rfl, run_takeDeferred hK, ?_⟩⟩
    exact ⟨_, results_tmp rfl _ _ _, by rw [← sumL_all f zs hz]; rfl, hBW.trans (belowK_b (w := w) (Nat.le_refl _) W D _ _ (by omega) hK rfl rfl)⟩
  case stop =>
    rintro D c pre W _ _ h _
    exact h.elim

theorem ibytes_any (a : Option Addr) (n c : Nat) (f : Nat → Pk) (lim : Int) (w : World) (hn : n ≤ 1048576) (hnc : n ≤ c) (hP : PR w.heap.size w a n f) :
    Calls Try.prog 11 #[.agg #[.slice a n c, .int .i64 lim]] w fun e w' => e = .returned (.int .i64 (bytesF f n lim)) ∧ Below w.heap.size w w' := by
  have HP : Hid (PR w.heap.size w a n f) := hP
  clear hP
  have B0 : Below w.heap.size w (w.alloc (fiObj a n c lim)) := (Below.refl _ _).alloc (Nat.le_refl _) _
  have hlie : (w.alloc (fiObj a n c lim)).heap[w.heap.size]? = some (fiObj a n c lim) := World.alloc_heap_new w _
  have H0 : Hid (PR (w.alloc (fiObj a n c lim)).heap.size (w.alloc (fiObj a n c lim)) a n f) := (PR.below HP.out B0).mono B0.size
  cases hf : fifoB f n lim
  case false =>
    have HE : Hid (0 = bytesF f n lim) := by show _ = _; unfold bytesF; rw [if_neg (by rw [hf]; simp)]
    go_enter Try.func11, Try.ntmps11
    go_wp2_with (go_at_call 10; refine (ififoOk_any a n c f lim _ hn hnc H0.out).mono ?_; rintro e w1 ⟨rfl, hb⟩; rw [hf])
    go_ret
    exact ⟨ret_int HE.out, B0.trans (hb.mono B0.size)⟩
  case true =>
    have HE : Hid (sumF f n = bytesF f n lim) := by show _ = _; unfold bytesF; rw [if_pos hf]
    obtain ⟨l1, l2, l3, hl⟩ := fifo_nums hf
    have hsz : ∀ j, j < n → 1 ≤ (f j).size ∧ (f j).size ≤ 2000 := fun j hj => (good_nums (hl j hj).1).2.2.2.2.1
    have HS : Hid (∀ j, j < n → 1 ≤ (f j).size ∧ (f j).size ≤ 2000) := hsz
    clear hsz hl
    go_enter Try.func11, Try.ntmps11
    go_wp2_with (first | (go_at_call 10; refine (ififoOk_any a n c f lim _ hn hnc H0.out).mono ?_; rintro e w1 ⟨rfl, hb⟩; rw [hf]; obtain ⟨x0, x1⟩ := fi_cells ((hb.block w.heap.size (by simp)).trans hlie)) | (go_at_call 24; refine (ibytesOf_any a n c f _ hn ((PR.below HP.out (B0.trans (hb.mono B0.size))).mono (Nat.le_trans B0.size hb.size)) HS.out).mono ?_; rintro e w2 ⟨rfl, hb2⟩))
    go_ret
    have B1 := B0.trans (hb.mono B0.size)
    exact ⟨ret_int HE.out, B1.trans (hb2.mono B1.size)⟩

end Go.Proofs.Ytkmiijgoinpndaa
