/-
  THE NUMBERS OF THOSE OF ONE FLOW: OfFlow OF BOTH SIDES.
-/
import Derived.Test.YtjojodgjddlkhabPkMark
import Derived.Maps.AppendAt
import Derived.Deep.Onto
import Derived.Laws.OwnMore
namespace Go.Proofs.Ytjojodgjddlkhab
open Go.RowKit Go.Shelf
set_option linter.unusedVariables false
attribute [local go_sem] Oper.semAt_some

theorem infoInt : (Try.prog.info? 3).map (fun i => (i.zero, i.size, i.bytes)) = some (some (.int .i64 0), 1, 8) := by kernel_rfl

def ofF (f : Nat → Pk) (flow : Int) (n : Nat) : List Int := ((List.range n).filter fun j => decide ((f j).flow = flow)).map fun j => (f j).id
theorem ofF_hit (f : Nat → Pk) (flow : Int) (n : Nat) (h : (f n).flow = flow) : ofF f flow (n + 1) = ofF f flow n ++ [(f n).id] := by
  unfold ofF; rw [List.range_succ, List.filter_append]; simp [h]
theorem ofF_miss (f : Nat → Pk) (flow : Int) (n : Nat) (h : ¬ (f n).flow = flow) : ofF f flow (n + 1) = ofF f flow n := by
  unfold ofF; rw [List.range_succ, List.filter_append]; simp [h]
theorem ofF_len (f : Nat → Pk) (flow : Int) (n : Nat) : (ofF f flow n).length ≤ n := by
  unfold ofF; rw [List.length_map]; exact Nat.le_trans (List.length_filter_le _ _) (by simp)
def hitL {len : Nat} (f : Nat → Pk) (flow : Int) (pre : List (Upto len)) : List Int := (pre.filter fun x => decide ((f x.1).flow = flow)).map fun x => (f x.1).id
theorem hitL_hit {len : Nat} (f : Nat → Pk) (flow : Int) (pre : List (Upto len)) (x : Upto len) (h : (f x.1).flow = flow) : hitL f flow (pre ++ [x]) = hitL f flow pre ++ [(f x.1).id] := by
  unfold hitL; rw [List.filter_append]; simp [h]
theorem hitL_miss {len : Nat} (f : Nat → Pk) (flow : Int) (pre : List (Upto len)) (x : Upto len) (h : ¬ (f x.1).flow = flow) : hitL f flow (pre ++ [x]) = hitL f flow pre := by
  unfold hitL; rw [List.filter_append]; simp [h]
theorem hitL_len {len : Nat} (f : Nat → Pk) (flow : Int) (pre : List (Upto len)) : (hitL f flow pre).length ≤ pre.length := by
  unfold hitL; rw [List.length_map]; exact List.length_filter_le _ _
theorem hitL_all {len : Nat} (f : Nat → Pk) (flow : Int) (zs : List (Upto len)) (h : zs.map (·.1) = List.range len) : hitL f flow zs = ofF f flow len := by
  unfold hitL ofF; rw [← h, List.filter_map, List.map_map]; rfl
def ofR (f : Nat → Pk) (n : Nat) (lim flow : Int) : List Int := if fifoB f n lim then ofF f flow n else []

/-- Numbers that are one's own. -/
def OI (base : Nat) (w : World) (x : Option Addr) (cap : Nat) (l : List Int) : Prop := w.ownsRow base 3 1 (.slice x l.length cap) l.length (l.map (Value.int .i64))
theorem oi_of {base : Nat} {w : World} {v : Value} {l : List Int} (h : w.ownsRow base 3 1 v l.length (l.map (Value.int .i64))) : ∃ x cap, v = .slice x l.length cap ∧ OI base w x cap l := by
  rcases h.2 with ⟨hv, h0⟩ | ⟨g, cap, cur, hv, _⟩
  · refine ⟨none, 0, by rw [h0]; exact hv, ?_⟩
    unfold OI
    rw [h0, ← hv]
    exact h0 ▸ h
  · exact ⟨some ⟨g, 0, none⟩, cap, hv, by unfold OI; rw [← hv]; exact h⟩
theorem OI.zi {base : Nat} {w : World} {x : Option Addr} {cap : Nat} {l : List Int} (h : OI base w x cap l) : ZI base w.heap.size w x l.length (fun i => l.getD i 0) := by
  obtain ⟨hl, ⟨hv, h0⟩ | ⟨g, cp, cur, hv, hb, hh, h1, h2, h3, h4⟩⟩ := h
  · exact .inl h0
  · simp only [Value.slice.injEq] at hv
    obtain ⟨rfl, _, rfl⟩ := hv
    have h' : w.ownsRow base 3 1 (.slice (some ⟨g, 0, none⟩) l.length cap) l.length (l.map (Value.int .i64)) := ⟨hl, .inr ⟨g, cap, cur, rfl, hb, hh, h1, h2, h3, h4⟩⟩
    refine .inr ⟨g, rfl, hb, (Array.getElem?_eq_some_iff.1 hh).1, (Array.getElem?_eq_some_iff.1 hh).1, fun i hi => ⟨?_, h'.frozenAt i⟩⟩
    rw [h'.cellAt i (by omega)]
    simp [hi]

set_option maxRecDepth 100000 in
set_option maxHeartbeats 4000000 in
theorem iofFlow_any (a : Option Addr) (n c : Nat) (f : Nat → Pk) (lim flow : Int) (w : World) (hn : n ≤ 1048576) (hnc : n ≤ c) (hP : PR w.heap.size w a n f) :
    Calls Try.prog 31 #[fiVal a n c lim, .int .i64 flow] w fun e w' => ∃ (x : Option Addr) (cap : Nat), e = .returned (.slice x (ofR f n lim flow).length cap) ∧ OI w.heap.size w' x cap (ofR f n lim flow) ∧ Below w.heap.size w w' := by
  have HP : Hid (PR w.heap.size w a n f) := hP
  clear hP
  simp only [fiVal]
  obtain ⟨W0, hW0⟩ : ∃ W0, (w.alloc (.cells #[.slice a n c, .int .i64 lim] 47)).alloc (.cells #[.int .i64 flow] 3) = W0 := ⟨_, rfl⟩
  have B0 : Below w.heap.size w W0 := by rw [← hW0]; exact ((Below.refl _ w).alloc (Nat.le_refl _) _).alloc (by simp) _
  have lF : Lies W0 w.heap.size #[.slice a n c, .int .i64 lim] 47 := by rw [← hW0]; exact (Lies.new _ _ _).alloc _
  have lL : Boxed W0 (w.heap.size + 1) 3 (.int .i64 flow) := by rw [← hW0]; have := Boxed.new (w.alloc (.cells #[.slice a n c, .int .i64 lim] 47)) 3 (.int .i64 flow); simpa using this
  have H0 : Hid (PR W0.heap.size W0 a n f) := (PR.below HP.out B0).mono B0.size
  obtain ⟨xf0, xf1⟩ := fi2_cells lF
  refine (callsIn_wide (n := 6)).1 ?_
  have hro : Fence.wide.round = none := rfl
  cases hf : fifoB f n lim
  case false =>
    have hR : ofR f n lim flow = [] := by unfold ofR; rw [hf]; rfl
    rw [hR]
    refine callsIn_of_wp_marks Try.func31 rfl trivial ?_ hro
    simp only [Try.ntmps31, List.size_toArray, List.length_cons, List.length_nil, Nat.reduceAdd, Nat.reduceSub, Array.replicate_succ, Array.replicate_zero, List.push_toArray, List.append_toArray, List.nil_append, List.cons_append]
    gi_wp2_with (refine ⟨trivial, ?_⟩; gi_at_call 26; refine (callsIn_wide.2 (ififoOk_any a n c f lim _ hn hnc H0.out)).mono ?_; rintro e w1 ⟨rfl, hb⟩; rw [hf])
    exact ⟨_, results_tmp rfl _ _ _, none, 0, rfl, World.ownsRow_nil _ _ _ _, B0.trans (hb.mono B0.size)⟩
  case true =>
    have hR : ofR f n lim flow = ofF f flow n := by unfold ofR; rw [hf]; rfl
    rw [hR]
    obtain ⟨i0, hi, hz0, hz1, hz2⟩ := info_parts infoInt
    refine callsIn_of_wp_marks Try.func31 rfl trivial ?_ hro
    simp only [Try.ntmps31, List.size_toArray, List.length_cons, List.length_nil, Nat.reduceAdd, Nat.reduceSub, Array.replicate_succ, Array.replicate_zero, List.push_toArray, List.append_toArray, List.nil_append, List.cons_append]
    gi_wp2_with (refine ⟨trivial, ?_⟩; first | (gi_at_call 26; refine (callsIn_wide.2 (ififoOk_any a n c f lim _ hn hnc H0.out)).mono ?_; rintro e w1 ⟨rfl, hb⟩; rw [hf]; obtain ⟨x0, x1⟩ := fi2_cells (lF.below hb lF.lt); have hB1 := B0.trans (hb.mono B0.size); have lL1 := boxed_below lL hb lL.lt; have hls : w.heap.size < w1.heap.size := (lF.below hb lF.lt).lt) | (gi_at_call 65; refine (told_in 5 _ _ _ _).mono ?_; rintro e w' ⟨rfl, rfl⟩))
    have bO := (Boxed.new w1 63 (.slice none 0 0)).alloc (.cells #[.slice a n c] 45)
    have bN := Boxed.new (w1.alloc (.cells #[.slice none 0 0] 63)) 45 (.slice a n c)
    simp only [World.size_alloc] at bN
    have hB0 : Below w1.heap.size w1 ((w1.alloc (.cells #[.slice none 0 0] 63)).alloc (.cells #[.slice a n c] 45)) := ((Below.refl _ w1).alloc (Nat.le_refl _) _).alloc (by simp) _
    have hsz : ((w1.alloc (.cells #[.slice none 0 0] 63)).alloc (.cells #[.slice a n c] 45)).heap.size = w1.heap.size + 2 := by simp
    have hP1 : PR w1.heap.size w1 a n f := (PR.below HP.out hB1).mono hB1.size
    obtain ⟨Wr, hWr⟩ : ∃ Wr, (w1.alloc (.cells #[.slice none 0 0] 63)).alloc (.cells #[.slice a n c] 45) = Wr := ⟨_, rfl⟩
    rw [hWr] at bO bN hB0 hsz ⊢
    clear hWr
    have hlL : w.heap.size + 1 < w1.heap.size := lL1.lt
    refine wpIn_rangeFunc_ownH hro (by omega) (gf := 76) (lb := #[.pointer (some ⟨w1.heap.size + 1, 0, none⟩)]) rfl trivial (enters_of Try.func76 (by kernel_rfl) rfl)
      (told_stops 5 (by omega) (w1.heap.size + 1) w1.heap.size n c a f hn Wr (by omega) (by omega) bN.cell (hP1.below hB0)) belowK_t (belowK_b (by omega)) (Below.refl _ _) (fun _ => rfl)
      (fun pre W => (∃ v, Boxed W w1.heap.size 63 v ∧ W.ownsRow w1.heap.size 3 1 v (hitL f flow pre).length ((hitL f flow pre).map (Value.int .i64)) ∧ True) ∧ Below w1.heap.size w1 W)
      (fun _ _ _ => False)
      (OwnFrom.and (Own.from (holdsRow_own w1.heap.size w1.heap.size 63 3 1 (fun pre => (hitL f flow pre).length) (fun pre => (hitL f flow pre).map (Value.int .i64)) (fun _ _ => True)) _) (ownFrom_below (Nat.le_refl _) (by omega)))
      (fun c => ownFrom_pure _ _)
      ⟨⟨_, bO, World.ownsRow_nil _ _ _ _, trivial⟩, hB0⟩
      (fun x a' W => ∃ Bx, w1.heap.size < Bx ∧ Lies W Bx (pkCells (f x.1)) 49 ∧ a' = { tmps := #[.agg #[.slice a n c, .int .i64 lim], .int .i64 flow, .pointer (some ⟨w.heap.size, 0, none⟩), .pointer (some ⟨w.heap.size + 1, 0, none⟩), .slice none 0 0, .pointer (some ⟨w1.heap.size, 0, none⟩), undef, .pointer (some ⟨Bx, 0, none⟩), .agg #[.slice a n c, .int .i64 lim], .bool true, .bool false, .pointer (some ⟨w.heap.size, 0, none⟩), .slice a n c, .func (.func 76) #[] #[.pointer (some ⟨w1.heap.size + 1, 0, none⟩)], .int .i64 (x.1 : Int), (f x.1).val, undef, undef, undef, undef, undef, undef, undef, undef, undef, undef], defers := [] })
      (fun x a' _ X Y row hs hg hr => by obtain ⟨Bx, e1, e2, e3⟩ := hs; exact ⟨Bx, e1, lies_own Bx _ _ () X Y row e2 hg (fun r e => (hr r e).2), e3⟩)
      ?assign ?body ?done ?stop
    case assign =>
      rintro l pre x W K ⟨⟨v, hv, hrow, _⟩, hBW⟩ hK
      gi_wp2
      exact hK _ _ ((KeepsOthers.alloc _ _).from _) ((Below.refl _ W).alloc hBW.size _) ⟨⟨v, hv.alloc _, hrow.alloc _, trivial⟩, hBW.alloc hBW.size _⟩ ⟨W.heap.size, hv.lt, Lies.new W _ _, rfl⟩
    case body =>
      rintro l pre x a' W hl ⟨r, hr⟩ ⟨⟨v, hv, hrow, _⟩, hBW⟩ ⟨Bx, hBx, bX, rfl⟩ hlt
      have hc := hv.cell
      have hpl := hitL_len f flow pre
      obtain ⟨q0, q1, q2, q3, q4, q5⟩ := bX.pk
      simp only [Nat.zero_add] at q1 q2 q3 q4 q5
      have hw2 := (boxed_below lL1 hBW hlL).cell
      clear hsz
      by_cases hfl : (f x.1).flow = flow
      · have hfl' : ((f x.1).flow == flow) = true := by simpa using hfl
        gi_wp2_with (gi_at_builtin; refine wpListIn_append_own _ rfl _ _ 63 rfl w1.heap.size 3 i0 (.int .i64 0) 1 8 Try.underlying63 hi hz0 hz1 hz2 rfl (by decide) _ _ _ rfl (hrow.alloc _) ⟨W.heap.size, 0, none⟩ 1 1 [.int .i64 (f x.1).id] rfl rfl (cell_one_new _ _ _) (by simp [Value.oneCell']) (by unfold maxLen; omega) (by omega) (by have := hBW.size; simp; omega) ?_; intro v' w2 hown' hgrow _; obtain ⟨g', cap', rfl⟩ := ownsRow_succ hown'; obtain ⟨hv1, hv2, hr2, hk2, hb2⟩ := hv.appended (by decide) hrow hBW.size (Nat.le_refl _) hown' hgrow; have hc1 := hv1.cell; have hf1 := hv1.frozen)
        exact ⟨hk2.from _, hb2, ⟨_, hv2, by rw [hitL_hit f flow pre x hfl]; simpa using hr2, trivial⟩, hBW.trans hb2⟩
      · have hfl' : ((f x.1).flow == flow) = false := by simpa using hfl
        gi_wp2
        exact ⟨KeepsFrom.refl _ _, Below.refl _ _, ⟨v, hv, by rw [hitL_miss f flow pre x hfl]; exact hrow, trivial⟩, hBW⟩
    case done =>
      rintro D zs W hD hz ⟨⟨v, hv, hrow, _⟩, hBW⟩ hK
      have hc := hv.cell
      gi_wp2
      refine ⟨by simp, .inl ⟨_, _, rfl, run_takeDeferred hK, ?_⟩⟩
      have hBB : Below w.heap.size w W := hB1.trans (hBW.mono hB1.size)
      rw [hitL_all f flow zs hz] at hrow
      obtain ⟨x, cap, rfl, hoi⟩ := oi_of (ownsRow_putObj hrow (.deferred none) hK rfl)
      exact ⟨_, results_tmp rfl _ _ _, x, cap, rfl, World.ownsRow.mono hoi hB1.size, hBB.trans (belowK_b (w := w) (Nat.le_refl _) W D _ _ (by omega) hK rfl rfl)⟩
    case stop =>
      rintro D c pre W _ _ h _
      exact h.elim

end Go.Proofs.Ytjojodgjddlkhab
