/-
  A TRACE'S TEXT, OF THE PROGRAM: two ranges over told, a region that draws within the first one's body.
-/
import Derived.Test.YtcfkmkkgeoaaeaaDoorTextT
import Derived.Test.YtcfkmkkgeoaaeaaDoorWithI
import Derived.Test.YtcfkmkkgeoaaeaaDoorTraceI
import Derived.Test.YtcfkmkkgeoaaeaaDoorMarks
import Derived.Test.YtcfkmkkgeoaaeaaDoorRegInv
import Derived.OrdersHeld
namespace Go.Proofs.YtcfkmkkgeoaaeaaDoor
open Go.RowKit Go.Shelf
set_option linter.unusedVariables false
attribute [local go_sem] Oper.semAt_some

def LO (T : Tr) (pre : List (Upto T.no)) : List Int := wdTrace ++ [10] ++ pre.flatMap fun x => lnL wdOut (T.o x.1).id (T.t x.1) (T.o x.1).ecn
def LD (T : Tr) (pre : List (Upto T.nd)) : List Int := wdTrace ++ [10] ++ outsL T T.no ++ pre.flatMap fun x => lnL wdDrop (T.d x.1).id (T.d x.1).tm (T.d x.1).ecn
theorem LO_snoc (T : Tr) (pre : List (Upto T.no)) (x : Upto T.no) : LO T (pre ++ [x]) = LO T pre ++ lnL wdOut (T.o x.1).id (T.t x.1) (T.o x.1).ecn := by simp [LO]
theorem LD_snoc (T : Tr) (pre : List (Upto T.nd)) (x : Upto T.nd) : LD T (pre ++ [x]) = LD T pre ++ lnL wdDrop (T.d x.1).id (T.d x.1).tm (T.d x.1).ecn := by simp [LD]
theorem flat_map_fst {n : Nat} (f : Nat → List Int) (zs : List (Upto n)) : (zs.flatMap fun x => f x.1) = (zs.map (·.1)).flatMap f := by
  induction zs with
  | nil => rfl
  | cons z zs ih => simp [ih]
theorem LO_all (T : Tr) (zs : List (Upto T.no)) (h : zs.map (·.1) = List.range T.no) : LO T zs = wdTrace ++ [10] ++ outsL T T.no := by
  unfold LO outsL
  rw [flat_map_fst (fun j => lnL wdOut (T.o j).id (T.t j) (T.o j).ecn), h]
theorem LD_all (T : Tr) (zs : List (Upto T.nd)) (h : zs.map (·.1) = List.range T.nd) : LD T zs = txF T := by
  unfold LD txF dropsL
  rw [flat_map_fst (fun j => lnL wdDrop (T.d j).id (T.d j).tm (T.d j).ecn), h]
theorem flat_len {n : Nat} (f : Nat → List Int) (c : Nat) (zs : List (Upto n)) (h : ∀ j, j < n → (f j).length ≤ c) : (zs.flatMap fun x => f x.1).length ≤ c * zs.length := by
  induction zs with
  | nil => simp
  | cons z zs ih =>
    have := h z.1 z.2
    simp only [List.flatMap_cons, List.length_append, List.length_cons, Nat.mul_add]
    omega
theorem LO_len {T : Tr} (h : trP T) (pre : List (Upto T.no)) : (LO T pre).length ≤ 6 + 70 * pre.length := by
  have hb := flat_len (fun j => lnL wdOut (T.o j).id (T.t j) (T.o j).ecn) 70 pre (fun j hj => by
    obtain ⟨g, t1, t2⟩ := h.2.2.2.1 j hj
    obtain ⟨b1, b2, b3⟩ := good_bds g
    have h2 := lnL_len (wd := wdOut) (a := (T.o j).id) (t := T.t j) (e := (T.o j).ecn) (by decide) (by omega) (by omega) (by omega)
    omega)
  simp only [LO, List.length_append, wdTrace, List.length_cons, List.length_nil]
  omega
theorem LD_len {T : Tr} (h : trP T) (pre : List (Upto T.nd)) : (LD T pre).length ≤ 6 + 70 * T.no + 70 * pre.length := by
  have ho := outs_len h T.no (Nat.le_refl _)
  have hb := flat_len (fun j => lnL wdDrop (T.d j).id (T.d j).tm (T.d j).ecn) 70 pre (fun j hj => by
    obtain ⟨b1, b2, b3⟩ := good_bds (h.2.2.2.2 j hj)
    have h2 := lnL_len (wd := wdDrop) (a := (T.d j).id) (t := (T.d j).tm) (e := (T.d j).ecn) (by decide) (by omega) (by omega) (by omega)
    omega)
  simp only [LD, List.length_append, wdTrace, List.length_cons, List.length_nil]
  omega
theorem str_trace : strL ⟨#[116, 114, 97, 99, 101]⟩ = wdTrace := rfl
def f3 (a b c : Int) : Nat → Int := fun i => if i = 0 then a else if i = 1 then b else c
theorem nums3 (a b c : Int) (l wd : List Int) : l ++ wd ++ numsL (f3 a b c) 3 ++ [10] = l ++ lnL wd a b c := by simp [numsL, lnL, f3, List.range_succ]
theorem row3 (w : World) (a b c : Int) (t : TypeId) : Row .i64 (w.alloc (.cells #[.int .i64 a, .int .i64 b, .int .i64 c] t)) (some ⟨w.heap.size, 0, none⟩) 3 (f3 a b c) := by
  refine .inr ⟨w.heap.size, 0, rfl, by simp, fun i hi => ?_⟩
  rcases (by omega : i = 0 ∨ i = 1 ∨ i = 2) with rfl | rfl | rfl <;> simp [go_sem, f3]

theorem OB.drw {base : Nat} {w : World} {x : Option Addr} {cap : Nat} {l : List Int} (h : OB base w x cap l) : OB base w.drew x cap l := BO.drew h
theorem row_drw {w : World} {a : Option Addr} {n : Nat} {f : Nat → Int} (h : Row .i64 w a n f) : Row .i64 w.drew a n f := h
theorem size_alloc_le {b : Nat} {w : World} {o : Obj} (h : b ≤ w.heap.size) : b ≤ (w.alloc o).heap.size := by rw [World.size_alloc]; omega
theorem OB.alc {base : Nat} {w : World} {x : Option Addr} {cap : Nat} {l : List Int} (h : OB base w x cap l) (o : Obj) : OB base (w.alloc o) x cap l := BO.alloc h o
theorem OB.row {base : Nat} {w : World} {x : Option Addr} {cap : Nat} {l : List Int} (h : OB base w x cap l) : w.ownsRow base 5 1 (.slice x l.length cap) l.length (l.map (Value.int .u8)) := by
  unfold OB BO at h
  rwa [byL_list] at h
theorem own_block {w : World} {base : Nat} {e : TypeId} {size : Nat} {v : Value} {k : Nat} {xs : List Value} (h : w.ownsRow base e size v k xs) {g : Nat} (hg : v.ownBlock = some g) : ∃ cs, w.heap[g]? = some (.cells cs e) := by
  rcases h.2 with ⟨rfl, _⟩ | ⟨g', cap, cur, rfl, _, hh, _⟩
  · simp [Value.ownBlock] at hg
  · obtain rfl : g' = g := by simpa [Value.ownBlock] using hg
    exact ⟨_, hh⟩
theorem own_ne {w : World} {base : Nat} {e t : TypeId} {size : Nat} {v : Value} {k : Nat} {xs : List Value} (h : w.ownsRow base e size v k xs) {g : Nat} {cs : Array Value} (hg : w.heap[g]? = some (.cells cs t)) (hte : t ≠ e) : v.ownBlock ≠ some g := fun he => by
  obtain ⟨cs', h'⟩ := own_block h he
  rw [hg] at h'
  simp only [Option.some.injEq, Obj.cells.injEq] at h'
  exact hte h'.2.1
theorem own_nd {w : World} {base : Nat} {e : TypeId} {size : Nat} {v : Value} {k : Nat} {xs : List Value} (h : w.ownsRow base e size v k xs) {g : Nat} {z} (hg : w.heap[g]? = some (.deferred z)) : v.ownBlock ≠ some g := fun he => by
  obtain ⟨cs', h'⟩ := own_block h he
  rw [hg] at h'
  cases h'
theorem ownFrom_at {β : Type} {B D : Nat} (o : Obj) (h : D < B) : OwnFrom B (fun (_ : β) X => X.heap[D]? = some o) := fun s X Y row hs hg hr =>
  (hg.block D (Array.getElem?_eq_some_iff.1 hs).1 (fun e => by have := (hr D e.symm).1; omega)).trans hs
theorem leaves_row {fn : Func} {tmps : Array Value} {R : Ending → World → Prop} {B : Nat} {base : Nat} {e : TypeId} {size : Nat} {v : Value} {k : Nat} {xs : List Value} (n : Nat) : ∀ (Ds : List Nat) (w : World), (∀ D ∈ Ds, w.heap[D]? = some (.deferred (some []))) → Ds.Nodup → (∀ D ∈ Ds, B ≤ D) → w.ownsRow base e size v k xs →
    (∀ w', Below B w w' → w'.ownsRow base e size v k xs → LeavesInM Fence.wide n Tryd.prog fn tmps R [] .returning w') → LeavesInM Fence.wide n Tryd.prog fn tmps R (Ds.map mrk) .returning w
  | [], w, _, _, _, ho, h => h w (Below.refl _ _) ho
  | D :: Ds, w, h1, h2, h3, ho, h => by
    have hl := (Array.getElem?_eq_some_iff.1 (h1 D (by simp))).1
    have h3' := h3 D (by simp)
    have hb : Below B w (w.putObj D (.deferred none)) := (Below.refl B w).grown (grownBy_putObj' w D _) (by omega) (fun k e => by cases e; exact h3')
    refine ⟨by simp, .inl ⟨D, _, rfl, run_takeDeferred (h1 D (by simp)), ?_⟩⟩
    refine leaves_row n Ds _ (fun E hE => ?_) (List.nodup_cons.1 h2).2 (fun E hE => h3 E (by simp [hE])) (ownsRow_putObj ho (.deferred none) (h1 D (by simp)) rfl) (fun w' hw' => h w' (hb.trans hw'))
    rw [putObj_ne _ _ _ _ (fun e => (List.nodup_cons.1 h2).1 (by rw [← e]; exact hE))]
    exact h1 E (by simp [hE])

set_option maxRecDepth 100000 in
set_option maxHeartbeats 8000000 in
theorem itraceText_any (T : Tr) (A : Ta) (w : World) (hA : TrAt w T A) (hno : T.no ≤ 1048576) (hnd : T.nd ≤ 1048576) (hT : Lib.TabIs Tryd.prog w "internal/strconv.uint64pow10" .u64 Lib.pow10Tab) :
    Calls Tryd.prog 7 #[T.val A] w fun e w' => ∃ (x : Option Addr) (cap : Nat), e = .returned (.slice x (txR T).length cap) ∧ OB w.heap.size w' x cap (txR T) ∧ Below w.heap.size w w' := by
  have HA : Hid (∀ V, Below w.heap.size w V → TrAt V T A) := fun V h => hA.below h
  have HNO : Hid (T.no ≤ 1048576) := hno
  have HND : Hid (T.nd ≤ 1048576) := hnd
  have HTB : Hid (Lib.TabBelow Tryd.prog w.heap.size w "internal/strconv.uint64pow10" .u64 Lib.pow10Tab) := Lib.tabBelow_of_tabIs hT
  clear hA hno hnd hT
  have HB0 : Hid (Below w.heap.size w (w.alloc (.cells (trCells T A) 31))) := (Below.refl _ w).alloc (Nat.le_refl _) _
  have HS0 : Hid (Sits (w.alloc (.cells (trCells T A) 31)) w.heap.size (trCells T A) 31) := Sits.new w _ _
  refine (callsIn_wide (n := 6)).1 ?_
  have hro : Fence.wide.round = none := rfl
  refine callsIn_of_wp_marks Tryd.func7 rfl trivial ?_ hro
  simp only [Tryd.ntmps7, List.size_toArray, List.length_cons, List.length_nil, Nat.reduceAdd, Nat.reduceSub, Array.replicate_succ, Array.replicate_zero, List.push_toArray, List.append_toArray, List.nil_append, List.cons_append]
  cases hb : trB T
  case false =>
    have hE : txR T = [] := by unfold txR; rw [hb]; rfl
    rw [hE]
    have HG : Hid (trB T = false) := hb
    clear hb hE
    gi_wp2_with (refine ⟨trivial, ?_⟩; gi_at_call 19; refine (callsIn_wide.2 (itraceOk_any T A _ ((HA.out) _ HB0.out) HNO.out HND.out)).mono ?_; rintro e w1 ⟨rfl, b1⟩; rw [HG.out])
    exact ⟨_, results_tmp rfl _ _ _, none, 0, rfl, OB.nil _ _, (HB0.out).trans (b1.mono (HB0.out).size)⟩
  case true =>
    have hE : txR T = txF T := by unfold txR; rw [hb]; rfl
    rw [hE]
    have HG : Hid (trB T = true) := hb
    have htp : trP T := of_decide_eq_true hb
    have HTP : Hid (trP T) := htp
    clear hb hE htp
    gi_wp2_with (refine ⟨trivial, ?_⟩; first | (gi_at_call 19; refine (callsIn_wide.2 (itraceOk_any T A _ ((HA.out) _ HB0.out) HNO.out HND.out)).mono ?_; rintro e w1 ⟨rfl, b1⟩; rw [HG.out]; have t1 := Sits.below HS0.out b1 (Sits.lt HS0.out); have hl1 := t1.lt; have B1 : Below w.heap.size w w1 := (HB0.out).trans (b1.mono (HB0.out).size)) | (gi_at_call 20; refine (callsIn_wide.2 (iwithLine_any ⟨#[116, 114, 97, 99, 101]⟩ (by decide) (w.heap.size + 1) none 0 [] 0 rfl none 0 0 (fun _ => 0) w1 (OB.nil _ _) (.inl rfl) (by omega) (fun j hj => absurd hj (Nat.not_lt_zero _)) (by omega) hl1 (fun b off e => by cases e) (fun U h => HTB.out U (B1.trans (h.mono (Nat.le_succ _)))))).mono ?_; rintro e w2 ⟨x2, c2, N2, rfl, hN2, ho2, hg2⟩; have t2 := Sits.below t1 (hg2.kept (base := w1.heap.size) (fun k e => by simp [Value.ownBlock] at e) (Nat.le_refl _)) hl1; have b12 : Below w1.heap.size w1 w2 := hg2.kept (fun k e => by simp [Value.ownBlock] at e) (Nat.le_refl _); have hl2 := t2.lt; obtain ⟨x0, x1, x2', x3, x4, x5⟩ := tr_cells t2) | (gi_at_call 21; refine (told_in 5 _ _ _ _).mono ?_; rintro e w' ⟨rfl, rfl⟩))
    have B2 : Below w.heap.size w w2 := B1.trans (b12.mono B1.size)
    obtain ⟨V0, hV0⟩ : ∃ V, (w2.alloc (.cells #[.slice x2 N2 c2] 27)).alloc (.cells #[.slice A.o T.no A.co] 29) = V := ⟨_, rfl⟩
    have hzV : V0.heap.size = w2.heap.size + 1 + 1 := by rw [← hV0]; simp
    have b2V : Below w2.heap.size w2 V0 := by rw [← hV0]; exact ((Below.refl _ w2).alloc (Nat.le_refl _) _).alloc (by simp) _
    have bV : Below w.heap.size w V0 := B2.trans (b2V.mono B2.size)
    have vS : Boxed V0 w2.heap.size 27 (.slice x2 N2 c2) := by rw [← hV0]; exact (Boxed.new w2 27 _).alloc _
    have vN : Boxed V0 (w2.heap.size + 1) 29 (.slice A.o T.no A.co) := by rw [← hV0]; have := Boxed.new (w2.alloc (.cells #[.slice x2 N2 c2] 27)) 29 (.slice A.o T.no A.co); simpa using this
    have hP1 : PR (w.heap.size + 1) V0 A.o T.no T.o := (((HA.out) w (Below.refl _ _)).o.below bV).mono (Nat.le_succ _)
    have hP2 : PR (w.heap.size + 1) V0 A.d T.nd T.d := (((HA.out) w (Below.refl _ _)).d.below bV).mono (Nat.le_succ _)
    have hR1 : Row .i64 w A.t T.nt T.t := ((HA.out) w (Below.refl _ _)).t
    have tV : Sits V0 w.heap.size (trCells T A) 31 := t2.below b2V hl2
    have hL0 : LO T [] = [] ++ strL ⟨#[116, 114, 97, 99, 101]⟩ ++ numsL (fun _ => 0) 0 ++ [10] := by simp [LO, str_trace, numsL]
    have vO : V0.ownsRow (w.heap.size + 1) 5 1 (.slice x2 N2 c2) (LO T []).length ((LO T []).map (Value.int .u8)) := by
      rw [← hL0] at ho2 hN2
      have := (ho2.below b2V).row
      rw [hN2] at this
      rw [hN2]
      exact this
    change Code.wpIn _ _ _ _ _ _ ((w2.alloc (.cells #[.slice x2 N2 c2] 27)).alloc (.cells #[.slice A.o T.no A.co] 29))
    rw [hV0]
    clear hV0 x0 x1 x2' x3 x4 x5 HS0 HB0 t1 t2 b1 b12 hL0 ho2 hN2 hg2
    refine wpIn_rangeFunc_ownH hro (by omega) (gf := 32) (lb := #[.pointer (some ⟨w2.heap.size + 1, 0, none⟩)]) rfl trivial (enters_of Tryd.func32 (by kernel_rfl) rfl)
      (told_stops 5 (by omega) (w2.heap.size + 1) (w.heap.size + 1) T.no A.co A.o T.o HNO.out V0 (by omega) (by omega) vN.cell hP1) belowK_t (belowK_b (by omega)) (Below.refl _ _) (fun _ => rfl)
      (fun pre W => (∃ v, Boxed W w2.heap.size 27 v ∧ W.ownsRow (w.heap.size + 1) 5 1 v (LO T pre).length ((LO T pre).map (Value.int .u8)) ∧ True) ∧ Below (w.heap.size + 1) V0 W)
      (fun _ _ _ => False)
      (OwnFrom.and (Own.from (holdsRow_own (w.heap.size + 1) w2.heap.size 27 5 1 (fun pre => (LO T pre).length) (fun pre => (LO T pre).map (Value.int .u8)) (fun _ _ => True)) _) (ownFrom_below (by omega) (by omega)))
      (fun c => ownFrom_pure _ _)
      ⟨⟨_, vS, vO, trivial⟩, Below.refl _ _⟩
      (fun x a' W => ∃ Bx, w.heap.size < Bx ∧ Lies W Bx (pkCells (T.o x.1)) 43 ∧ a' = { tmps := #[T.val A, .pointer (some ⟨w.heap.size, 0, none⟩), .slice none 0 0, .pointer (some ⟨w2.heap.size, 0, none⟩), .int .i64 (x.1 : Int), .pointer (some ⟨Bx, 0, none⟩), undef, undef, T.val A, .bool true, .bool false, .slice x2 N2 c2, .pointer (some ⟨w.heap.size, 1, none⟩), .slice A.o T.no A.co, .func (.func 32) #[] #[.pointer (some ⟨w2.heap.size + 1, 0, none⟩)], .int .i64 (x.1 : Int), (T.o x.1).val, undef, undef, undef, undef, undef, undef, undef, undef, undef, undef, undef, undef, undef, undef, undef, undef, undef, undef, undef, undef, undef, undef, undef, undef, undef, undef, undef], defers := [] })
      (fun x a' _ X Y row hs hg hr => by obtain ⟨Bx, e1, e2, e3⟩ := hs; exact ⟨Bx, e1, lies_own Bx _ _ () X Y row e2 hg (fun r e => (hr r e).2), e3⟩)
      ?assign ?body ?done ?stop
    case assign =>
      rintro l pre x W K ⟨⟨v, hv, hrow, _⟩, hBW⟩ hK
      have hsW := hBW.size
      gi_wp2
      exact hK _ _ ((KeepsOthers.alloc _ _).from _) ((Below.refl _ W).alloc (by omega) _) ⟨⟨v, hv.alloc _, hrow.alloc _, trivial⟩, hBW.alloc (by omega) _⟩ ⟨W.heap.size, by omega, Lies.new W _ _, rfl⟩
    case body =>
      rintro l pre x a' W hl ⟨r, hr⟩ ⟨⟨v, hv, hrow, _⟩, hBW⟩ ⟨Bx, hBx, bX, rfl⟩ hlt
      obtain ⟨k, hk⟩ := x
      dsimp only at bX ⊢
      have hsW := hBW.size
      obtain ⟨y, cy, rfl, hob⟩ := ob_of hrow
      have hpl := LO_len HTP.out pre
      obtain ⟨m, hm⟩ : ∃ m, (LO T pre).length = m := ⟨_, rfl⟩
      rw [hm] at hv hpl hrow
      have HM : Hid ((LO T pre).length = m) := hm
      have HOB : Hid (OB (w.heap.size + 1) W y cy (LO T pre)) := hob
      have HROW : Hid (W.ownsRow (w.heap.size + 1) 5 1 (.slice y m cy) m ((LO T pre).map (Value.int .u8))) := hrow
      have HV : Hid (Boxed W w2.heap.size 27 (.slice y m cy)) := hv
      have HOL : Hid (∀ j, (Value.slice y m cy).ownBlock = some j → w.heap.size + 1 ≤ j ∧ j < W.heap.size) := fun j e => World.ownsRow.lt hrow j e
      have HOX : Hid ((Value.slice y m cy).ownBlock ≠ some Bx) := own_ne hrow bX (by decide)
      have hm1 : m ≤ 1000000 := by have := HNO.out; have := (HTP.out).2.1; omega
      have hc := hv.cell
      have hf := hv.frozen
      have hlv := hv.lt
      have hk2 : k < T.nt := by rw [(HTP.out).1]; exact hk
      have h120 : (T.no : Int) ≤ 120 := by have := (HTP.out).2.1; omega
      obtain ⟨b2, o2, hbe2, hbl2, hcs2⟩ := Row.at hR1 hk2
      have ct : W.cell? ⟨b2, o2 + k, none⟩ = some (.int .i64 (T.t k)) := (hBW.cell (p := ⟨b2, o2 + k, none⟩) (Nat.lt_succ_of_lt hbl2)).trans ((bV.cell (p := ⟨b2, o2 + k, none⟩) hbl2).trans (hcs2 k hk2))
      obtain ⟨x0, x1, x2', x3, x4, x5⟩ := tr_cells (tV.below hBW (Nat.lt_succ_self _))
      rw [hbe2] at x4
      have q0 : W.cell? ⟨Bx, 0, none⟩ = some (.int .i64 (T.o k).id) := by have := bX.pk.1; simpa using this
      have q5 : W.cell? ⟨Bx, 5, none⟩ = some (.int .i64 (T.o k).ecn) := by have := bX.pk.2.2.2.2.2; simpa using this
      have hlX := bX.lt
      obtain ⟨gk, tk1, tk2⟩ := (HTP.out).2.2.2.1 k hk
      obtain ⟨gd1, gd2, gd3⟩ := good_bds gk
      have hf3 : ∀ j, j < 3 → 0 ≤ f3 (T.o k).id (T.t k) (T.o k).ecn j ∧ f3 (T.o k).id (T.t k) (T.o k).ecn j ≤ 9223372036854775807 := fun j hj => by
        rcases (by omega : j = 0 ∨ j = 1 ∨ j = 2) with rfl | rfl | rfl <;> simp [f3] <;> omega
      have HF3 : Hid (∀ j, j < 3 → 0 ≤ f3 (T.o k).id (T.t k) (T.o k).ecn j ∧ f3 (T.o k).id (T.t k) (T.o k).ecn j ≤ 9223372036854775807) := hf3
      have HBW : Hid (Below w.heap.size w W) := bV.trans (hBW.mono (Nat.le_succ _))
      have HSK : Hid (∀ V : World, (∀ j, j < W.heap.size → j ≠ w2.heap.size → ((Value.slice y m cy).ownBlock = some j → False) → V.heap[j]? = W.heap[j]?) → V.cell? ⟨w.heap.size, 4, none⟩ = some (.slice (some ⟨b2, o2, none⟩) T.nt A.ct) ∧ V.cell? ⟨b2, o2 + k, none⟩ = some (.int .i64 (T.t k)) ∧ V.cell? ⟨Bx, 0, none⟩ = some (.int .i64 (T.o k).id) ∧ V.cell? ⟨Bx, 5, none⟩ = some (.int .i64 (T.o k).ecn)) := fun V hV =>
        ⟨(World.cell?_of_block (a := ⟨w.heap.size, 4, none⟩) (hV w.heap.size (by omega) (by omega) (fun e => by have := (HOL.out _ e).1; omega))).trans x4, (World.cell?_of_block (a := ⟨b2, o2 + k, none⟩) (hV b2 (by omega) (by omega) (fun e => by have := (HOL.out _ e).1; omega))).trans ct, (World.cell?_of_block (a := ⟨Bx, 0, none⟩) (hV Bx hlX (fun e => by have h1 : W.heap[Bx]? = _ := bX; rw [e, show W.heap[w2.heap.size]? = _ from hv] at h1; simp only [Option.some.injEq, Obj.cells.injEq] at h1; exact absurd h1.2.1 (by decide)) (fun e => HOX.out e))).trans q0, (World.cell?_of_block (a := ⟨Bx, 5, none⟩) (hV Bx hlX (fun e => by have h1 : W.heap[Bx]? = _ := bX; rw [e, show W.heap[w2.heap.size]? = _ from hv] at h1; simp only [Option.some.injEq, Obj.cells.injEq] at h1; exact absurd h1.2.1 (by decide)) (fun e => HOX.out e))).trans q5⟩
      have HSZ : Hid (w.heap.size + 1 ≤ W.heap.size) := by show _ ≤ _; omega
      have HSZW : Hid (w.heap.size ≤ W.heap.size) := by show _ ≤ _; omega
      clear hm hob hrow gk tk1 tk2 gd1 gd2 gd3 hf3 hcs2 hr
      gi_wp2
      refine wpIn_region_any_round (by kernel_rfl) (by rintro ⟨_, _, hh⟩; exact hh) (by kernel_rfl) (wpAny_of_held (S := fun V => V.cell? ⟨w.heap.size, 4, none⟩ = some (.slice (some ⟨b2, o2, none⟩) T.nt A.ct) ∧ V.cell? ⟨b2, o2 + k, none⟩ = some (.int .i64 (T.t k)) ∧ V.cell? ⟨Bx, 0, none⟩ = some (.int .i64 (T.o k).id) ∧ V.cell? ⟨Bx, 5, none⟩ = some (.int .i64 (T.o k).ecn)) _ _ _ _ ?_)
      change wpAnyH _ _ _ _ _ 13 (Array.replicate 13 false) _ W.drew
      have HS0 : Hid (W.drew.cell? ⟨w.heap.size, 4, none⟩ = some (.slice (some ⟨b2, o2, none⟩) T.nt A.ct) ∧ W.drew.cell? ⟨b2, o2 + k, none⟩ = some (.int .i64 (T.t k)) ∧ W.drew.cell? ⟨Bx, 0, none⟩ = some (.int .i64 (T.o k).id) ∧ W.drew.cell? ⟨Bx, 5, none⟩ = some (.int .i64 (T.o k).ecn)) := HSK.out _ (fun _ _ _ _ => rfl)
      refine wpAnyH_take (i := 1) (v := .pointer (some ⟨Bx, 0, none⟩)) (by rfl) (by kernel_rfl) (by kernel_rfl) (by kernel_rfl) (fun _ _ _ h => h) (.inl ⟨by rfl, ?y1⟩) HS0.out ?_
      case y1 =>
        rintro V ⟨e1, e2, e3, e4⟩
        go_simp
      simp only [Act.put]
      refine wpAnyH_take (i := 2) (v := .int .i64 (T.o k).id) (by rfl) (by kernel_rfl) (by kernel_rfl) (by kernel_rfl) (fun _ _ _ h => h) (.inl ⟨by rfl, ?y2⟩) HS0.out ?_
      case y2 =>
        rintro V ⟨e1, e2, e3, e4⟩
        go_simp
      simp only [Act.put]
      refine wpAnyH_take (i := 3) (v := .pointer (some ⟨w.heap.size, 4, none⟩)) (by rfl) (by kernel_rfl) (by kernel_rfl) (by kernel_rfl) (fun _ _ _ h => h) (.inl ⟨by rfl, ?y3⟩) HS0.out ?_
      case y3 =>
        rintro V ⟨e1, e2, e3, e4⟩
        go_simp
      simp only [Act.put]
      refine wpAnyH_take (i := 4) (v := .slice (some ⟨b2, o2, none⟩) T.nt A.ct) (by rfl) (by kernel_rfl) (by kernel_rfl) (by kernel_rfl) (fun _ _ _ h => h) (.inl ⟨by rfl, ?y4⟩) HS0.out ?_
      case y4 =>
        rintro V ⟨e1, e2, e3, e4⟩
        go_simp
      simp only [Act.put]
      refine wpAnyH_take (i := 5) (v := .int .i64 (k : Int)) (by rfl) (by kernel_rfl) (by kernel_rfl) (by kernel_rfl) (fun _ _ _ h => h) (.inl ⟨by rfl, ?y5⟩) HS0.out ?_
      case y5 =>
        rintro V ⟨e1, e2, e3, e4⟩
        go_simp
      simp only [Act.put]
      refine wpAnyH_take (i := 6) (v := .pointer (some ⟨b2, o2 + k, none⟩)) (by rfl) (by kernel_rfl) (by kernel_rfl) (by kernel_rfl) (fun _ _ _ h => h) (.inl ⟨by rfl, ?y6⟩) HS0.out ?_
      case y6 =>
        rintro V ⟨e1, e2, e3, e4⟩
        go_simp
      simp only [Act.put]
      refine wpAnyH_take (i := 7) (v := .int .i64 (T.t k)) (by rfl) (by kernel_rfl) (by kernel_rfl) (by kernel_rfl) (fun _ _ _ h => h) (.inl ⟨by rfl, ?y7⟩) HS0.out ?_
      case y7 =>
        rintro V ⟨e1, e2, e3, e4⟩
        go_simp
      simp only [Act.put]
      refine wpAnyH_take (i := 8) (v := .pointer (some ⟨Bx, 5, none⟩)) (by rfl) (by kernel_rfl) (by kernel_rfl) (by kernel_rfl) (fun _ _ _ h => h) (.inl ⟨by rfl, ?y8⟩) HS0.out ?_
      case y8 =>
        rintro V ⟨e1, e2, e3, e4⟩
        go_simp
      simp only [Act.put]
      refine wpAnyH_take (i := 9) (v := .int .i64 (T.o k).ecn) (by rfl) (by kernel_rfl) (by kernel_rfl) (by kernel_rfl) (fun _ _ _ h => h) (.inl ⟨by rfl, ?y9⟩) HS0.out ?_
      case y9 =>
        rintro V ⟨e1, e2, e3, e4⟩
        go_simp
      simp only [Act.put]
      refine wpAnyH_all (rs := [0, 10]) (by kernel_rfl) (by simp) (fun i him => ?_)
      have hii : i = 0 ∨ i = 10 := by simpa using him
      rcases hii with rfl | rfl
      · clear him
        refine wpOp_of_k fun K' HK' => ⟨_, rfl, ?_⟩
        simp only [List.getElem_toArray, List.getElem_cons_zero]
        go_wp2_with (fail)
        refine HK'.out _ _ ⟨HSK.out _ (fun _ _ _ _ => rfl), ?_⟩
        try simp only [Act.put]
        refine wpAnyH_all (rs := [10]) (by kernel_rfl) (by simp) (fun i him => ?_)
        obtain rfl : i = 10 := by simpa using him
        refine wpOp_of_k fun K' HK' => ⟨_, rfl, ?_⟩
        simp only [List.getElem_toArray, List.getElem_cons_zero, List.getElem_cons_succ]
        go_wp2_with (fail)
        refine HK'.out _ _ ⟨HSK.out _ (fun j hj _ _ => Below.heap_alloc W _ j hj), ?_⟩
        try simp only [Act.put]
        refine wpAnyH_all (rs := [11]) (by kernel_rfl) (by simp) (fun i him => ?_)
        obtain rfl : i = 11 := by simpa using him
        refine wpOp_of_k fun K' HK' => ⟨_, rfl, ?_⟩
        simp only [List.getElem_toArray, List.getElem_cons_zero, List.getElem_cons_succ]
        go_wp2_with (fail)
        refine ((iwithLine_any ⟨#[111, 117, 116]⟩ (by decide) (w.heap.size + 1) y cy (LO T pre) m HM.out (some ⟨W.heap.size, 0, none⟩) 3 3 (f3 (T.o k).id (T.t k) (T.o k).ecn) (World.drew (World.alloc W (.cells #[.int .i64 (T.o k).id, .int .i64 (T.t k), .int .i64 (T.o k).ecn] 3))) (OB.drw (OB.alc (w := W) HOB.out (.cells #[.int .i64 (T.o k).id, .int .i64 (T.t k), .int .i64 (T.o k).ecn] 3))) (row_drw (row3 W (T.o k).id (T.t k) (T.o k).ecn 3)) (by omega) HF3.out hm1 (size_alloc_le HSZ.out) (fun b off e e2 => by { have e3 : W.heap.size = b := by { injection e with e3; injection e3 }; subst e3; exact absurd (HOL.out _ e2.symm).2 (Nat.lt_irrefl _) }) (fun U h => HTB.out U ((((HBW.out).trans ((Below.refl _ W).alloc (HSZW.out) (.cells #[.int .i64 (T.o k).id, .int .i64 (T.t k), .int .i64 (T.o k).ecn] 3))).drew).trans (h.mono (Nat.le_succ _)))))).mono ?_
        rintro e w3 ⟨x3, c3, N3, rfl, hN3, ho3, hg3⟩
        go_wp2
        refine HK'.out _ _ ⟨HSK.out _ (fun j hj _ he => ((hg3.1).block j (by show j < (W.heap.push _).size; simp; omega) (fun e => he e.symm)).trans (Below.heap_alloc W _ j hj)), ?_⟩
        try simp only [Act.put]
        rw [show strL ⟨#[111, 117, 116]⟩ = wdOut from rfl, nums3, ← LO_snoc T pre ⟨k, hk⟩] at ho3 hN3
        have hr3 := ho3.row
        rw [hN3] at hr3
        replace hg3 : Gr (W.alloc (.cells #[.int .i64 (T.o k).id, .int .i64 (T.t k), .int .i64 (T.o k).ecn] 3)) w3 (.slice y m cy) (.slice x3 N3 c3) := ⟨⟨hg3.1.os, hg3.1.tape, hg3.1.output, hg3.1.size, hg3.1.block⟩, hg3.2⟩
        obtain ⟨hv1, hv2, hr2, hk2', hb2⟩ := Boxed.appended HV.out (by decide) HROW.out (show w.heap.size + 1 ≤ W.heap.size by omega) (show w.heap.size + 1 ≤ w2.heap.size by omega) hr3 hg3.1
        have hc1 := hv1.cell
        have hf1 := hv1.frozen
        refine wpAnyH_all (rs := [12]) (by kernel_rfl) (by simp) (fun i him => ?_)
        obtain rfl : i = 12 := by simpa using him
        refine wpOp_of_k fun K' HK' => ⟨_, rfl, ?_⟩
        simp only [List.getElem_toArray, List.getElem_cons_zero, List.getElem_cons_succ]
        go_wp2_with (fail)
        refine HK'.out _ _ ⟨HSK.out _ (fun j hj hne he => (Below.heap_setCell w3 ⟨w2.heap.size, 0, none⟩ _ j hne).trans (((hg3.1).block j (by show j < (W.heap.push _).size; simp; omega) (fun e => he e.symm)).trans (Below.heap_alloc W _ j hj))), ?_⟩
        try simp only [Act.put]
        refine wpAnyH_done (by kernel_rfl) ?_ _
        gi_wp2
        exact ⟨hk2'.from _, hb2, ⟨_, hv2, by rw [hN3]; exact hr2, trivial⟩, hBW.trans hb2⟩
      · clear him
        refine wpOp_of_k fun K' HK' => ⟨_, rfl, ?_⟩
        simp only [List.getElem_toArray, List.getElem_cons_zero, List.getElem_cons_succ]
        go_wp2_with (fail)
        refine HK'.out _ _ ⟨HSK.out _ (fun j hj _ _ => Below.heap_alloc W _ j hj), ?_⟩
        try simp only [Act.put]
        refine wpAnyH_all (rs := [0]) (by kernel_rfl) (by simp) (fun i him => ?_)
        obtain rfl : i = 0 := by simpa using him
        refine wpOp_of_k fun K' HK' => ⟨_, rfl, ?_⟩
        simp only [List.getElem_toArray, List.getElem_cons_zero]
        go_wp2_with (fail)
        refine HK'.out _ _ ⟨HSK.out _ (fun j hj _ _ => Below.heap_alloc W _ j hj), ?_⟩
        try simp only [Act.put]
        refine wpAnyH_all (rs := [11]) (by kernel_rfl) (by simp) (fun i him => ?_)
        obtain rfl : i = 11 := by simpa using him
        refine wpOp_of_k fun K' HK' => ⟨_, rfl, ?_⟩
        simp only [List.getElem_toArray, List.getElem_cons_zero, List.getElem_cons_succ]
        go_wp2_with (fail)
        refine ((iwithLine_any ⟨#[111, 117, 116]⟩ (by decide) (w.heap.size + 1) y cy (LO T pre) m HM.out (some ⟨W.heap.size, 0, none⟩) 3 3 (f3 (T.o k).id (T.t k) (T.o k).ecn) (World.drew (World.alloc W (.cells #[.int .i64 (T.o k).id, .int .i64 (T.t k), .int .i64 (T.o k).ecn] 3))) (OB.drw (OB.alc (w := W) HOB.out (.cells #[.int .i64 (T.o k).id, .int .i64 (T.t k), .int .i64 (T.o k).ecn] 3))) (row_drw (row3 W (T.o k).id (T.t k) (T.o k).ecn 3)) (by omega) HF3.out hm1 (size_alloc_le HSZ.out) (fun b off e e2 => by { have e3 : W.heap.size = b := by { injection e with e3; injection e3 }; subst e3; exact absurd (HOL.out _ e2.symm).2 (Nat.lt_irrefl _) }) (fun U h => HTB.out U ((((HBW.out).trans ((Below.refl _ W).alloc (HSZW.out) (.cells #[.int .i64 (T.o k).id, .int .i64 (T.t k), .int .i64 (T.o k).ecn] 3))).drew).trans (h.mono (Nat.le_succ _)))))).mono ?_
        rintro e w3 ⟨x3, c3, N3, rfl, hN3, ho3, hg3⟩
        go_wp2
        refine HK'.out _ _ ⟨HSK.out _ (fun j hj _ he => ((hg3.1).block j (by show j < (W.heap.push _).size; simp; omega) (fun e => he e.symm)).trans (Below.heap_alloc W _ j hj)), ?_⟩
        try simp only [Act.put]
        rw [show strL ⟨#[111, 117, 116]⟩ = wdOut from rfl, nums3, ← LO_snoc T pre ⟨k, hk⟩] at ho3 hN3
        have hr3 := ho3.row
        rw [hN3] at hr3
        replace hg3 : Gr (W.alloc (.cells #[.int .i64 (T.o k).id, .int .i64 (T.t k), .int .i64 (T.o k).ecn] 3)) w3 (.slice y m cy) (.slice x3 N3 c3) := ⟨⟨hg3.1.os, hg3.1.tape, hg3.1.output, hg3.1.size, hg3.1.block⟩, hg3.2⟩
        obtain ⟨hv1, hv2, hr2, hk2', hb2⟩ := Boxed.appended HV.out (by decide) HROW.out (show w.heap.size + 1 ≤ W.heap.size by omega) (show w.heap.size + 1 ≤ w2.heap.size by omega) hr3 hg3.1
        have hc1 := hv1.cell
        have hf1 := hv1.frozen
        refine wpAnyH_all (rs := [12]) (by kernel_rfl) (by simp) (fun i him => ?_)
        obtain rfl : i = 12 := by simpa using him
        refine wpOp_of_k fun K' HK' => ⟨_, rfl, ?_⟩
        simp only [List.getElem_toArray, List.getElem_cons_zero, List.getElem_cons_succ]
        go_wp2_with (fail)
        refine HK'.out _ _ ⟨HSK.out _ (fun j hj hne he => (Below.heap_setCell w3 ⟨w2.heap.size, 0, none⟩ _ j hne).trans (((hg3.1).block j (by show j < (W.heap.push _).size; simp; omega) (fun e => he e.symm)).trans (Below.heap_alloc W _ j hj))), ?_⟩
        try simp only [Act.put]
        refine wpAnyH_done (by kernel_rfl) ?_ _
        gi_wp2
        exact ⟨hk2'.from _, hb2, ⟨_, hv2, by rw [hN3]; exact hr2, trivial⟩, hBW.trans hb2⟩
    case done =>
      rintro D zs W hD hz ⟨⟨v, hv, hrow, _⟩, hBW⟩ hK
      rw [LO_all T zs hz] at hrow
      have hsW := hBW.size
      have hlD := (Array.getElem?_eq_some_iff.1 hK).1
      have tW := tV.below hBW (Nat.lt_succ_self _)
      obtain ⟨x0, x1, x2', x3, x4, x5⟩ := tr_cells tW
      have HROW : Hid (W.ownsRow (w.heap.size + 1) 5 1 v (wdTrace ++ [10] ++ outsL T T.no).length ((wdTrace ++ [10] ++ outsL T T.no).map (Value.int .u8))) := hrow
      clear hrow hz
      gi_wp2_with (refine ⟨trivial, ?_⟩; gi_at_call 21; refine (told_in 5 _ _ _ _).mono ?_; rintro e w' ⟨rfl, rfl⟩)
      obtain ⟨V1, hV1⟩ : ∃ V, W.alloc (.cells #[.slice A.d T.nd A.cd] 29) = V := ⟨_, rfl⟩
      have hzV1 : V1.heap.size = W.heap.size + 1 := by rw [← hV1]; simp
      have b1 : Below W.heap.size W V1 := by rw [← hV1]; exact (Below.refl _ W).alloc (Nat.le_refl _) _
      have bV1 : Below (w.heap.size + 1) V0 V1 := hBW.trans (b1.mono (by omega))
      have bw1 : Below w.heap.size w V1 := bV.trans (bV1.mono (Nat.le_succ _))
      have vR1 : Boxed V1 w2.heap.size 27 v := boxed_below hv b1 hv.lt
      have vN1 : Boxed V1 W.heap.size 29 (.slice A.d T.nd A.cd) := by rw [← hV1]; exact Boxed.new W _ _
      have hK1 : V1.heap[D]? = some (.deferred (some [])) := (b1.block D hlD).trans hK
      have vO1 : V1.ownsRow (w.heap.size + 1) 5 1 v (LD T []).length ((LD T []).map (Value.int .u8)) := by
        have := World.ownsRow.alloc HROW.out (.cells #[.slice A.d T.nd A.cd] 29)
        rw [hV1] at this
        simpa [LD] using this
      have hP2' : PR (w.heap.size + 1) V1 A.d T.nd T.d := hP2.below bV1
      rw [hV1]
      clear hV1 x0 x1 x2' x3 x4 x5 tW HROW
      refine wpIn_rangeFunc_ownH hro (by omega) (gf := 32) (lb := #[.pointer (some ⟨W.heap.size, 0, none⟩)]) rfl trivial (enters_of Tryd.func32 (by kernel_rfl) rfl)
        (told_stops 5 (by omega) W.heap.size (w.heap.size + 1) T.nd A.cd A.d T.d HND.out V1 (by omega) (by omega) vN1.cell hP2') belowK_t (belowK_b (by omega)) (Below.refl _ _) (fun _ => rfl)
        (fun pre X => (∃ v, Boxed X w2.heap.size 27 v ∧ X.ownsRow (w.heap.size + 1) 5 1 v (LD T pre).length ((LD T pre).map (Value.int .u8)) ∧ True) ∧ (Below (w.heap.size + 1) V1 X ∧ X.heap[D]? = some (.deferred (some []))))
        (fun _ _ _ => False)
        (OwnFrom.and (Own.from (holdsRow_own (w.heap.size + 1) w2.heap.size 27 5 1 (fun pre => (LD T pre).length) (fun pre => (LD T pre).map (Value.int .u8)) (fun _ _ => True)) _) (OwnFrom.and (ownFrom_below (by omega) (by omega)) (ownFrom_at _ (by omega))))
        (fun c => ownFrom_pure _ _)
        ⟨⟨_, vR1, vO1, trivial⟩, Below.refl _ _, hK1⟩
        (fun x a' X => ∃ Bx, w.heap.size < Bx ∧ Lies X Bx (pkCells (T.d x.1)) 43 ∧ a' = { tmps := #[T.val A, .pointer (some ⟨w.heap.size, 0, none⟩), .slice none 0 0, .pointer (some ⟨w2.heap.size, 0, none⟩), undef, undef, undef, .pointer (some ⟨Bx, 0, none⟩), T.val A, .bool true, .bool false, .slice x2 N2 c2, .pointer (some ⟨w.heap.size, 1, none⟩), .slice A.o T.no A.co, .func (.func 32) #[] #[.pointer (some ⟨w2.heap.size + 1, 0, none⟩)], undef, undef, undef, undef, undef, undef, undef, undef, undef, undef, undef, undef, undef, undef, .pointer (some ⟨w.heap.size, 2, none⟩), .slice A.d T.nd A.cd, .func (.func 32) #[] #[.pointer (some ⟨W.heap.size, 0, none⟩)], .int .i64 (x.1 : Int), (T.d x.1).val, undef, undef, undef, undef, undef, undef, undef, undef, undef, undef], defers := [] })
        (fun x a' _ X Y row hs hg hr => by obtain ⟨Bx, e1, e2, e3⟩ := hs; exact ⟨Bx, e1, lies_own Bx _ _ () X Y row e2 hg (fun r e => (hr r e).2), e3⟩)
        ?assign2 ?body2 ?done2 ?stop2
      case assign2 =>
        rintro l pre x X K ⟨⟨v, hv, hrow, _⟩, hBX, hDX⟩ hKK
        have hsX := hBX.size
        gi_wp2
        exact hKK _ _ ((KeepsOthers.alloc _ _).from _) ((Below.refl _ X).alloc (by omega) _) ⟨⟨v, hv.alloc _, hrow.alloc _, trivial⟩, hBX.alloc (by omega) _, (Below.heap_alloc X _ D (Array.getElem?_eq_some_iff.1 hDX).1).trans hDX⟩ ⟨X.heap.size, by omega, Lies.new X _ _, rfl⟩
      case body2 =>
        rintro l pre x a' X hl ⟨r, hr⟩ ⟨⟨v, hv, hrow, _⟩, hBX, hDX⟩ ⟨Bx, hBx, bX, rfl⟩ hlt
        obtain ⟨k, hk⟩ := x
        dsimp only at bX ⊢
        have hsX := hBX.size
        obtain ⟨y, cy, rfl, hob⟩ := ob_of hrow
        have hpl := LD_len HTP.out pre
        obtain ⟨m, hm⟩ : ∃ m, (LD T pre).length = m := ⟨_, rfl⟩
        rw [hm] at hv hpl hrow
        have HM : Hid ((LD T pre).length = m) := hm
        have HOB : Hid (OB (w.heap.size + 1) X y cy (LD T pre)) := hob
        have HROW : Hid (X.ownsRow (w.heap.size + 1) 5 1 (.slice y m cy) m ((LD T pre).map (Value.int .u8))) := hrow
        have HV : Hid (Boxed X w2.heap.size 27 (.slice y m cy)) := hv
        have HOL : Hid (∀ j, (Value.slice y m cy).ownBlock = some j → w.heap.size + 1 ≤ j ∧ j < X.heap.size) := fun j e => World.ownsRow.lt hrow j e
        have HDN : Hid ((Value.slice y m cy).ownBlock ≠ some D) := own_nd hrow hDX
        have hm1 : m ≤ 1000000 := by have := HNO.out; have := (HTP.out).2.1; have := (HTP.out).2.2.1; omega
        have hc := hv.cell
        have hf := hv.frozen
        obtain ⟨q0, q1, q2, q3, q4, q5⟩ := bX.pk
        simp only [Nat.zero_add] at q1 q2 q3 q4 q5
        obtain ⟨gd1, gd2, gd3⟩ := good_bds ((HTP.out).2.2.2.2 k hk)
        have HF3 : Hid (∀ j, j < 3 → 0 ≤ f3 (T.d k).id (T.d k).tm (T.d k).ecn j ∧ f3 (T.d k).id (T.d k).tm (T.d k).ecn j ≤ 9223372036854775807) := fun j hj => by
          rcases (by omega : j = 0 ∨ j = 1 ∨ j = 2) with rfl | rfl | rfl <;> simp [f3] <;> omega
        have HBW : Hid (Below w.heap.size w X) := bw1.trans (hBX.mono (Nat.le_succ _))
        have HSZ : Hid (w.heap.size + 1 ≤ X.heap.size) := by show _ ≤ _; omega
        have HSZW : Hid (w.heap.size ≤ X.heap.size) := by show _ ≤ _; omega
        have HDX : Hid (X.heap[D]? = some (.deferred (some []))) := hDX
        clear hm hob hrow gd1 gd2 gd3 hDX hr
        gi_wp2_with (refine ⟨trivial, ?_⟩; gi_at_call 20; refine (CallsIn.inRound l (callsIn_wide.2 (iwithLine_any ⟨#[100, 114, 111, 112]⟩ (by decide) (w.heap.size + 1) y cy (LD T pre) m HM.out (some ⟨X.heap.size, 0, none⟩) 3 3 (f3 (T.d k).id (T.d k).tm (T.d k).ecn) (World.alloc X (.cells #[.int .i64 (T.d k).id, .int .i64 (T.d k).tm, .int .i64 (T.d k).ecn] 3)) (OB.alc (w := X) HOB.out (.cells #[.int .i64 (T.d k).id, .int .i64 (T.d k).tm, .int .i64 (T.d k).ecn] 3)) (row3 X (T.d k).id (T.d k).tm (T.d k).ecn 3) (by omega) HF3.out hm1 (size_alloc_le HSZ.out) (fun b off e e2 => by { have e3 : X.heap.size = b := by { injection e with e3; injection e3 }; subst e3; exact absurd (HOL.out _ e2.symm).2 (Nat.lt_irrefl _) }) (fun U h => HTB.out U (((HBW.out).trans ((Below.refl _ X).alloc (HSZW.out) (.cells #[.int .i64 (T.d k).id, .int .i64 (T.d k).tm, .int .i64 (T.d k).ecn] 3))).trans (h.mono (Nat.le_succ _))))))).mono ?_; rintro e w3 ⟨x3, c3, N3, rfl, hN3, ho3, hg3⟩; rw [show strL ⟨#[100, 114, 111, 112]⟩ = wdDrop from rfl, nums3, ← LD_snoc T pre ⟨k, hk⟩] at ho3 hN3; have hr3 := ho3.row; rw [hN3] at hr3; obtain ⟨hv1, hv2, hr2, hk2', hb2⟩ := Boxed.appended HV.out (by decide) HROW.out (show w.heap.size + 1 ≤ X.heap.size by omega) (show w.heap.size + 1 ≤ w2.heap.size by omega) hr3 hg3.1; have hc1 := hv1.cell; have hf1 := hv1.frozen)
        have hlD2 := (Array.getElem?_eq_some_iff.1 HDX.out).1
        exact ⟨hk2'.from _, hb2, ⟨_, hv2, by rw [hN3]; exact hr2, trivial⟩, hBX.trans hb2, (Below.heap_setCell w3 ⟨w2.heap.size, 0, none⟩ _ D (by show D ≠ w2.heap.size; omega)).trans (((hg3.1).block D (by simp; omega) (fun e => HDN.out e.symm)).trans ((Below.heap_alloc X _ D hlD2).trans HDX.out))⟩
      case done2 =>
        rintro D2 zs2 X hD2 hz2 ⟨⟨v, hv, hrow, _⟩, hBX, hDX⟩ hK2
        rw [LD_all T zs2 hz2] at hrow
        have hsX := hBX.size
        have hc := hv.cell
        have hlD2 := (Array.getElem?_eq_some_iff.1 hK1).1
        have hne : ¬ D2 = D := by omega
        have HROW : Hid (X.ownsRow (w.heap.size + 1) 5 1 v (txF T).length ((txF T).map (Value.int .u8))) := hrow
        clear hrow hz2
        gi_wp2
        refine leaves_row (B := w.heap.size + 1) 6 [D2, D] X (fun E hE => ?_) (by simp [hne]) (fun E hE => ?_) HROW.out (fun w' hw' ho' => ?_)
        · have : E = D2 ∨ E = D := by simpa using hE
          rcases this with rfl | rfl
          · exact hK2
          · exact hDX
        · have : E = D2 ∨ E = D := by simpa using hE
          omega
        · obtain ⟨x, cap, rfl, hob⟩ := ob_of ho'
          exact ⟨_, results_tmp rfl _ _ _, x, cap, rfl, hob.mono (Nat.le_succ _), (bw1.trans (hBX.mono (Nat.le_succ _))).trans (hw'.mono (Nat.le_succ _))⟩
      case stop2 =>
        rintro D c pre W _ _ h _
        exact h.elim
    case stop =>
      rintro D c pre W _ _ h _
      exact h.elim

end Go.Proofs.YtcfkmkkgeoaaeaaDoor
