/-
  lineOk: WHICH LISTS OF PACKETS ARE A LINE: each a packet, none ahead of one with a lesser time, no two with one number.
-/
import Derived.Test.YtmjggolllijamaaTold
import Derived.Scope
namespace Go.Proofs.Ytmjggolllijamaa
open Go.RowKit Go.Shelf
set_option linter.unusedVariables false
attribute [local go_sem] Oper.semAt_some

/-- k, ahead of j, bears with it. -/
def pairP (f : Nat → Pk) (k j : Nat) : Prop := (f k).tm ≤ (f j).tm ∧ (f k).id ≠ (f j).id
/-- j bears with all ahead of it. -/
def atP (f : Nat → Pk) (j : Nat) : Prop := (f j).good = true ∧ ∀ k, k < j → pairP f k j
def lineP (f : Nat → Pk) (n : Nat) : Prop := ∀ j, j < n → atP f j
instance (f : Nat → Pk) (k j : Nat) : Decidable (pairP f k j) := by unfold pairP; infer_instance
instance (f : Nat → Pk) (j : Nat) : Decidable (atP f j) := by unfold atP; infer_instance
instance (f : Nat → Pk) (n : Nat) : Decidable (lineP f n) := by unfold lineP; infer_instance
def lineB (f : Nat → Pk) (n : Nat) : Bool := decide (lineP f n)
def okPairs (f : Nat → Pk) (len j : Nat) (pre : List (Upto len)) : Prop := ∀ y ∈ pre, pairP f y.1 j
def badPairs (f : Nat → Pk) (len j : Nat) (pre : List (Upto len)) : Prop := ∃ y ∈ pre, ¬ pairP f y.1 j

/-- A block that is some cells. -/
def Lies (W : World) (B : Nat) (vs : Array Value) (t : TypeId) : Prop := W.heap[B]? = some (.cells vs t)
theorem Lies.lt {W : World} {B : Nat} {vs : Array Value} {t : TypeId} (h : Lies W B vs t) : B < W.heap.size := (Array.getElem?_eq_some_iff.1 h).1
theorem Lies.new (W : World) (vs : Array Value) (t : TypeId) : Lies (W.alloc (.cells vs t)) W.heap.size vs t := World.alloc_heap_new W _
theorem Lies.kept {W W' : World} {row : Option Nat} {B : Nat} {vs : Array Value} {t : TypeId} (h : Lies W B vs t) (hg : W.grownBy W' row) (hne : some B ≠ row) : Lies W' B vs t := (hg.block B h.lt hne).trans h
theorem Lies.alloc {W : World} {B : Nat} {vs : Array Value} {t : TypeId} (h : Lies W B vs t) (o : Obj) : Lies (W.alloc o) B vs t := h.kept (World.grownBy_alloc W o none) (by simp)
theorem Lies.below {W W' : World} {B : Nat} {vs : Array Value} {t : TypeId} (h : Lies W B vs t) {n : Nat} (hb : Below n W W') (hn : B < n) : Lies W' B vs t := (hb.block B hn).trans h
theorem Lies.other {W : World} {B B' : Nat} {vs : Array Value} {t : TypeId} (h : Lies W B vs t) (hne : B ≠ B') (u : Value) : Lies (W.setCell ⟨B', 0, none⟩ u) B vs t := h.kept (grownBy_setCell' W B' u) (fun e => hne (by cases e; rfl))
theorem lies_own {β : Type} (B : Nat) (vs : Array Value) (t : TypeId) : Own (fun (_ : β) W => Lies W B vs t) := fun s X Y row hs hg hrow =>
  hs.kept hg (fun e' => by obtain ⟨o, ho, hc⟩ := hrow B e'.symm; rw [show X.heap[B]? = _ from hs] at ho; cases ho; cases hc)
theorem Lies.pk {W : World} {B : Nat} {p : Pk} {t : TypeId} (h : Lies W B (pkCells p) t) : PAt W B 0 p := by
  refine ⟨?_, ?_, ?_, ?_, ?_, ?_⟩ <;> simp [World.cell?, show W.heap[B]? = _ from h]
theorem boxed_below {W W' : World} {B : Nat} {t : TypeId} {v : Value} (h : Boxed W B t v) {n : Nat} (hb : Below n W W') (hn : B < n) : Boxed W' B t v := (hb.block B hn).trans h
/-- What keeps all that lay keeps whatever is no cells. -/
theorem keepsFrom_below {B : Nat} {W W' : World} (h : Below W.heap.size W W') : KeepsFrom B W W' := ⟨h.size, fun k o _ hk _ => (h.block k (Array.getElem?_eq_some_iff.1 hk).1).trans hk⟩

/-- A scope through which the run goes without a goto, at the wide fence. -/
theorem wpIn_scope_wide {n : Nat} {P : Program} {c : Code} {Q : Exit → Act → World → Prop} {a : Act} {w : World} (h : c.wpIn Fence.wide n P (Exit.noGoto Q) a w) : (Code.scope c).wpIn Fence.wide n P Q a w := wpIn_wide.2 (wp_scope_straight (wpIn_wide.1 h))

set_option maxRecDepth 100000 in
set_option maxHeartbeats 4000000 in
theorem lineOk_any (a : Option Addr) (len cap : Nat) (f : Nat → Pk) (w : World) (hlen : len ≤ 1048576) (hcap : len ≤ cap) (hP : PR w.heap.size w a len f) :
    Calls Try.prog 91 #[.slice a len cap] w fun e W' => e = .returned (.bool (lineB f len)) ∧ Below w.heap.size w W' := by
  have HP : Hid (PR w.heap.size w a len f) := hP
  clear hP
  refine (callsIn_wide (n := 6)).1 ?_
  have hro : Fence.wide.round = none := rfl
  refine callsIn_of_wp_marks Try.func91 rfl trivial ?_ hro
  simp only [Try.ntmps91, List.size_toArray, List.length_cons, List.length_nil, Nat.reduceAdd, Nat.reduceSub, Array.replicate_succ, Array.replicate_zero, List.push_toArray, List.append_toArray, List.nil_append, List.cons_append]
  gi_wp2
  refine wpIn_scope_wide ?_
  gi_wp2
  refine wpIn_label ?_
  gi_wp2_with (refine ⟨trivial, ?_⟩; gi_at_call 75; refine (told_in 5 _ _ _ _).mono ?_; rintro e w' ⟨rfl, rfl⟩)
  have bA := ((Boxed.new w 48 (.slice a len cap)).alloc (.cells #[.bool true] 4)).alloc (.cells #[.slice a len cap] 48)
  have bR := (Boxed.new (w.alloc (.cells #[.slice a len cap] 48)) 4 (.bool true)).alloc (.cells #[.slice a len cap] 48)
  have bN := Boxed.new ((w.alloc (.cells #[.slice a len cap] 48)).alloc (.cells #[.bool true] 4)) 48 (.slice a len cap)
  simp only [World.size_alloc] at bR bN
  have hB0 : Below w.heap.size w (((w.alloc (.cells #[.slice a len cap] 48)).alloc (.cells #[.bool true] 4)).alloc (.cells #[.slice a len cap] 48)) := (((Below.refl _ w).alloc (Nat.le_refl _) _).alloc (by simp) _).alloc (by simp; omega) _
  have hsz : (((w.alloc (.cells #[.slice a len cap] 48)).alloc (.cells #[.bool true] 4)).alloc (.cells #[.slice a len cap] 48)).heap.size = w.heap.size + 3 := by simp
  obtain ⟨W0, hW0⟩ : ∃ W0, ((w.alloc (.cells #[.slice a len cap] 48)).alloc (.cells #[.bool true] 4)).alloc (.cells #[.slice a len cap] 48) = W0 := ⟨_, rfl⟩
  rw [hW0] at bA bR bN hB0 hsz ⊢
  clear hW0
  refine wpIn_rangeFunc_ownH hro (by omega) (gf := 92) (lb := #[.pointer (some ⟨w.heap.size + 1 + 1, 0, none⟩)]) rfl trivial (enters_of Try.func92 (by kernel_rfl) rfl)
    (told_stops 5 (by omega) (w.heap.size + 1 + 1) w.heap.size len cap a f hlen W0 (by omega) (by omega) bN.cell (PR.below HP.out hB0)) belowK_t (belowK_b (by omega)) (Below.refl _ _) (fun _ => rfl)
    (fun pre W => (((∀ x ∈ pre, atP f x.1) ∧ Boxed W (w.heap.size + 1) 4 (.bool true)) ∧ Boxed W w.heap.size 48 (.slice a len cap)) ∧ Below w.heap.size w W)
    (fun c pre W => ((c = .exit 0 ∧ ∃ x ∈ pre, ¬ atP f x.1) ∧ Boxed W (w.heap.size + 1) 4 (.bool false)) ∧ Below w.heap.size w W)
    (OwnFrom.and (OwnFrom.and (OwnFrom.and (ownFrom_pure _ _) (Own.from (boxed_own _ _ _) _)) (Own.from (boxed_own _ _ _) _)) (ownFrom_below (Nat.le_refl _) (by omega)))
    (fun c => OwnFrom.and (OwnFrom.and (ownFrom_pure _ _) (Own.from (boxed_own _ _ _) _)) (ownFrom_below (Nat.le_refl _) (by omega)))
    ⟨⟨⟨by simp, bR⟩, bA⟩, hB0⟩
    (fun x a' W => ∃ Bx, w.heap.size + 1 < Bx ∧ Lies W Bx (pkCells (f x.1)) 31 ∧ a' = { tmps := #[.slice a len cap, .pointer (some ⟨w.heap.size, 0, none⟩), .bool false, .pointer (some ⟨w.heap.size + 1, 0, none⟩), .int .i64 (x.1 : Int), .pointer (some ⟨Bx, 0, none⟩), undef, undef, .slice a len cap, .func (.func 92) #[] #[.pointer (some ⟨w.heap.size + 1 + 1, 0, none⟩)], .int .i64 (x.1 : Int), (f x.1).val, undef, undef, undef, undef, undef, undef, undef, undef, undef, undef, undef, undef, undef, undef, undef, undef, undef, undef, undef, undef, undef, undef], defers := [] })
    (fun x a' _ X Y row hs hg hr => by obtain ⟨Bx, e1, e2, e3⟩ := hs; exact ⟨Bx, e1, lies_own Bx _ _ () X Y row e2 hg (fun r e => (hr r e).2), e3⟩)
    ?assign ?body ?done ?stop
  case assign =>
    rintro l pre x W K ⟨⟨⟨hp, bR1⟩, bA1⟩, hB1⟩ hK
    gi_wp2
    exact hK _ _ ((KeepsOthers.alloc _ _).from _) ((Below.refl _ W).alloc hB1.size _) ⟨⟨⟨hp, bR1.alloc _⟩, bA1.alloc _⟩, hB1.alloc hB1.size _⟩ ⟨W.heap.size, bR1.lt, Lies.new W _ _, rfl⟩
  case body =>
    rintro l pre x a' W hl ⟨r, hr⟩ ⟨⟨⟨hp, bR1⟩, bA1⟩, hB1⟩ ⟨Bx, hBx, bX, rfl⟩ hlt
    obtain ⟨j, hj⟩ := x
    dsimp only at bX ⊢
    obtain ⟨q0, q1, q2, q3, q4, q5⟩ := bX.pk
    simp only [Nat.zero_add] at q1 q2 q3 q4 q5
    have cA := bA1.cell
    have cR := bR1.cell
    have fR := bR1.frozen
    cases hg : (f j).good
    case false =>
      have hbad : ¬ atP f j := fun h => by rw [h.1] at hg; cases hg
      gi_wp2_with (refine ⟨trivial, ?_⟩; gi_at_call 47; refine (CallsIn.inRound l (callsIn_wide.2 (ipktOk_any (f j) _))).mono ?_; rintro e w1 ⟨rfl, hk1⟩; rw [hg]; have cR' := (boxed_below bR1 hk1.1 bR1.lt).cell; have fR' := (boxed_below bR1 hk1.1 bR1.lt).frozen)
      exact ⟨(keepsFrom_below hk1.1).trans ((KeepsOthers.setCell _ _ _).from _), ⟨⟨rfl, ⟨j, hj⟩, List.mem_append.2 (.inr (by simp)), hbad⟩, (boxed_below bR1 hk1.1 bR1.lt).set _⟩, (hB1.trans (hk1.1.mono hB1.size)).setCell (p := ⟨w.heap.size + 1, 0, none⟩) (by simp) _⟩
    case true =>
      gi_wp2_with (refine ⟨trivial, ?_⟩; first | (gi_at_call 47; refine (CallsIn.inRound l (callsIn_wide.2 (ipktOk_any (f j) _))).mono ?_; rintro e w1 ⟨rfl, hk1⟩; rw [hg]; have cA' := (boxed_below bA1 hk1.1 bA1.lt).cell) | (gi_at_call 75; refine (CallsIn.inRound l (told_in 3 _ _ _ _)).mono ?_; rintro e w' ⟨rfl, rfl⟩))
      have hB2 : Below w.heap.size W w1 := hk1.1.mono hB1.size
      have hsW := hB1.size
      have hsW1 := hk1.1.size
      have bN1 := Boxed.new w1 48 (.slice a j cap)
      have bR2 := boxed_below bR1 hk1.1 bR1.lt
      have bA2 := boxed_below bA1 hk1.1 bA1.lt
      have bX2 := bX.below hk1.1 bX.lt
      have hr' : (w1.alloc (.cells #[.slice a j cap] 48)).heap[l]? = some (.loop r) := (Below.heap_alloc w1 _ l (by have := (Array.getElem?_eq_some_iff.1 hr).1; omega)).trans ((hk1.1.block l (Array.getElem?_eq_some_iff.1 hr).1).trans hr)
      have hPj : PR w.heap.size (w1.alloc (.cells #[.slice a j cap] 48)) a j f := ((PR.take HP.out (by omega)).below hB1).below (hB2.alloc (by omega) _)
      refine wpIn_rangeFunc_ownN (l₀ := l) (r₀ := r) rfl hr' (by omega) (gf := 92) (lb := #[.pointer (some ⟨w1.heap.size, 0, none⟩)]) rfl trivial (enters_of Try.func92 (by kernel_rfl) rfl)
        ((told_stops 3 (by omega) w1.heap.size w.heap.size j cap a f (by omega) _ (by simp) (by simp; omega) bN1.cell hPj).inRound l) belowK_t (belowK_b (by simp; omega)) (Below.refl _ _) (fun _ => rfl)
        (fun pre' W' => (((okPairs f j j pre' ∧ Boxed W' (w.heap.size + 1) 4 (.bool true)) ∧ Lies W' Bx (pkCells (f j)) 31) ∧ Boxed W' w.heap.size 48 (.slice a len cap)) ∧ (Below w.heap.size W W' ∧ KeepsFrom W0.heap.size W W'))
        (fun c pre' W' => ((c = .exit 0 ∧ badPairs f j j pre') ∧ Boxed W' (w.heap.size + 1) 4 (.bool false)) ∧ (Below w.heap.size W W' ∧ KeepsFrom W0.heap.size W W'))
        (OwnFrom.and (OwnFrom.and (OwnFrom.and (OwnFrom.and (ownFrom_pure _ _) (Own.from (boxed_own _ _ _) _)) (Own.from (lies_own _ _ _) _)) (Own.from (boxed_own _ _ _) _)) (OwnFrom.and (ownFrom_below hsW (by simp; omega)) (ownFrom_keepsFrom (by simp; omega))))
        (fun c => OwnFrom.and (OwnFrom.and (ownFrom_pure _ _) (Own.from (boxed_own _ _ _) _)) (OwnFrom.and (ownFrom_below hsW (by simp; omega)) (ownFrom_keepsFrom (by simp; omega))))
        ⟨⟨⟨⟨fun _ h => absurd h (by simp), bR2.alloc _⟩, bX2.alloc _⟩, bA2.alloc _⟩, hB2.alloc (by omega) _, (keepsFrom_below hk1.1).trans ((KeepsOthers.alloc _ _).from _)⟩
        (fun y a'' W' => ∃ By, w.heap.size + 1 < By ∧ Lies W' By (pkCells (f y.1)) 31 ∧ a'' = { tmps := #[.slice a len cap, .pointer (some ⟨w.heap.size, 0, none⟩), .bool false, .pointer (some ⟨w.heap.size + 1, 0, none⟩), .int .i64 (j : Int), .pointer (some ⟨Bx, 0, none⟩), undef, .pointer (some ⟨By, 0, none⟩), .slice a len cap, .func (.func 92) #[] #[.pointer (some ⟨w.heap.size + 1 + 1, 0, none⟩)], .int .i64 (j : Int), (f j).val, (f j).val, .bool true, .bool false, .slice a len cap, .int .i64 (j : Int), .slice a j cap, .func (.func 92) #[] #[.pointer (some ⟨w1.heap.size, 0, none⟩)], .int .i64 (y.1 : Int), (f y.1).val, undef, undef, undef, undef, undef, undef, undef, undef, undef, undef, undef, undef, undef], defers := [] })
        (fun y a'' _ X Y row hs hg hr => by obtain ⟨Bx, e1, e2, e3⟩ := hs; exact ⟨Bx, e1, lies_own Bx _ _ () X Y row e2 hg (fun r e => (hr r e).2), e3⟩)
        ?assign2 ?body2 ?done2 ?stop2
      case assign2 =>
        rintro l2 pre' y W' K ⟨⟨⟨⟨hq, bR3⟩, bX3⟩, bA3⟩, hBW, hKF⟩ hK
        gi_wp2
        have := hBW.size
        exact hK _ _ ((KeepsOthers.alloc _ _).from _) ((Below.refl _ W').alloc (by omega) _) ⟨⟨⟨⟨hq, bR3.alloc _⟩, bX3.alloc _⟩, bA3.alloc _⟩, hBW.alloc (by omega) _, hKF.trans ((KeepsOthers.alloc _ _).from _)⟩ ⟨W'.heap.size, bR3.lt, Lies.new W' _ _, rfl⟩
      case body2 =>
        rintro l2 pre' y a'' W' _ _ ⟨⟨⟨⟨hq, bR3⟩, bX3⟩, bA3⟩, hBW, hKF⟩ ⟨By, hBy, bY, rfl⟩ _
        obtain ⟨k, hk⟩ := y
        dsimp only at bY ⊢
        clear hsz
        have cR3 := bR3.cell
        have fR3 := bR3.frozen
        obtain ⟨x0, x1, x2, x3, x4, x5⟩ := bX3.pk
        simp only [Nat.zero_add] at x1 x2 x3 x4 x5
        obtain ⟨y0, y1, y2, y3, y4, y5⟩ := bY.pk
        simp only [Nat.zero_add] at y1 y2 y3 y4 y5
        by_cases h1 : (f j).tm < (f k).tm
        · have hbad : ¬ pairP f k j := fun h => by have := h.1; omega
          gi_wp2
          exact ⟨(KeepsOthers.setCell _ _ _).from _, ⟨⟨rfl, ⟨k, hk⟩, List.mem_append.2 (.inr (by simp)), hbad⟩, bR3.set _⟩, hBW.setCell (p := ⟨w.heap.size + 1, 0, none⟩) (by simp) _, hKF.trans ((KeepsOthers.setCell _ _ _).from _)⟩
        · have h1' : decide ((f j).tm < (f k).tm) = false := by simpa using h1
          by_cases h2 : (f k).id = (f j).id
          · have hbad : ¬ pairP f k j := fun h => h.2 h2
            have h2' : ((f k).id == (f j).id) = true := by simpa using h2
            gi_wp2
            exact ⟨(KeepsOthers.setCell _ _ _).from _, ⟨⟨rfl, ⟨k, hk⟩, List.mem_append.2 (.inr (by simp)), hbad⟩, bR3.set _⟩, hBW.setCell (p := ⟨w.heap.size + 1, 0, none⟩) (by simp) _, hKF.trans ((KeepsOthers.setCell _ _ _).from _)⟩
          · have hok : pairP f k j := ⟨by omega, h2⟩
            have h2' : ((f k).id == (f j).id) = false := by simpa using h2
            gi_wp2
            exact ⟨KeepsFrom.refl _ _, Below.refl _ _, ⟨⟨⟨fun z hz => (List.mem_append.1 hz).elim (hq z) (fun e => by simp at e; subst e; exact hok), bR3⟩, bX3⟩, bA3⟩, hBW, hKF⟩
      case done2 =>
        rintro ys' W' hy' ⟨⟨⟨⟨hq, bR3⟩, bX3⟩, bA3⟩, hBW, hKF⟩
        gi_wp2
        have hall : atP f j := ⟨hg, fun k hk => by
          have hm : k ∈ ys'.map (·.1) := by rw [hy']; exact List.mem_range.2 hk
          obtain ⟨z, hz, rfl⟩ := List.mem_map.1 hm
          exact hq z hz⟩
        exact ⟨hKF, hBW, ⟨⟨fun z hz => (List.mem_append.1 hz).elim (hp z) (fun e => by simp at e; subst e; exact hall), bR3⟩, bA3⟩, hB1.trans hBW⟩
      case stop2 =>
        rintro c pre' W' _ ⟨⟨⟨rfl, y, hy, hbad⟩, bR3⟩, hBW, hKF⟩
        gi_wp2
        exact ⟨hKF, ⟨⟨rfl, ⟨j, hj⟩, List.mem_append.2 (.inr (by simp)), fun h => hbad (h.2 y.1 y.2)⟩, bR3⟩, hB1.trans hBW⟩
  case done =>
    rintro D zs W hD hz ⟨⟨⟨hp, bR1⟩, bA1⟩, hB1⟩ hK
    have cR := bR1.cell
    gi_wp2
    refine ⟨by simp, .inl ⟨_, _, rfl, run_takeDeferred hK, ?_⟩⟩
    have hall : lineB f len = true := decide_eq_true fun k hk => by
      have hm : k ∈ zs.map (·.1) := by rw [hz]; exact List.mem_range.2 hk
      obtain ⟨z, hz, rfl⟩ := List.mem_map.1 hm
      exact hp z hz
    exact ⟨_, results_tmp rfl _ _ _, by rw [hall]; rfl, hB1.trans (belowK_b (w := w) (Nat.le_refl _) W D _ _ (by omega) hK rfl rfl)⟩
  case stop =>
    rintro D c pre W hD hpre ⟨⟨⟨rfl, x, hx, hy⟩, bR1⟩, hB1⟩ hK
    have cR := bR1.cell
    gi_wp2
    refine ⟨by simp, .inl ⟨_, _, rfl, run_takeDeferred hK, ?_⟩⟩
    have hall : lineB f len = false := decide_eq_false fun h => hy (h x.1 x.2)
    exact ⟨_, results_tmp rfl _ _ _, by rw [hall]; rfl, hB1.trans (belowK_b (w := w) (Nat.le_refl _) W D _ _ (by omega) hK rfl rfl)⟩

end Go.Proofs.Ytmjggolllijamaa
