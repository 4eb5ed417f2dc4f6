/-
  MARKS OF A SHAPE WHOSE TURNS BEGIN SOMEWHERE WITHIN A BLOCK: markIntS, markShape, heldShape; the lists of an answer between two bounds.
-/
import Derived.Test.YtmjggolllijamaaShapeM
namespace Go.Proofs.Ytmjggolllijamaa
open Go.RowKit
set_option linter.unusedVariables false

/-- n numbers from o on in block B, which may be written. -/
def OwnO (w : World) (B o n : Nat) (f : Nat → Int) : Prop := B < w.heap.size ∧ ∀ i, i < n → w.cell? ⟨B, o + i, none⟩ = some (.int .i64 (f i)) ∧ w.frozen? ⟨B, o + i, none⟩ = false
theorem OwnO.of {w : World} {B n : Nat} {f : Nat → Int} (h : Own .i64 w B n f) : OwnO w B 0 n f := ⟨h.1, fun i hi => by rw [Nat.zero_add]; exact h.2 i hi⟩
theorem OwnO.congr {w : World} {B o n : Nat} {f g : Nat → Int} (h : OwnO w B o n f) (e : ∀ i, i < n → f i = g i) : OwnO w B o n g := ⟨h.1, fun i hi => by rw [← e i hi]; exact h.2 i hi⟩
theorem OwnO.same {w w' : World} {B o n : Nat} {f : Nat → Int} (h : OwnO w B o n f) (hb : w'.heap[B]? = w.heap[B]?) (hs : w.heap.size ≤ w'.heap.size) : OwnO w' B o n f :=
  ⟨Nat.lt_of_lt_of_le h.1 hs, fun i hi => ⟨(World.cell?_of_block (w := w) (a := ⟨B, o + i, none⟩) hb).trans (h.2 i hi).1, (World.frozen?_of_block (w := w) (a := ⟨B, o + i, none⟩) hb).trans (h.2 i hi).2⟩⟩
theorem OwnO.set {w : World} {B o n : Nat} {f : Nat → Int} (h : OwnO w B o n f) (j : Nat) (hj : j < n) (x : Int) : OwnO (w.setCell ⟨B, o + j, none⟩ (.int .i64 x)) B o n (fun i => if i = j then x else f i) := by
  refine ⟨by simpa [World.setCell] using h.1, fun i hi => ⟨?_, ?_⟩⟩
  · by_cases e : i = j
    · subst e
      have := (h.2 i hj).1
      simp [go_sem, this]
    · have := (h.2 i hi).1
      simp [go_sem, e, this]
  · rw [World.frozen?_setCell]; exact (h.2 i hi).2
theorem OwnO.row {w : World} {B o n : Nat} {f : Nat → Int} (h : OwnO w B o n f) : Row .i64 w (some ⟨B, o, none⟩) n f := .inr ⟨B, o, rfl, h.1, fun i hi => (h.2 i hi).1⟩
/-- .. in a zone. -/
def ZO (L U : Nat) (w : World) (a : Option Addr) (m : Nat) (g : Nat → Int) : Prop := m = 0 ∨ ∃ B o : Nat, a = some ⟨B, o, none⟩ ∧ L ≤ B ∧ B < U ∧ OwnO w B o m g

set_option maxHeartbeats 400000 in
theorem markIntS_zo (L U : Nat) (a : Option Addr) (n ca : Nat) (g : Nat → Int) (k0 : Int) (w : World) (ho : ZO L U w a n g) (hn : n ≤ 1048576) (h0 : 0 ≤ k0) (h1 : k0 ≤ 1099511627776) :
    Calls Try.prog 39 #[.slice a n ca, .int .i64 k0] w fun e w' => e = .returned (.int .i64 (k0 + n)) ∧ ZO L U w' a n (fun i => k0 + i) ∧ Chg L U w w' := by
  rcases ho with rfl | ⟨B, o, rfl, hL, hU, ho⟩
  · go_enter Try.func39, Try.ntmps39
    go_wp2
    go_loop [1, 5] (fun c i => i = .int .i64 0 ∧ c = .int .i64 k0) (fun _ i => 0)
    case atStart => exact ⟨rfl, rfl⟩
    case round =>
      obtain ⟨rfl, rfl⟩ := hrel
      go_wp2
      go_ret
      exact ⟨ret_int (by omega), .inl rfl, Chg.refl _ _ _⟩
  · have HO : Hid _ := ho
    clear ho
    go_enter Try.func39, Try.ntmps39
    go_wp2
    go_loopw [1, 5] (fun c i wr => ∃ k : Nat, k ≤ n ∧ i = .int .i64 k ∧ c = .int .i64 (k0 + k) ∧ Chg L U w wr ∧ OwnO wr B o n (fun j => if j < k then k0 + j else g j)) (fun _ i _ => n - (intOf i).toNat)
    case atStart => exact ⟨0, Nat.zero_le _, rfl, by simp, Chg.refl _ _ _, OwnO.congr HO.out fun i _ => by simp⟩
    case round =>
      obtain ⟨k, hk, rfl, rfl, hb, ho⟩ := hrel
      have HO : Hid (OwnO wr B o n (fun j => if j < k then k0 + j else g j)) := ho
      have HB : Hid (Chg L U w wr) := hb
      have hB := ho.1
      by_cases hlt : k < n
      · obtain ⟨c2, c3⟩ := ho.2 k hlt
        clear ho hb
        go_wp2
        go_roundw
        case rel =>
          refine ⟨k + 1, by omega, by go_num, by go_num, chg_set HB.out hL hU _ _, (OwnO.set HO.out k hlt (k0 + k)).congr fun i hi => ?_⟩
          by_cases e : i = k <;> simp [e] <;> split <;> first | rfl | omega
        case measure => simp [intOf]; omega
      · obtain rfl : k = n := by omega
        clear ho hb
        go_wp2
        go_ret
        exact ⟨rfl, .inr ⟨B, o, rfl, hL, hU, OwnO.congr HO.out fun i hi => by simp [hi]⟩, HB.out⟩

/-- A Shape's lists, all one's own, all apart; its turns begin somewhere in their block. -/
def MO (base : Nat) (w : World) (B N : Nat) (A : Nat → Option Addr) (C : Nat → Nat) (L : Nat → Ln) (y : Option Addr) (n : Nat) (tn : Nat → Int) : Prop :=
  LW base w B N A C L ∧ (n = 0 ∨ ∃ Y o : Nat, y = some ⟨Y, o, none⟩ ∧ base ≤ Y ∧ Y ≠ B ∧ (∀ i, i < N → (L i).n ≠ 0 → A i ≠ some ⟨Y, 0, none⟩) ∧ OwnO w Y o n tn)
theorem MO.of_mk {base : Nat} {w : World} {B N : Nat} {A : Nat → Option Addr} {C : Nat → Nat} {L : Nat → Ln} {y : Option Addr} {n : Nat} {tn : Nat → Int} (h : MK base w B N A C L y n tn) : MO base w B N A C L y n tn := by
  refine ⟨h.1, ?_⟩
  rcases h.2 with e | ⟨Y, ha, h1, h2, h3, ho⟩
  · exact .inl e
  · exact .inr ⟨Y, 0, ha, h1, h2, h3, OwnO.of ho⟩
theorem MO.row {base : Nat} {w : World} {B N : Nat} {A : Nat → Option Addr} {C : Nat → Nat} {L : Nat → Ln} {y : Option Addr} {n : Nat} {tn : Nat → Int} (h : MO base w B N A C L y n tn) : Row .i64 w y n tn := by
  rcases h.2 with e | ⟨Y, o, rfl, h1, _, _, ho⟩
  · exact .inl e
  · exact ho.row
theorem MO.congr {base : Nat} {w : World} {B N : Nat} {A : Nat → Option Addr} {C : Nat → Nat} {L : Nat → Ln} {y : Option Addr} {n : Nat} {f g : Nat → Int} (h : MO base w B N A C L y n f) (e : ∀ i, i < n → f i = g i) : MO base w B N A C L y n g := by
  refine ⟨h.1, ?_⟩
  rcases h.2 with e0 | ⟨Y, o, ha, h1, h2, h3, ho⟩
  · exact .inl e0
  · exact .inr ⟨Y, o, ha, h1, h2, h3, ho.congr e⟩
theorem MO.keep {base : Nat} {w w' : World} {B N : Nat} {A : Nat → Option Addr} {C : Nat → Nat} {L : Nat → Ln} {y : Option Addr} {n : Nat} {tn : Nat → Int} (h : MO base w B N A C L y n tn) (hB : w'.heap[B]? = w.heap[B]?) (hk : ∀ i, i < N → (L i).n ≠ 0 → ∀ g : Nat, A i = some ⟨g, 0, none⟩ → w'.heap[g]? = w.heap[g]?) (hy : ∀ Y o : Nat, n ≠ 0 → y = some ⟨Y, o, none⟩ → w'.heap[Y]? = w.heap[Y]?) (hs : w.heap.size ≤ w'.heap.size) : MO base w' B N A C L y n tn := by
  refine ⟨h.1.keep hB hk hs, ?_⟩
  by_cases hn : n = 0
  · exact .inl hn
  · rcases h.2 with e | ⟨Y, o, ha, h1, h2, h3, ho⟩
    · exact .inl e
    · exact .inr ⟨Y, o, ha, h1, h2, h3, ho.same (hy Y o hn ha) hs⟩

set_option maxHeartbeats 1000000 in
/-- markShape, whatever its lists: nothing turns at `up` or above. -/
theorem markShape_mo (base up : Nat) (s : Sh) (B N ca : Nat) (y : Option Addr) (n cy : Nat) (A : Nat → Option Addr) (C : Nat → Nat) (L : Nat → Ln) (tn : Nat → Int) (k0 : Int) (w : World) (hmk : MO base w B N A C L y n tn) (hun : Under up B N A L) (hyu : ∀ Y o : Nat, n ≠ 0 → y = some ⟨Y, o, none⟩ → Y < up) (hup : up ≤ w.heap.size) (hN : N ≤ 1048576) (hcn : cntF L N ≤ 1048576) (hn : n ≤ 1048576) (h0 : 0 ≤ k0) (h1 : k0 ≤ 1000000000) :
    Calls Try.prog 12 #[shVal s (some ⟨B, 0, none⟩) N ca y n cy, .int .i64 k0] w fun e w' => e = .returned (.int .i64 (upAt L k0 N + n)) ∧ MO base w' B N A C (upL L k0) y n (fun i => upAt L k0 N + i) ∧ Chg base up w w' := by
  obtain ⟨hlw, hy⟩ := hmk
  have HLW : Hid (LW base w B N A C L) := hlw
  have HUN : Hid (Under up B N A L) := hun
  have HYU : Hid (∀ Y o : Nat, n ≠ 0 → y = some ⟨Y, o, none⟩ → Y < up) := hyu
  have HUP : Hid (up ≤ w.heap.size) := hup
  have HY : Hid (n = 0 ∨ ∃ Y o : Nat, y = some ⟨Y, o, none⟩ ∧ base ≤ Y ∧ Y ≠ B ∧ (∀ i, i < N → (L i).n ≠ 0 → A i ≠ some ⟨Y, 0, none⟩) ∧ OwnO w Y o n tn) := hy
  have HC : Hid (cntF L N ≤ 1048576) := hcn
  have HN : Hid (N ≤ 1048576) := hN
  have HNN : Hid (n ≤ 1048576) := hn
  obtain ⟨Q, hQ⟩ : ∃ q, upAt L k0 N = q := ⟨_, rfl⟩
  have hb : 0 ≤ Q ∧ Q ≤ 1099511627776 := by rw [← hQ]; unfold upAt; omega
  obtain ⟨q0, q1⟩ := hb
  rw [hQ]
  have HQ : Hid (upAt L k0 N = Q) := hQ
  clear hlw hy hcn hN hn hQ hun hyu hup
  obtain ⟨W0, hW0⟩ : ∃ W, w.alloc (.cells (shCells s (some ⟨B, 0, none⟩) N ca y n cy) 29) = W := ⟨_, rfl⟩
  have s0 : Sits W0 w.heap.size (shCells s (some ⟨B, 0, none⟩) N ca y n cy) 29 := by rw [← hW0]; exact Sits.new _ _ _
  have b0 : Below w.heap.size w W0 := by rw [← hW0]; exact (Below.refl _ w).alloc (Nat.le_refl _) _
  have HW0 : Hid (w.alloc (.cells (shCells s (some ⟨B, 0, none⟩) N ca y n cy) 29) = W0) := hW0
  have HB0 : Hid (Below w.heap.size w W0) := b0
  have HS0 : Hid (Sits W0 w.heap.size (shCells s (some ⟨B, 0, none⟩) N ca y n cy) 29) := s0
  have x2 := s0.cell 5
  clear s0 b0 hW0
  go_enter Try.func12, Try.ntmps12
  go_upto_region 1 with fail
  rw [HW0.out]
  clear HW0
  go_upto_region 2 with (go_at_call 38; refine (markLineS_lw base up B N ca A C L k0 _ (LW.below HLW.out HB0.out) HUN.out HN.out HC.out h0 h1).mono ?_; rintro e w1 ⟨rfl, lo1, c1, k1⟩; rw [HQ.out]; have HLW1 : Hid (LW base w1 B N A C (upL L k0)) := lo1; have HC1 : Hid (Chg base up W0 w1) := c1; have HK1 : Hid (∀ k, k < W0.heap.size → k ≠ B → (∀ i, i < N → (L i).n ≠ 0 → A i ≠ some ⟨k, 0, none⟩) → w1.heap[k]? = W0.heap[k]?) := k1; have s1 := Sits.chg HS0.out c1 (.inr HUP.out); have x3 := s1.cell 6; have HS1 : Hid (Sits w1 w.heap.size (shCells s (some ⟨B, 0, none⟩) N ca y n cy) 29) := s1; clear lo1 c1 s1 k1)
  have HY1 : Hid (n = 0 ∨ ∃ Y o : Nat, y = some ⟨Y, o, none⟩ ∧ base ≤ Y ∧ Y ≠ B ∧ (∀ i, i < N → (L i).n ≠ 0 → A i ≠ some ⟨Y, 0, none⟩) ∧ Y < w.heap.size ∧ OwnO w1 Y o n tn) := by
    rcases HY.out with e | ⟨Y, o, ha, hg, hne, hA, ho⟩
    · exact .inl e
    · refine .inr ⟨Y, o, ha, hg, hne, hA, ho.1, ?_⟩
      exact (ho.same ((HB0.out).block Y ho.1) (HB0.out).size).same (HK1.out Y (Nat.lt_of_lt_of_le ho.1 (HB0.out).size) hne hA) (HC1.out).size
  obtain ⟨zl, zu, hzi, hzb⟩ : ∃ zl zu : Nat, ZO zl zu w1 y n tn ∧ ((n = 0 ∧ zl = base ∧ zu = base) ∨ (∃ Y o, y = some ⟨Y, o, none⟩ ∧ zl = Y ∧ zu = Y + 1 ∧ base ≤ Y ∧ Y < up ∧ Y ≠ B ∧ ∀ i, i < N → (L i).n ≠ 0 → A i ≠ some ⟨Y, 0, none⟩)) := by
    rcases HY1.out with e | ⟨Y, o, ha, hg, hne, hA, hlt, ho⟩
    · exact ⟨base, base, .inl e, .inl ⟨e, rfl, rfl⟩⟩
    · by_cases hn0 : n = 0
      · exact ⟨base, base, .inl hn0, .inl ⟨hn0, rfl, rfl⟩⟩
      · exact ⟨Y, Y + 1, .inr ⟨Y, o, ha, Nat.le_refl _, Nat.lt_succ_self _, ho⟩, .inr ⟨Y, o, ha, rfl, rfl, hg, HYU.out Y o hn0 ha, hne, hA⟩⟩
  have HZI : Hid (ZO zl zu w1 y n tn) := hzi
  have HZB : Hid ((n = 0 ∧ zl = base ∧ zu = base) ∨ (∃ Y o, y = some ⟨Y, o, none⟩ ∧ zl = Y ∧ zu = Y + 1 ∧ base ≤ Y ∧ Y < up ∧ Y ≠ B ∧ ∀ i, i < N → (L i).n ≠ 0 → A i ≠ some ⟨Y, 0, none⟩)) := hzb
  clear hzi hzb
  go_wp2_with (go_at_call 39; refine (markIntS_zo zl zu y n cy tn Q _ HZI.out HNN.out q0 q1).mono ?_; rintro e w2 ⟨rfl, z2, c2⟩; have HZ2 : Hid (ZO zl zu w2 y n (fun i => Q + i)) := z2; have HC2 : Hid (Chg zl zu w1 w2) := c2; clear z2 c2)
  go_ret
  have hlB := (LW.lt HLW1.out)
  refine ⟨rfl, ⟨LW.keep HLW1.out ?_ (fun i hi hz g ha => ?_) (HC2.out).size, ?_⟩, ((Chg.of_below HB0.out).trans HC1.out).trans (Chg.wide HC2.out ?_ ?_)⟩
  · refine (HC2.out).block B hlB ?_
    rcases HZB.out with ⟨_, e1, e2⟩ | ⟨Y, _, _, e1, e2, _, _, hne, _⟩ <;> omega
  · refine (HC2.out).block g ((LW.lt2 HLW1.out hi hz ha).1) ?_
    rcases HZB.out with ⟨_, e1, e2⟩ | ⟨Y, _, _, e1, e2, _, _, hne, hA⟩
    · omega
    · have : g ≠ Y := fun e => hA i hi hz (by rw [ha, e])
      omega
  · rcases HZB.out with ⟨e, _, _⟩ | ⟨Y, o, ha, e1, e2, hg, hlt, hne, hA⟩
    · exact .inl e
    · rcases HZ2.out with e | ⟨Y', o', ha', _, _, ho⟩
      · exact .inl e
      · rw [ha] at ha'; cases ha'
        exact .inr ⟨Y, o, ha, hg, hne, hA, ho⟩
  · rcases HZB.out with ⟨_, e1, e2⟩ | ⟨Y, _, _, e1, e2, hg, hlt, _, _⟩ <;> omega
  · have hbB := (HLW.out).lo
    have hBu := (HUN.out).1
    rcases HZB.out with ⟨_, e1, e2⟩ | ⟨Y, _, _, e1, e2, hg, hlt, _, _⟩ <;> omega

/-- The lists of an answer, one's own and apart, or none. -/
def MO0 (base : Nat) (w : World) (x : Option Addr) (N : Nat) (L : Nat → Ln) (y : Option Addr) (n : Nat) (tn : Nat → Int) : Prop :=
  (N = 0 ∧ n = 0) ∨ ∃ (B : Nat) (A : Nat → Option Addr) (C : Nat → Nat), x = some ⟨B, 0, none⟩ ∧ MO base w B N A C L y n tn
theorem MO0.lr {base : Nat} {w : World} {x : Option Addr} {N : Nat} {L : Nat → Ln} {y : Option Addr} {n : Nat} {tn : Nat → Int} (h : MO0 base w x N L y n tn) : LR w.heap.size w x N L := by
  rcases h with ⟨h, _⟩ | ⟨B, A, C, rfl, h⟩
  · exact .inl h
  · exact h.1.lr
theorem MO0.row {base : Nat} {w : World} {x : Option Addr} {N : Nat} {L : Nat → Ln} {y : Option Addr} {n : Nat} {tn : Nat → Int} (h : MO0 base w x N L y n tn) : Row .i64 w y n tn := by
  rcases h with ⟨_, h⟩ | ⟨B, A, C, rfl, h⟩
  · exact .inl h
  · exact h.row
theorem MO0.keep {base : Nat} {w w' : World} {x : Option Addr} {N : Nat} {L : Nat → Ln} {y : Option Addr} {n : Nat} {tn : Nat → Int} (h : MO0 base w x N L y n tn) (hk : ∀ k, base ≤ k → k < w.heap.size → w'.heap[k]? = w.heap[k]?) (hs : w.heap.size ≤ w'.heap.size) : MO0 base w' x N L y n tn := by
  rcases h with h | ⟨B, A, C, e, h⟩
  · exact .inl h
  · refine .inr ⟨B, A, C, e, h.keep (hk B h.1.lo h.1.lt) (fun i hi hz g ha => hk g (h.1.lt2 hi hz ha).2 (h.1.lt2 hi hz ha).1) (fun Y o hn ha => ?_) hs⟩
    rcases h.2 with e | ⟨Y', o', ha', h1, h2, h3, ho⟩
    · exact absurd e hn
    · rw [ha] at ha'; cases ha'; exact hk Y h1 ho.1
theorem MO0.below {base : Nat} {w w' : World} {x : Option Addr} {N : Nat} {L : Nat → Ln} {y : Option Addr} {n : Nat} {tn : Nat → Int} (h : MO0 base w x N L y n tn) (hb : Below w.heap.size w w') : MO0 base w' x N L y n tn :=
  h.keep (fun k _ hk => hb.block k hk) hb.size
theorem MO0.mono {base base' : Nat} {w : World} {x : Option Addr} {N : Nat} {L : Nat → Ln} {y : Option Addr} {n : Nat} {tn : Nat → Int} (h : MO0 base w x N L y n tn) (hb : base' ≤ base) : MO0 base' w x N L y n tn := by
  rcases h with h | ⟨B, A, C, e, h1, h2⟩
  · exact .inl h
  · refine .inr ⟨B, A, C, e, ⟨by have := h1.lo; omega, h1.sits, h1.cap, fun i hi => ?_, h1.apart⟩, ?_⟩
    · rcases h1.own i hi with e | ⟨g, ha, hg, hne, ho⟩
      · exact .inl e
      · exact .inr ⟨g, ha, by omega, hne, ho⟩
    · rcases h2 with e | ⟨Y, o, ha, hg, hx⟩
      · exact .inl e
      · exact .inr ⟨Y, o, ha, by omega, hx⟩
theorem MO0.far {base : Nat} {w : World} {x : Option Addr} {N : Nat} {L : Nat → Ln} {y : Option Addr} {n : Nat} {tn : Nat → Int} (h : MO0 base w x N L y n tn) {V : Nat} (hV : V < base) (o : Nat) (v : Value) : MO0 base (w.setCell ⟨V, o, none⟩ v) x N L y n tn :=
  h.keep (fun k hk _ => Below.heap_setCell w ⟨V, o, none⟩ v k (by show k ≠ V; omega)) (by simp)
theorem MO0.of_so {base : Nat} {w : World} {B N : Nat} {A : Nat → Option Addr} {C : Nat → Nat} {L : Nat → Ln} {y : Option Addr} {n : Nat} {tn : Nat → Int} (h : SO base w B A C N L y n tn) : MO0 base w (some ⟨B, 0, none⟩) N L y n tn := .inr ⟨B, A, C, rfl, MO.of_mk (MK.of_so h)⟩

set_option maxHeartbeats 1000000 in
theorem markShape_nil (s : Sh) (a : Option Addr) (ca : Nat) (b : Option Addr) (cb : Nat) (k0 : Int) (w : World) (q0 : 0 ≤ k0) (q1 : k0 ≤ 1099511627776) :
    Calls Try.prog 12 #[shVal s a 0 ca b 0 cb, .int .i64 k0] w fun e w' => e = .returned (.int .i64 k0) ∧ Below w.heap.size w w' := by
  obtain ⟨W0, hW0⟩ : ∃ W, w.alloc (.cells (shCells s a 0 ca b 0 cb) 29) = W := ⟨_, rfl⟩
  have s0 : Sits W0 w.heap.size (shCells s a 0 ca b 0 cb) 29 := by rw [← hW0]; exact Sits.new _ _ _
  have b0 : Below w.heap.size w W0 := by rw [← hW0]; exact (Below.refl _ w).alloc (Nat.le_refl _) _
  have HW0 : Hid (w.alloc (.cells (shCells s a 0 ca b 0 cb) 29) = W0) := hW0
  have HB0 : Hid (Below w.heap.size w W0) := b0
  have HS0 : Hid (Sits W0 w.heap.size (shCells s a 0 ca b 0 cb) 29) := s0
  have x2 := s0.cell 5
  have x3 := s0.cell 6
  clear s0 b0 hW0
  go_enter Try.func12, Try.ntmps12
  go_upto_region 1 with fail
  rw [HW0.out]
  clear HW0
  go_upto_region 2 with (go_at_call 38; refine (markLineS_nil a ca k0 _).mono ?_; rintro e w1 ⟨rfl, hw1⟩; replace hw1 := hw1.symm; subst hw1)
  go_wp2_with (go_at_call 39; refine (markIntS_nil b cb k0 _ q0 q1).mono ?_; rintro e w2 ⟨rfl, c2⟩; have HB2 : Hid (Below w.heap.size w w2) := (HB0.out).trans (c2.none.mono (HB0.out).size); clear c2)
  go_ret
  exact ⟨rfl, HB2.out⟩

/-- The lists of an answer, all of them between two bounds. -/
def UO (base up : Nat) (w : World) (x : Option Addr) (N : Nat) (L : Nat → Ln) (y : Option Addr) (n : Nat) (tn : Nat → Int) : Prop :=
  up ≤ w.heap.size ∧ ((N = 0 ∧ n = 0) ∨ ∃ (B : Nat) (A : Nat → Option Addr) (C : Nat → Nat), x = some ⟨B, 0, none⟩ ∧ MO base w B N A C L y n tn ∧ Under up B N A L ∧ ∀ Y o : Nat, n ≠ 0 → y = some ⟨Y, o, none⟩ → Y < up)
theorem UO.mo0 {base up : Nat} {w : World} {x : Option Addr} {N : Nat} {L : Nat → Ln} {y : Option Addr} {n : Nat} {tn : Nat → Int} (h : UO base up w x N L y n tn) : MO0 base w x N L y n tn := by
  rcases h.2 with e | ⟨B, A, C, e, h, _⟩
  · exact .inl e
  · exact .inr ⟨B, A, C, e, h⟩
theorem UO.of {base : Nat} {w : World} {x : Option Addr} {N : Nat} {L : Nat → Ln} {y : Option Addr} {n : Nat} {tn : Nat → Int} (h : MO0 base w x N L y n tn) : UO base w.heap.size w x N L y n tn := by
  refine ⟨Nat.le_refl _, ?_⟩
  rcases h with e | ⟨B, A, C, e, h⟩
  · exact .inl e
  · refine .inr ⟨B, A, C, e, h, h.1.under, fun Y o hn hy => ?_⟩
    rcases h.2 with e | ⟨Y', o', ha, _, _, _, ho⟩
    · exact absurd e hn
    · rw [ha] at hy; cases hy; exact ho.1
theorem UO.keep {base up : Nat} {w w' : World} {x : Option Addr} {N : Nat} {L : Nat → Ln} {y : Option Addr} {n : Nat} {tn : Nat → Int} (h : UO base up w x N L y n tn) (hk : ∀ k, base ≤ k → k < up → w'.heap[k]? = w.heap[k]?) (hs : w.heap.size ≤ w'.heap.size) : UO base up w' x N L y n tn := by
  refine ⟨Nat.le_trans h.1 hs, ?_⟩
  rcases h.2 with e | ⟨B, A, C, e, hm, hu, hY⟩
  · exact .inl e
  · refine .inr ⟨B, A, C, e, hm.keep (hk B hm.1.lo hu.1) (fun i hi hz g ha => hk g (hm.1.lt2 hi hz ha).2 (hu.2 i hi hz _ ha)) (fun Y o hn ha => ?_) hs, hu, hY⟩
    rcases hm.2 with e | ⟨Y', o', ha', h1, _⟩
    · exact absurd e hn
    · rw [ha] at ha'; cases ha'; exact hk Y h1 (hY Y o hn ha)
theorem UO.below {base up : Nat} {w w' : World} {x : Option Addr} {N : Nat} {L : Nat → Ln} {y : Option Addr} {n : Nat} {tn : Nat → Int} (h : UO base up w x N L y n tn) (hb : Below w.heap.size w w') : UO base up w' x N L y n tn := h.keep (fun k _ hk => hb.block k (Nat.lt_of_lt_of_le hk h.1)) hb.size
theorem UO.chg {base up : Nat} {w w' : World} {x : Option Addr} {N : Nat} {L : Nat → Ln} {y : Option Addr} {n : Nat} {tn : Nat → Int} {L0 U0 : Nat} (h : UO base up w x N L y n tn) (hc : Chg L0 U0 w w') (hU : U0 ≤ base ∨ up ≤ L0) : UO base up w' x N L y n tn := h.keep (fun k h1 h2 => hc.block k (Nat.lt_of_lt_of_le h2 h.1) (by omega)) hc.size
theorem UO.far {base up : Nat} {w : World} {x : Option Addr} {N : Nat} {L : Nat → Ln} {y : Option Addr} {n : Nat} {tn : Nat → Int} (h : UO base up w x N L y n tn) {V : Nat} (hV : V < base) (o : Nat) (v : Value) : UO base up (w.setCell ⟨V, o, none⟩ v) x N L y n tn := h.keep (fun k hk _ => Below.heap_setCell w ⟨V, o, none⟩ v k (by show k ≠ V; omega)) (by simp)
theorem markShape_uo (base up : Nat) (s : Sh) (x : Option Addr) (N ca : Nat) (y : Option Addr) (n cy : Nat) (L : Nat → Ln) (tn : Nat → Int) (k0 : Int) (w : World) (hmk : UO base up w x N L y n tn) (hN : N ≤ 1048576) (hcn : cntF L N ≤ 1048576) (hn : n ≤ 1048576) (h0 : 0 ≤ k0) (h1 : k0 ≤ 1000000000) :
    Calls Try.prog 12 #[shVal s x N ca y n cy, .int .i64 k0] w fun e w' => e = .returned (.int .i64 (upAt L k0 N + n)) ∧ UO base up w' x N (upL L k0) y n (fun i => upAt L k0 N + i) ∧ Chg base up w w' := by
  obtain ⟨hup, ⟨rfl, rfl⟩ | ⟨B, A, C, rfl, hmk, hu, hY⟩⟩ := hmk
  · refine (markShape_nil s x ca y cy k0 w h0 (by omega)).mono ?_
    rintro e w' ⟨rfl, hb⟩
    exact ⟨by simp [upAt, cntF], ⟨Nat.le_trans hup hb.size, .inl ⟨rfl, rfl⟩⟩, Chg.of_below hb⟩
  · refine (markShape_mo base up s B N ca y n cy A C L tn k0 w hmk hu hY hup hN hcn hn h0 h1).mono ?_
    rintro e w' ⟨rfl, hm, hc⟩
    exact ⟨rfl, ⟨Nat.le_trans hup hc.size, .inr ⟨B, A, C, rfl, hm, ⟨hu.1, fun i hi hz p hp => hu.2 i hi hz p hp⟩, hY⟩⟩, hc⟩

end Go.Proofs.Ytmjggolllijamaa
