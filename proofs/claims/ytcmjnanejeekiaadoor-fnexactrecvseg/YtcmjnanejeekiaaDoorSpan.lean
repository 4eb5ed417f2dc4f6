/-
  SPANS IN MEMORY: a span's two numbers, a list of spans; the laws' toSpan, eqSpan, toSpanS, eqSpanS, szSpanS, toRecv, eqRecv, szRecv.
-/
import Derived.Test.YtcmjnanejeekiaaDoorPk
import Derived.Test.YtcmjnanejeekiaaDoorSits
import Derived.Test.YtcmjnanejeekiaaDoorBys
import Derived.Laws.MakeOwn
import Derived.Deep.Quiet
import Derived.Deep.QuietTactic
import Derived.BigQuiet
import Derived.Deep.Cut
namespace Go.Proofs.YtcmjnanejeekiaaDoor
open Go.RowKit
set_option linter.unusedVariables false

/-- A span. -/
structure Sp where
  fr : Int
  to : Int
instance : Inhabited Sp := ⟨⟨0, 0⟩⟩
@[reducible] def Sp.val (p : Sp) : Value := .agg #[.int .i64 p.fr, .int .i64 p.to]
@[reducible] def spCells (p : Sp) : Array Value := #[.int .i64 p.fr, .int .i64 p.to]
def Sp.In (p : Sp) : Prop := (-9223372036854775808 ≤ p.fr ∧ p.fr ≤ 9223372036854775807) ∧ (-9223372036854775808 ≤ p.to ∧ p.to ≤ 9223372036854775807)
/-- A span's two cells from o on in block b. -/
def SAt (w : World) (b o : Nat) (p : Sp) : Prop := w.cell? ⟨b, o, none⟩ = some (.int .i64 p.fr) ∧ w.cell? ⟨b, o + 1, none⟩ = some (.int .i64 p.to)
theorem SAt.below {n₀ : Nat} {w w' : World} {b o : Nat} {p : Sp} (h : SAt w b o p) (hb : Below n₀ w w') (hlt : b < n₀) : SAt w' b o p :=
  ⟨(hb.cell (p := ⟨b, o, none⟩) hlt).trans h.1, (hb.cell (p := ⟨b, o + 1, none⟩) hlt).trans h.2⟩
/-- A list of n spans f 0, f 1 .. in a block below n₀. -/
def SR (n₀ : Nat) (w : World) (a : Option Addr) (n : Nat) (f : Nat → Sp) : Prop :=
  n = 0 ∨ ∃ b off : Nat, a = some ⟨b, off, none⟩ ∧ b < n₀ ∧ ∀ i, i < n → SAt w b (off + i * 2) (f i)
theorem SR.below {n₀ : Nat} {w w' : World} {a : Option Addr} {n : Nat} {f : Nat → Sp} (h : SR n₀ w a n f) (hb : Below n₀ w w') : SR n₀ w' a n f := by
  rcases h with h | ⟨b, off, ha, hlt, hc⟩
  · exact .inl h
  · exact .inr ⟨b, off, ha, hlt, fun i hi => (hc i hi).below hb hlt⟩
theorem SR.at {n₀ : Nat} {w : World} {a : Option Addr} {n : Nat} {f : Nat → Sp} (h : SR n₀ w a n f) {j : Nat} (hj : j < n) : ∃ b off : Nat, a = some ⟨b, off, none⟩ ∧ b < n₀ ∧ ∀ i, i < n → SAt w b (off + i * 2) (f i) := by
  rcases h with h | h
  · omega
  · exact h
theorem SR.mono {n₀ n₁ : Nat} {w : World} {a : Option Addr} {n : Nat} {f : Nat → Sp} (h : SR n₀ w a n f) (hm : n₀ ≤ n₁) : SR n₁ w a n f := by
  rcases h with h | ⟨b, off, ha, hlt, hc⟩
  · exact .inl h
  · exact .inr ⟨b, off, ha, by omega, hc⟩
/-- Spans one behind another, two numbers each. -/
def flatS (f : Nat → Sp) (o : Nat) : Int := if o % 2 = 0 then (f (o / 2)).fr else (f (o / 2)).to
theorem flatS_0 (f : Nat → Sp) (i : Nat) : flatS f (i * 2) = (f i).fr := by
  unfold flatS
  rw [if_pos (by omega), show i * 2 / 2 = i by omega]
theorem flatS_1 (f : Nat → Sp) (i : Nat) : flatS f (i * 2 + 1) = (f i).to := by
  unfold flatS
  rw [if_neg (by omega), show (i * 2 + 1) / 2 = i by omega]
theorem sat_of {w : World} {B n : Nat} {f : Nat → Sp} (h : Own .i64 w B (n * 2) (flatS f)) {i : Nat} (hi : i < n) : SAt w B (i * 2) (f i) := by
  refine ⟨?_, ?_⟩
  · rw [(h.2 (i * 2) (by omega)).1, flatS_0]
  · rw [(h.2 (i * 2 + 1) (by omega)).1, flatS_1]
/-- m numbers at the head of a block of the zone L .. U - 1, which may be written (none: anywhere). -/
def ZS (L U : Nat) (w : World) (a : Option Addr) (m : Nat) (g : Nat → Int) : Prop := m = 0 ∨ ∃ B : Nat, a = some ⟨B, 0, none⟩ ∧ L ≤ B ∧ B < U ∧ Own .i64 w B m g
theorem ZS.below {L U : Nat} {w w' : World} {a : Option Addr} {m : Nat} {g : Nat → Int} (h : ZS L U w a m g) (hb : Below w.heap.size w w') : ZS L U w' a m g := by
  rcases h with h | ⟨B, ha, h1, h2, ho⟩
  · exact .inl h
  · exact .inr ⟨B, ha, h1, h2, ho.below hb⟩
theorem ZS.sr {L U : Nat} {w : World} {a : Option Addr} {n : Nat} {f : Nat → Sp} (h : ZS L U w a (n * 2) (flatS f)) : SR w.heap.size w a n f := by
  rcases h with h | ⟨B, ha, _, _, ho⟩
  · exact .inl (by omega)
  · exact .inr ⟨B, 0, ha, ho.1, fun i hi => by rw [Nat.zero_add]; exact sat_of ho hi⟩

theorem toSpan_any (p : Sp) (w : World) :
    Calls Tryd.prog 47 #[p.val] w fun o w' => o = .returned p.val ∧ Below w.heap.size w w' := by
  obtain ⟨a, b⟩ := p
  simp only [Sp.val]
  go_enter Tryd.func47, Tryd.ntmps47
  go_wp2
  exact bodyPost_ret (v := .agg #[.int .i64 a, .int .i64 b]) (by simp [results, Tryd.results47, go_sem]) rfl ⟨rfl, by go_grown⟩

theorem eqSpan_yes (p : Sp) (w : World) :
    Calls Tryd.prog 51 #[p.val, p.val] w fun o w' => o = .returned (.bool true) ∧ Below w.heap.size w w' := by
  obtain ⟨a, b⟩ := p
  simp only [Sp.val]
  go_enter Tryd.func51, Tryd.ntmps51
  go_wp2
  go_ret
  exact ⟨rfl, by go_grown⟩

theorem infoSpan : (Tryd.prog.info? 60).map (fun i => (i.zero, i.size, i.bytes)) = some (some (.agg #[.int .i64 0, .int .i64 0]), 2, 16) := by kernel_rfl

/-- make([]Span, n). -/
theorem run_make_sp (n : Nat) (hn : n ≤ 1048576) (w : World) :
    (Instr.makeSlice 26 (.int .i64 (n : Int)) (.int .i64 (n : Int))).run Tryd.prog w = .ok (.slice (some ⟨w.heap.size, 0, none⟩) n n) (w.alloc (.cells (madeCells #[.int .i64 0, .int .i64 0] (n * 2)) 60)) := by
  obtain ⟨i, hi, hzz⟩ := Option.map_eq_some_iff.1 infoSpan
  simp only [Prod.mk.injEq] at hzz
  obtain ⟨hz, hs, hb⟩ := hzz
  have hr := run_make (P := Tryd.prog) w 26 60 i _ Tryd.underlying26 hi hz .i64 .i64 n n (by omega) (Int.le_refl _) (by rw [hb]; omega) (by omega)
  simp only [Int.toNat_natCast, hs, Value.cells] at hr
  exact hr

theorem made_ints2 {w : World} (n : Nat) (t : TypeId) : Own .i64 (w.alloc (.cells (madeCells #[.int .i64 0, .int .i64 0] (n * 2)) t)) w.heap.size (n * 2) (fun _ => 0) := by
  refine ⟨by simp, fun i hi => ⟨?_, ?_⟩⟩
  · rw [World.cell?_alloc_new]
    have h6 : i % 2 < 2 := Nat.mod_lt _ (by omega)
    simp only [madeCells, Array.getElem?_map, Array.getElem?_range, hi, if_true, Option.map_some]
    match h : i % 2, h6 with
    | 0, _ => simp
    | 1, _ => simp
  · rw [frozen?_alloc_cells]
    simp [World.frozen?]

theorem own_set2 {w : World} {B n : Nat} {g : Nat → Int} (h : Own .i64 w B (n * 2) g) (k : Nat) (hk : k < n) (p : Sp) :
    Own .i64 ((w.setCell ⟨B, k * 2, none⟩ (.int .i64 p.fr)).setCell ⟨B, k * 2 + 1, none⟩ (.int .i64 p.to)) B (n * 2) (fun o => if o / 2 = k then (if o % 2 = 0 then p.fr else p.to) else g o) := by
  have h6 := (h.set (k * 2) (by omega) p.fr).set (k * 2 + 1) (by omega) p.to
  refine h6.congr fun o ho => ?_
  by_cases e : o / 2 = k
  · rw [if_pos e]
    have hm : o = k * 2 ∨ o = k * 2 + 1 := by omega
    rcases hm with rfl | rfl
    · have h2 : k * 2 % 2 = 0 := by omega
      simp [h2]
    · simp
  · rw [if_neg e]
    have a0 : o ≠ k * 2 := by omega
    have a1 : o ≠ k * 2 + 1 := by omega
    simp [a0, a1]

set_option maxHeartbeats 1000000 in
theorem toSpanS_any (a : Option Addr) (n cap : Nat) (f : Nat → Sp) (w : World) (hP : SR w.heap.size w a n f) (hn : n ≤ 1048576) :
    Calls Tryd.prog 25 #[.slice a n cap] w fun e w' => ∃ x : Option Addr, e = .returned (.slice x n n) ∧ ZS w.heap.size w'.heap.size w' x (n * 2) (flatS f) ∧ Below w.heap.size w w' := by
  have HP : Hid (SR w.heap.size w a n f) := hP
  clear hP
  have hmk := run_make_sp n hn
  go_enter Tryd.func25, Tryd.ntmps25
  go_wp2
  go_loopw [4] (fun i wr => ∃ k : Nat, k ≤ n ∧ i = .int .i64 k ∧ Below w.heap.size w wr ∧ Own .i64 wr w.heap.size (n * 2) (fun o => if o / 2 < k then flatS f o else 0)) (fun i _ => n - (intOf i).toNat)
  case atStart => exact ⟨0, Nat.zero_le _, rfl, (Below.refl _ _).alloc (Nat.le_refl _) _, (made_ints2 n _).congr fun i _ => by simp⟩
  case round =>
    obtain ⟨k, hk, rfl, hb, ho⟩ := hrel
    by_cases hlt : k < n
    · obtain ⟨b, off, rfl, hbl, hc⟩ := SR.at HP.out hlt
      obtain ⟨c0, c1⟩ := (hc k hlt).below hb hbl
      have HO : Hid (Own .i64 wr w.heap.size (n * 2) (fun o => if o / 2 < k then flatS f o else 0)) := ho
      clear hc ho
      go_wp2_with (go_at_call 47; refine (toSpan_any (f k) _).mono ?_; rintro e w1 ⟨rfl, hk1⟩; have o1 := Own.below HO.out hk1; have e0 := o1.2 (k * 2) (by omega); have e1 := o1.2 (k * 2 + 1) (by omega); have O1 : Hid (Own .i64 w1 w.heap.size (n * 2) (fun o => if o / 2 < k then flatS f o else 0)) := o1; obtain ⟨e00, e01⟩ := e0; obtain ⟨e10, e11⟩ := e1; clear o1)
      go_roundw
      case rel => exact ⟨k + 1, by omega, by go_num, ((hb.trans (hk1.mono hb.size)).setCell (Nat.le_refl _) _).setCell (Nat.le_refl _) _, (own_set2 O1.out k hlt (f k)).congr fun o ho => by
        by_cases e : o / 2 = k
        · rw [if_pos e, if_pos (show o / 2 < k + 1 by omega)]; unfold flatS; rw [e]
        · rw [if_neg e]
          by_cases h : o / 2 < k
          · rw [if_pos h, if_pos (by omega)]
          · rw [if_neg h, if_neg (by omega)]⟩
      case measure => simp [intOf]; omega
    · obtain rfl : k = n := by omega
      have HO : Hid _ := ho
      clear ho
      go_wp2
      go_ret
      exact ⟨_, rfl, .inr ⟨_, rfl, Nat.le_refl _, (HO.out).1, Own.congr HO.out fun i hi => by rw [if_pos (by omega)]⟩, hb⟩

set_option maxRecDepth 100000 in
set_option maxHeartbeats 2000000 in
theorem eqSpanS_yes (a b : Option Addr) (n ca cb : Nat) (f : Nat → Sp) (w : World) (ha : SR w.heap.size w a n f) (hb : SR w.heap.size w b n f) (hn : n ≤ 1048576) :
    Calls Tryd.prog 29 #[.slice a n ca, .slice b n cb] w fun e w' => e = .returned (.bool true) ∧ Below w.heap.size w w' := by
  have HA : Hid (SR w.heap.size w a n f) := ha
  have HB : Hid (SR w.heap.size w b n f) := hb
  clear ha hb
  go_enter Tryd.func29, Tryd.ntmps29
  go_wp2
  go_loopw [5] (fun i wr => ∃ k : Nat, k ≤ n ∧ i = .int .i64 k ∧ Below w.heap.size w wr) (fun i _ => n - (intOf i).toNat)
  case atStart => exact ⟨0, Nat.zero_le _, rfl, Below.refl _ _⟩
  case round =>
    obtain ⟨k, hk, rfl, hkept⟩ := hrel
    by_cases hlt : k < n
    · obtain ⟨b1, o1, rfl, l1, h1⟩ := SR.at HA.out hlt
      obtain ⟨b2, o2, rfl, l2, h2⟩ := SR.at HB.out hlt
      obtain ⟨c0, c1⟩ := (h1 k hlt).below hkept l1
      obtain ⟨d0, d1⟩ := (h2 k hlt).below hkept l2
      clear h1 h2
      have hsz := hkept.size
      go_wp2
      refine wp_region_quiet (C := fun w' => Below wr.heap.size wr w') (by kernel_rfl) (by kernel_rfl) ((Below.refl _ _).drew) ?_
      simp only []
      repeat (first
        | go_big_quiet_skip
        | (go_big_quiet_want
           unfold Oper.quiet
           apply Exists.intro
           refine ⟨fun w' hw' => ?_, ?_⟩
           (have y0 := (hw'.cell (p := ⟨b1, o1 + k * 2, none⟩) (by show b1 < _; omega)).trans c0
            have y1 := (hw'.cell (p := ⟨b1, o1 + k * 2 + 1, none⟩) (by show b1 < _; omega)).trans c1
            have z0 := (hw'.cell (p := ⟨b2, o2 + k * 2, none⟩) (by show b2 < _; omega)).trans d0
            have z1 := (hw'.cell (p := ⟨b2, o2 + k * 2 + 1, none⟩) (by show b2 < _; omega)).trans d1
            go_simp
            first
              | (go_at_call 51; refine (eqSpan_yes (f k) _).mono ?_; rintro e w1 ⟨rfl, hk1⟩; exact ⟨rfl, hw'.trans (hk1.mono hw'.size)⟩)
              | exact rfl)
           simp only [Act.put, List.setIfInBounds_toArray, List.set_cons_zero, List.set_cons_succ]
           go_big_quiet_on))
      refine wpQuiet_nil ?_
      intro w2 hw2
      go_wp2
      go_roundw
      case rel => exact ⟨k + 1, by omega, by go_num, hkept.trans (hw2.mono hsz)⟩
      case measure => simp [intOf]; omega
    · obtain rfl : k = n := by omega
      go_wp2
      go_ret
      exact ⟨rfl, hkept⟩

theorem szSpanS_any (a : Option Addr) (n cap : Nat) (l : Int) (w : World) (hn : (n : Int) ≤ 9223372036854775807) (h0 : 0 ≤ l) (h1 : l ≤ 1048576) :
    Calls Tryd.prog 21 #[.slice a n cap, .int .i64 l] w fun e w' => e = .returned (.int .i64 (if l < n then -1 else l - n)) ∧ w' = w := by
  by_cases h : l < n
  · rw [if_pos h]
    go_enter Tryd.func21, Tryd.ntmps21
    go_wp2
    go_ret
    exact ⟨rfl, rfl⟩
  · rw [if_neg h]
    go_enter Tryd.func21, Tryd.ntmps21
    go_wp2
    go_ret
    exact ⟨rfl, rfl⟩

/-- A receiver's value. -/
@[reducible] def rcVal (nx : Int) (a : Option Addr) (n c : Nat) : Value := .agg #[.int .i64 nx, .slice a n c]
@[reducible] def rcCells (nx : Int) (a : Option Addr) (n c : Nat) : Array Value := #[.int .i64 nx, .slice a n c]
theorem rc_cells {w : World} {b : Nat} {a : Option Addr} {n c : Nat} {nx : Int} {t : TypeId} (h : Sits w b (rcCells nx a n c) t) : w.cell? ⟨b, 0, none⟩ = some (.int .i64 nx) ∧ w.cell? ⟨b, 1, none⟩ = some (.slice a n c) := ⟨h.cell 0, h.cell 1⟩

theorem ret_rc {fn : Func} {tmps : Array Value} {W : World} {i B : Nat} {nx : Int} {x : Option Addr} {n c : Nat} {t : TypeId} (hr : fn.results = #[.cell i 28]) (hi : tmps[i]?.getD undef = .pointer (some ⟨B, 0, none⟩)) (hs : Sits W B (rcCells nx x n c) t) : (results fn tmps).run Tryd.prog W = .ok (rcVal nx x n c) W := by
  obtain ⟨c0, c1⟩ := rc_cells hs
  simp [results, hr, hi, go_sem, c0, c1]

theorem szRecv_any (nx : Int) (a : Option Addr) (n cap : Nat) (l : Int) (w : World) (hn : (n : Int) ≤ 9223372036854775807) (h0 : 0 ≤ l) (h1 : l ≤ 1048576) :
    Calls Tryd.prog 5 #[rcVal nx a n cap, .int .i64 l] w fun e w' => e = .returned (.int .i64 (if l < n then -1 else l - n)) ∧ Below w.heap.size w w' := by
  simp only [rcVal]
  by_cases h : l < n
  · rw [if_pos h]
    go_enter Tryd.func5, Tryd.ntmps5
    go_wp2_with (go_at_call 21; refine (szSpanS_any a n cap l _ hn h0 h1).mono ?_; rintro o w1 ⟨rfl, rfl⟩; rw [if_pos h])
    go_ret
    exact ⟨rfl, by go_grown⟩
  · rw [if_neg h]
    go_enter Tryd.func5, Tryd.ntmps5
    go_wp2_with (go_at_call 21; refine (szSpanS_any a n cap l _ hn h0 h1).mono ?_; rintro o w1 ⟨rfl, rfl⟩; rw [if_neg h])
    go_ret
    exact ⟨rfl, by go_grown⟩

set_option maxHeartbeats 1000000 in
theorem eqRecv_yes (nx : Int) (a b : Option Addr) (n ca cb : Nat) (f : Nat → Sp) (w : World) (ha : SR w.heap.size w a n f) (hb : SR w.heap.size w b n f) (hn : n ≤ 1048576) :
    Calls Tryd.prog 9 #[rcVal nx a n ca, rcVal nx b n cb] w fun e w' => e = .returned (.bool true) ∧ Below w.heap.size w w' := by
  have HA : Hid (SR w.heap.size w a n f) := ha
  have HB : Hid (SR w.heap.size w b n f) := hb
  clear ha hb
  simp only [rcVal]
  go_enter Tryd.func9, Tryd.ntmps9
  go_wp2_with (go_at_call 29; refine (eqSpanS_yes a b n ca cb f _ ((SR.below HA.out (by go_grown)).mono (by simp <;> omega)) ((SR.below HB.out (by go_grown)).mono (by simp <;> omega)) hn).mono ?_; rintro o w1 ⟨rfl, hb1⟩)
  go_ret
  exact ⟨rfl, ((((Below.refl w.heap.size w).alloc (Nat.le_refl _) _).alloc (by simp) _)).trans (hb1.mono (by simp; omega))⟩

/-- What the laws' walks are told of a receiver that comes in. -/
def RecvIn (w : World) (nx : Int) (a : Option Addr) (len cap : Nat) (f : Nat → Sp) : Prop := (-9223372036854775808 ≤ nx ∧ nx ≤ 9223372036854775807) ∧ len ≤ cap ∧ cap ≤ maxLen ∧ SR w.heap.size w a len f ∧ ∀ i, i < len → (f i).In

set_option maxHeartbeats 1000000 in
theorem toRecv_any (nx : Int) (a : Option Addr) (n cap : Nat) (f : Nat → Sp) (w : World) (hP : SR w.heap.size w a n f) (hn : n ≤ 1048576) :
    Calls Tryd.prog 7 #[rcVal nx a n cap] w fun e w' => ∃ x : Option Addr, e = .returned (rcVal nx x n n) ∧ ZS w.heap.size w'.heap.size w' x (n * 2) (flatS f) ∧ Below w.heap.size w w' := by
  have HP : Hid (SR w.heap.size w a n f) := hP
  clear hP
  simp only [rcVal]
  go_enter Tryd.func7, Tryd.ntmps7
  go_upto_region 3 with fail
  obtain ⟨W, hW⟩ : ∃ W, ((w.alloc (.cells #[.int .i64 nx, .slice a n cap] 24)).alloc (.cells #[.int .i64 0, .slice none 0 0] 28)).alloc (.cells #[.int .i64 nx, .slice none 0 0] 28) = W := ⟨_, rfl⟩
  have s0 : Sits W w.heap.size (rcCells nx a n cap) 24 := by rw [← hW]; exact ((Sits.new _ _ _).alloc _).alloc _
  have z0 : Sits W (w.heap.size + 1) (rcCells 0 none 0 0) 28 := by rw [← hW]; exact (Sits.new' (by simp)).alloc _
  have x0 : Sits W (w.heap.size + 1 + 1) (rcCells nx none 0 0) 28 := by rw [← hW]; exact Sits.new' (by simp)
  have b0 : Below w.heap.size w W := by rw [← hW]; exact (((Below.refl _ w).alloc (Nat.le_refl _) _).alloc (by simp) _).alloc (by simp; omega) _
  rw [hW]
  clear hW
  obtain ⟨q0, q1⟩ := rc_cells s0
  go_wp2_with (go_at_call 25; refine (toSpanS_any a n cap f _ (SR.mono (SR.below HP.out b0) b0.size) hn).mono ?_; rintro o w1 ⟨x, rfl, hz, hb1⟩; have x1 := x0.below hb1 x0.lt; have z1 := z0.below hb1 z0.lt; obtain ⟨x10, x11⟩ := rc_cells x1; have fx := x1.frozen; obtain ⟨z10, z11⟩ := rc_cells z1; have fz := z1.frozen; have lx := x0.lt; have lz := z1.lt)
  refine bodyPost_ret (ret_rc (t := 28) (B := w.heap.size + 1) Tryd.results7 rfl (Sits.set (Sits.set (Sits.other z1 (by omega) _) 0 (.int .i64 nx)) 1 (.slice x n n))) rfl ⟨x, rfl, ?_, ?_⟩
  · rcases hz with h | ⟨B, rfl, h1, h2, ho⟩
    · exact .inl h
    · exact .inr ⟨B, rfl, by have := b0.size; omega, by simpa [World.setCell] using h2, ((ho.far _ _ (by omega)).far _ _ (by omega)).far _ _ (by omega)⟩
  · exact (((b0.trans (hb1.mono b0.size)).setCell (by show w.heap.size ≤ w.heap.size + 1 + 1; omega) _).setCell (by show w.heap.size ≤ w.heap.size + 1; omega) _).setCell (by show w.heap.size ≤ w.heap.size + 1; omega) _

end Go.Proofs.YtcmjnanejeekiaaDoor
