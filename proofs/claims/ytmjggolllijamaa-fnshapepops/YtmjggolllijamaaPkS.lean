/-
  LISTS OF PACKETS AS THE LAWS HANDLE THEM: toPktS copies, eqPktS compares, szPktS counts; toFifo, eqFifo, szFifo.
-/
import Derived.Test.YtmjggolllijamaaFifo
import Derived.Test.YtmjggolllijamaaBys
import Derived.Laws.MakeOwn
namespace Go.Proofs.Ytmjggolllijamaa
open Go.RowKit
set_option linter.unusedVariables false

/-- A packet's number t (of 0 .. 5). -/
def Pk.nth (p : Pk) (t : Nat) : Int := if t = 0 then p.id else if t = 1 then p.flow else if t = 2 then p.host else if t = 3 then p.size else if t = 4 then p.tm else p.ecn
/-- Packets one behind another, six numbers each. -/
def flat (f : Nat → Pk) (o : Nat) : Int := (f (o / 6)).nth (o % 6)
theorem flat_at (f : Nat → Pk) (i t : Nat) (ht : t < 6) : flat f (i * 6 + t) = (f i).nth t := by
  unfold flat
  rw [show (i * 6 + t) / 6 = i by omega, show (i * 6 + t) % 6 = t by omega]
theorem flat_0 (f : Nat → Pk) (i : Nat) : flat f (i * 6) = (f i).id := flat_at f i 0 (by omega)
/-- A list of packets whose cells are known. -/
theorem pat_of {w : World} {B n : Nat} {f : Nat → Pk} (h : Own .i64 w B (n * 6) (flat f)) {i : Nat} (hi : i < n) : PAt w B (i * 6) (f i) := by
  refine ⟨?_, ?_, ?_, ?_, ?_, ?_⟩
  · rw [(h.2 (i * 6) (by omega)).1, flat_0]
  · rw [(h.2 (i * 6 + 1) (by omega)).1, flat_at f i 1 (by omega)]; rfl
  · rw [(h.2 (i * 6 + 2) (by omega)).1, flat_at f i 2 (by omega)]; rfl
  · rw [(h.2 (i * 6 + 3) (by omega)).1, flat_at f i 3 (by omega)]; rfl
  · rw [(h.2 (i * 6 + 4) (by omega)).1, flat_at f i 4 (by omega)]; rfl
  · rw [(h.2 (i * 6 + 5) (by omega)).1, flat_at f i 5 (by omega)]; rfl
/-- m numbers at the head of a block of the zone L .. U - 1, which may be written (none: anywhere). -/
def ZI (L U : Nat) (w : World) (a : Option Addr) (m : Nat) (g : Nat → Int) : Prop := m = 0 ∨ ∃ B : Nat, a = some ⟨B, 0, none⟩ ∧ L ≤ B ∧ B < U ∧ Own .i64 w B m g
theorem ZI.below {L U : Nat} {w w' : World} {a : Option Addr} {m : Nat} {g : Nat → Int} (h : ZI L U w a m g) (hb : Below w.heap.size w w') : ZI L U w' a m g := by
  rcases h with h | ⟨B, ha, h1, h2, ho⟩
  · exact .inl h
  · exact .inr ⟨B, ha, h1, h2, ho.below hb⟩
theorem ZI.wide {L U L' U' : Nat} {w : World} {a : Option Addr} {m : Nat} {g : Nat → Int} (h : ZI L U w a m g) (h1 : L' ≤ L) (h2 : U ≤ U') : ZI L' U' w a m g := by
  rcases h with h | ⟨B, ha, l, u, ho⟩
  · exact .inl h
  · exact .inr ⟨B, ha, by omega, by omega, ho⟩
theorem ZI.pr {L U : Nat} {w : World} {a : Option Addr} {n : Nat} {f : Nat → Pk} (h : ZI L U w a (n * 6) (flat f)) : PR w.heap.size w a n f := by
  rcases h with h | ⟨B, ha, _, _, ho⟩
  · exact .inl (by omega)
  · exact .inr ⟨B, 0, ha, ho.1, fun i hi => by rw [Nat.zero_add]; exact pat_of ho hi⟩
theorem ZI.row {L U : Nat} {w : World} {a : Option Addr} {m : Nat} {g : Nat → Int} (h : ZI L U w a m g) : Row .i64 w a m g := by
  rcases h with h | ⟨B, rfl, _, _, ho⟩
  · exact .inl h
  · exact ho.row

theorem infoPkt : (Try.prog.info? 31).map (fun i => (i.zero, i.size, i.bytes)) = some (some (.agg #[.int .i64 0, .int .i64 0, .int .i64 0, .int .i64 0, .int .i64 0, .int .i64 0]), 6, 48) := by kernel_rfl

/-- make([]Pkt, n). -/
theorem run_make_pk (n : Nat) (hn : n ≤ 1048576) (w : World) :
    (Instr.makeSlice 48 (.int .i64 (n : Int)) (.int .i64 (n : Int))).run Try.prog w = .ok (.slice (some ⟨w.heap.size, 0, none⟩) n n) (w.alloc (.cells (madeCells #[.int .i64 0, .int .i64 0, .int .i64 0, .int .i64 0, .int .i64 0, .int .i64 0] (n * 6)) 31)) := by
  obtain ⟨i, hi, hzz⟩ := Option.map_eq_some_iff.1 infoPkt
  simp only [Prod.mk.injEq] at hzz
  obtain ⟨hz, hs, hb⟩ := hzz
  have hr := run_make (P := Try.prog) w 48 31 i _ Try.underlying48 hi hz .i64 .i64 n n (by omega) (Int.le_refl _) (by rw [hb]; omega) (by omega)
  simp only [Int.toNat_natCast, hs, Value.cells] at hr
  exact hr

theorem made_ints {w : World} (n : Nat) (t : TypeId) : Own .i64 (w.alloc (.cells (madeCells #[.int .i64 0, .int .i64 0, .int .i64 0, .int .i64 0, .int .i64 0, .int .i64 0] (n * 6)) t)) w.heap.size (n * 6) (fun _ => 0) := by
  refine ⟨by simp, fun i hi => ⟨?_, ?_⟩⟩
  · rw [World.cell?_alloc_new]
    have h6 : i % 6 < 6 := Nat.mod_lt _ (by omega)
    simp only [madeCells, Array.getElem?_map, Array.getElem?_range, hi, if_true, Option.map_some]
    match h : i % 6, h6 with
    | 0, _ => simp
    | 1, _ => simp
    | 2, _ => simp
    | 3, _ => simp
    | 4, _ => simp
    | 5, _ => simp
  · rw [frozen?_alloc_cells]
    simp [World.frozen?]

theorem own_set6 {w : World} {B n : Nat} {g : Nat → Int} (h : Own .i64 w B (n * 6) g) (k : Nat) (hk : k < n) (p : Pk) :
    Own .i64 ((((((w.setCell ⟨B, k * 6, none⟩ (.int .i64 p.id)).setCell ⟨B, k * 6 + 1, none⟩ (.int .i64 p.flow)).setCell ⟨B, k * 6 + 2, none⟩ (.int .i64 p.host)).setCell ⟨B, k * 6 + 3, none⟩ (.int .i64 p.size)).setCell ⟨B, k * 6 + 4, none⟩ (.int .i64 p.tm)).setCell ⟨B, k * 6 + 5, none⟩ (.int .i64 p.ecn)) B (n * 6) (fun o => if o / 6 = k then p.nth (o % 6) else g o) := by
  have h6 := (((((h.set (k * 6) (by omega) p.id).set (k * 6 + 1) (by omega) p.flow).set (k * 6 + 2) (by omega) p.host).set (k * 6 + 3) (by omega) p.size).set (k * 6 + 4) (by omega) p.tm).set (k * 6 + 5) (by omega) p.ecn
  refine h6.congr fun o ho => ?_
  by_cases e : o / 6 = k
  · rw [if_pos e]
    have hm : o % 6 < 6 := Nat.mod_lt _ (by omega)
    have ho' : o = k * 6 + o % 6 := by omega
    generalize ht : o % 6 = t at hm ho'
    unfold Pk.nth
    have hc : t = 0 ∨ t = 1 ∨ t = 2 ∨ t = 3 ∨ t = 4 ∨ t = 5 := by omega
    rcases hc with rfl | rfl | rfl | rfl | rfl | rfl <;> simp [ho']
  · rw [if_neg e]
    have a0 : o ≠ k * 6 := by omega
    have a1 : o ≠ k * 6 + 1 := by omega
    have a2 : o ≠ k * 6 + 2 := by omega
    have a3 : o ≠ k * 6 + 3 := by omega
    have a4 : o ≠ k * 6 + 4 := by omega
    have a5 : o ≠ k * 6 + 5 := by omega
    simp [a0, a1, a2, a3, a4, a5]

set_option maxHeartbeats 1000000 in
theorem toPktS_any (a : Option Addr) (n cap : Nat) (f : Nat → Pk) (w : World) (hP : PR w.heap.size w a n f) (hn : n ≤ 1048576) :
    Calls Try.prog 81 #[.slice a n cap] w fun e w' => ∃ x : Option Addr, e = .returned (.slice x n n) ∧ ZI w.heap.size w'.heap.size w' x (n * 6) (flat f) ∧ Below w.heap.size w w' := by
  have HP : Hid (PR w.heap.size w a n f) := hP
  clear hP
  have hmk := run_make_pk n hn
  go_enter Try.func81, Try.ntmps81
  go_wp2
  go_loopw [4] (fun i wr => ∃ k : Nat, k ≤ n ∧ i = .int .i64 k ∧ Below w.heap.size w wr ∧ Own .i64 wr w.heap.size (n * 6) (fun o => if o / 6 < k then flat f o else 0)) (fun i _ => n - (intOf i).toNat)
  case atStart => exact ⟨0, Nat.zero_le _, rfl, (Below.refl _ _).alloc (Nat.le_refl _) _, (made_ints n _).congr fun i _ => by simp⟩
  case round =>
    obtain ⟨k, hk, rfl, hb, ho⟩ := hrel
    by_cases hlt : k < n
    · obtain ⟨b, off, rfl, hbl, hc⟩ := PR.at HP.out hlt
      obtain ⟨c0, c1, c2, c3, c4, c5⟩ := (hc k hlt).below hb hbl
      have HO : Hid (Own .i64 wr w.heap.size (n * 6) (fun o => if o / 6 < k then flat f o else 0)) := ho
      clear hc ho
      go_wp2_with (go_at_call 96; refine (toPkt_any (f k) _).mono ?_; rintro e w1 ⟨rfl, hk1⟩; have o1 := Own.below HO.out hk1.1; have e0 := o1.2 (k * 6) (by omega); have e1 := o1.2 (k * 6 + 1) (by omega); have e2 := o1.2 (k * 6 + 2) (by omega); have e3 := o1.2 (k * 6 + 3) (by omega); have e4 := o1.2 (k * 6 + 4) (by omega); have e5 := o1.2 (k * 6 + 5) (by omega); obtain ⟨g0, z0⟩ := e0; obtain ⟨g1, z1⟩ := e1; obtain ⟨g2, z2⟩ := e2; obtain ⟨g3, z3⟩ := e3; obtain ⟨g4, z4⟩ := e4; obtain ⟨g5, z5⟩ := e5; have O1 : Hid (Own .i64 w1 w.heap.size (n * 6) (fun o => if o / 6 < k then flat f o else 0)) := o1; clear o1)
      go_roundw
      case rel => exact ⟨k + 1, by omega, by go_num, ((((((hb.trans (hk1.1.mono hb.size)).setCell (Nat.le_refl _) _).setCell (Nat.le_refl _) _).setCell (Nat.le_refl _) _).setCell (Nat.le_refl _) _).setCell (Nat.le_refl _) _).setCell (Nat.le_refl _) _, (own_set6 O1.out k hlt (f k)).congr fun o ho => by
        by_cases e : o / 6 = k
        · rw [if_pos e, if_pos (by omega)]; unfold flat; rw [e]
        · rw [if_neg e]
          by_cases h : o / 6 < k
          · rw [if_pos h, if_pos (by omega)]
          · rw [if_neg h, if_neg (by omega)]⟩
      case measure => simp [intOf]; omega
    · obtain rfl : k = n := by omega
      have HO : Hid _ := ho
      clear ho
      go_wp2
      go_ret
      exact ⟨_, rfl, .inr ⟨_, rfl, Nat.le_refl _, (HO.out).1, Own.congr HO.out fun i hi => by rw [if_pos (by omega)]⟩, hb⟩

set_option maxRecDepth 100000 in
set_option maxHeartbeats 2000000 in
theorem eqPktS_yes (a b : Option Addr) (n ca cb : Nat) (f : Nat → Pk) (w : World) (ha : PR w.heap.size w a n f) (hb : PR w.heap.size w b n f) (hn : n ≤ 1048576) :
    Calls Try.prog 87 #[.slice a n ca, .slice b n cb] w fun e w' => e = .returned (.bool true) ∧ Below w.heap.size w w' := by
  have HA : Hid (PR w.heap.size w a n f) := ha
  have HB : Hid (PR w.heap.size w b n f) := hb
  clear ha hb
  go_enter Try.func87, Try.ntmps87
  go_wp2
  go_loopw [5] (fun i wr => ∃ k : Nat, k ≤ n ∧ i = .int .i64 k ∧ Below w.heap.size w wr) (fun i _ => n - (intOf i).toNat)
  case atStart => exact ⟨0, Nat.zero_le _, rfl, Below.refl _ _⟩
  case round =>
    obtain ⟨k, hk, rfl, hkept⟩ := hrel
    by_cases hlt : k < n
    · obtain ⟨b1, o1, rfl, l1, h1⟩ := PR.at HA.out hlt
      obtain ⟨b2, o2, rfl, l2, h2⟩ := PR.at HB.out hlt
      obtain ⟨c0, c1, c2, c3, c4, c5⟩ := (h1 k hlt).below hkept l1
      obtain ⟨d0, d1, d2, d3, d4, d5⟩ := (h2 k hlt).below hkept l2
      clear h1 h2
      have hsz := hkept.size
      go_wp2
      refine wp_region_quiet (C := fun w' => Below wr.heap.size wr w') (by kernel_rfl) (by kernel_rfl) ((Below.refl _ _).drew) ?_
      simp only []
      repeat (first
        | go_big_quiet_skip
        | (go_big_quiet_want
           unfold Oper.quiet
           apply Exists.intro
           refine ⟨fun w' hw' => ?_, ?_⟩
           (have y0 := (hw'.cell (p := ⟨b1, o1 + k * 6, none⟩) (by show b1 < _; omega)).trans c0
            have y1 := (hw'.cell (p := ⟨b1, o1 + k * 6 + 1, none⟩) (by show b1 < _; omega)).trans c1
            have y2 := (hw'.cell (p := ⟨b1, o1 + k * 6 + 2, none⟩) (by show b1 < _; omega)).trans c2
            have y3 := (hw'.cell (p := ⟨b1, o1 + k * 6 + 3, none⟩) (by show b1 < _; omega)).trans c3
            have y4 := (hw'.cell (p := ⟨b1, o1 + k * 6 + 4, none⟩) (by show b1 < _; omega)).trans c4
            have y5 := (hw'.cell (p := ⟨b1, o1 + k * 6 + 5, none⟩) (by show b1 < _; omega)).trans c5
            have z0 := (hw'.cell (p := ⟨b2, o2 + k * 6, none⟩) (by show b2 < _; omega)).trans d0
            have z1 := (hw'.cell (p := ⟨b2, o2 + k * 6 + 1, none⟩) (by show b2 < _; omega)).trans d1
            have z2 := (hw'.cell (p := ⟨b2, o2 + k * 6 + 2, none⟩) (by show b2 < _; omega)).trans d2
            have z3 := (hw'.cell (p := ⟨b2, o2 + k * 6 + 3, none⟩) (by show b2 < _; omega)).trans d3
            have z4 := (hw'.cell (p := ⟨b2, o2 + k * 6 + 4, none⟩) (by show b2 < _; omega)).trans d4
            have z5 := (hw'.cell (p := ⟨b2, o2 + k * 6 + 5, none⟩) (by show b2 < _; omega)).trans d5
            go_simp
            first
              | (go_at_call 11; refine (eqPkt_yes (f k) _).mono ?_; rintro e w1 ⟨rfl, hk1⟩; exact ⟨rfl, hw'.trans (hk1.1.mono hw'.size)⟩)
              | exact rfl)
           simp only [Act.put, List.setIfInBounds_toArray, List.set_cons_zero, List.set_cons_succ]
           go_big_quiet_on))
      refine wpQuiet_nil ?_
      intro w2 hw2
      go_wp2
      go_roundw
      case rel => exact ⟨k + 1, by omega, by go_num, hkept.trans (hw2.mono hsz)⟩
      case measure => simp [intOf]; omega
    · obtain rfl : k = n := by omega
      go_wp2
      go_ret
      exact ⟨rfl, hkept⟩

theorem szPktS_any (a : Option Addr) (n cap : Nat) (l : Int) (w : World) (hn : (n : Int) ≤ 9223372036854775807) (h0 : 0 ≤ l) (h1 : l ≤ 1048576) :
    Calls Try.prog 79 #[.slice a n cap, .int .i64 l] w fun e w' => e = .returned (.int .i64 (if l < n then -1 else l - n)) ∧ w' = w := by
  by_cases h : l < n
  · rw [if_pos h]
    go_enter Try.func79, Try.ntmps79
    go_wp2
    go_ret
    exact ⟨rfl, rfl⟩
  · rw [if_neg h]
    go_enter Try.func79, Try.ntmps79
    go_wp2
    go_ret
    exact ⟨rfl, rfl⟩

/-- A queue's value. -/
@[reducible] def fiVal (a : Option Addr) (n c : Nat) (lim : Int) : Value := .agg #[.slice a n c, .int .i64 lim]

/-- The cells of a queue's variable. -/
theorem fi2_cells {w : World} {b : Nat} {a : Option Addr} {n c : Nat} {lim : Int} {t : TypeId} (h : Lies w b #[.slice a n c, .int .i64 lim] t) : w.cell? ⟨b, 0, none⟩ = some (.slice a n c) ∧ w.cell? ⟨b, 1, none⟩ = some (.int .i64 lim) := by
  constructor <;> simp [World.cell?, show w.heap[b]? = _ from h]

/-- What the laws' walks are told of a queue that comes in. -/
def FifoIn (w : World) (a : Option Addr) (len cap : Nat) (lim : Int) (f : Nat → Pk) : Prop := (-9223372036854775808 ≤ lim ∧ lim ≤ 9223372036854775807) ∧ len ≤ cap ∧ cap ≤ maxLen ∧ PR w.heap.size w a len f ∧ ∀ i, i < len → (f i).In

end Go.Proofs.Ytmjggolllijamaa
