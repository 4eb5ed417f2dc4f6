/-
  WHAT THE LAWS WRITE INTO LISTS OF PACKETS AND READ AGAIN: markPktS, heldPktS, markFifo, heldFifo.
-/
import Derived.Test.YtmjggolllijamaaPkS
import Derived.Test.YtmjggolllijamaaZone
namespace Go.Proofs.Ytmjggolllijamaa
open Go.RowKit
set_option linter.unusedVariables false

theorem chg_set {L U B : Nat} {w w' : World} (h : Chg L U w w') (hL : L ≤ B) (hU : B < U) (o : Nat) (v : Value) : Chg L U w (w'.setCell ⟨B, o, none⟩ v) :=
  ⟨h.os, h.tape, h.output, by simpa [World.setCell] using h.size, fun i h3 h4 => (Below.heap_setCell _ _ _ i (by show i ≠ B; omega)).trans (h.block i h3 h4)⟩
theorem own_same {k : IntKind} {w w' : World} {B n : Nat} {f : Nat → Int} (h : Own k w B n f) (hb : w'.heap[B]? = w.heap[B]?) (hs : w.heap.size ≤ w'.heap.size) : Own k w' B n f :=
  ⟨Nat.lt_of_lt_of_le h.1 hs, fun i hi => ⟨(World.cell?_of_block (w := w) (a := ⟨B, i, none⟩) hb).trans (h.2 i hi).1, (World.frozen?_of_block (w := w) (a := ⟨B, i, none⟩) hb).trans (h.2 i hi).2⟩⟩
/-- What is turned elsewhere does not touch it. -/
theorem ZI.chg {L U L' U' : Nat} {w w' : World} {a : Option Addr} {n : Nat} {f : Nat → Int} (h : ZI L U w a n f) (hc : Chg L' U' w w') (hd : U ≤ L' ∨ U' ≤ L) : ZI L U w' a n f := by
  rcases h with h | ⟨B, rfl, h1, h2, ho⟩
  · exact .inl h
  · exact .inr ⟨B, rfl, h1, h2, own_same ho (hc.block B ho.1 (by omega)) hc.size⟩
theorem Lies.chg {W W' : World} {B : Nat} {vs : Array Value} {t : TypeId} {L U : Nat} (h : Lies W B vs t) (hc : Chg L U W W') (hn : B < L ∨ U ≤ B) : Lies W' B vs t := (hc.block B h.lt (by omega)).trans h
theorem ZI.congr {L U : Nat} {w : World} {a : Option Addr} {n : Nat} {f g : Nat → Int} (h : ZI L U w a n f) (e : ∀ i, i < n → f i = g i) : ZI L U w a n g := by
  rcases h with h | ⟨B, rfl, h1, h2, ho⟩
  · exact .inl h
  · exact .inr ⟨B, rfl, h1, h2, ho.congr e⟩

set_option maxRecDepth 100000 in
set_option maxHeartbeats 2000000 in
theorem markPktS_zi (L U : Nat) (a : Option Addr) (n ca : Nat) (g : Nat → Int) (k0 : Int) (w : World) (ho : ZI L U w a (n * 6) g) (hn : n ≤ 1048576) (h0 : 0 ≤ k0) (h1 : k0 ≤ 1099511627776) :
    Calls Try.prog 69 #[.slice a n ca, .int .i64 k0] w fun e w' => e = .returned (.int .i64 (k0 + (n : Int) * 6)) ∧ ZI L U w' a (n * 6) (fun o => k0 + o) ∧ Chg L U w w' := by
  rcases ho with hz | ⟨B, rfl, hL, hU, ho⟩
  · obtain rfl : n = 0 := by omega
    go_enter Try.func69, Try.ntmps69
    go_wp2
    go_loop [1, 5] (fun c i => i = .int .i64 0 ∧ c = .int .i64 k0) (fun _ i => 0)
    case atStart => exact ⟨rfl, rfl⟩
    case round =>
      obtain ⟨rfl, rfl⟩ := hrel
      go_wp2
      go_ret
      exact ⟨ret_int (by omega), .inl rfl, Chg.refl _ _ _⟩
  · have HO : Hid _ := ho
    clear ho
    go_enter Try.func69, Try.ntmps69
    go_wp2
    go_loopw [1, 5] (fun c i wr => ∃ k : Nat, k ≤ n ∧ i = .int .i64 k ∧ c = .int .i64 (k0 + (k : Int) * 6) ∧ Chg L U w wr ∧ Own .i64 wr B (n * 6) (fun o => if o < k * 6 then k0 + o else g o)) (fun _ i _ => n - (intOf i).toNat)
    case atStart => exact ⟨0, Nat.zero_le _, rfl, by simp, Chg.refl _ _ _, Own.congr HO.out fun i _ => by simp⟩
    case round =>
      obtain ⟨k, hk, rfl, rfl, hb, ho⟩ := hrel
      have HO : Hid (Own .i64 wr B (n * 6) (fun o => if o < k * 6 then k0 + o else g o)) := ho
      have HB : Hid (Chg L U w wr) := hb
      have hB := ho.1
      by_cases hlt : k < n
      · obtain ⟨g0, z0⟩ := ho.2 (k * 6) (by omega)
        obtain ⟨g1, z1⟩ := ho.2 (k * 6 + 1) (by omega)
        obtain ⟨g2, z2⟩ := ho.2 (k * 6 + 2) (by omega)
        obtain ⟨g3, z3⟩ := ho.2 (k * 6 + 3) (by omega)
        obtain ⟨g4, z4⟩ := ho.2 (k * 6 + 4) (by omega)
        obtain ⟨g5, z5⟩ := ho.2 (k * 6 + 5) (by omega)
        clear ho hb
        go_wp2
        go_roundw
        case rel =>
          refine ⟨k + 1, by omega, by go_num, by go_num, chg_set (chg_set (chg_set (chg_set (chg_set (chg_set HB.out hL hU _ _) hL hU _ _) hL hU _ _) hL hU _ _) hL hU _ _) hL hU _ _, (own_set6 HO.out k hlt ⟨k0 + (k : Int) * 6, k0 + (k : Int) * 6 + 1, k0 + (k : Int) * 6 + 1 + 1, k0 + (k : Int) * 6 + 1 + 1 + 1, k0 + (k : Int) * 6 + 1 + 1 + 1 + 1, k0 + (k : Int) * 6 + 1 + 1 + 1 + 1 + 1⟩).congr fun o ho => ?_⟩
          by_cases e : o / 6 = k
          · rw [if_pos e, if_pos (by omega)]
            have hm : o % 6 < 6 := Nat.mod_lt _ (by omega)
            have ho' : o = k * 6 + o % 6 := by omega
            unfold Pk.nth
            dsimp only
            split
            · omega
            · split
              · omega
              · split
                · omega
                · split
                  · omega
                  · split <;> omega
          · rw [if_neg e]
            by_cases h : o < k * 6
            · rw [if_pos h, if_pos (by omega)]
            · rw [if_neg h, if_neg (by omega)]
        case measure => simp [intOf]; omega
      · obtain rfl : k = n := by omega
        clear ho hb
        go_wp2
        go_ret
        exact ⟨ret_int (by omega), .inr ⟨B, rfl, hL, hU, Own.congr HO.out fun i hi => by simp [hi]⟩, HB.out⟩

set_option maxRecDepth 100000 in
set_option maxHeartbeats 2000000 in
theorem heldPktS_any (a : Option Addr) (n ca : Nat) (k0 : Int) (w : World) (ha : Row .i64 w a (n * 6) (fun o => k0 + o)) (hn : n ≤ 1048576) (h0 : 0 ≤ k0) (h1 : k0 ≤ 1099511627776) :
    Calls Try.prog 70 #[.slice a n ca, .int .i64 k0] w fun e w' => e = .returned (.int .i64 (k0 + (n : Int) * 6)) ∧ w' = w := by
  have HA : Hid _ := ha
  clear ha
  go_enter Try.func70, Try.ntmps70
  go_wp2
  go_loop [1, 5] (fun c i => ∃ k : Nat, k ≤ n ∧ i = .int .i64 k ∧ c = .int .i64 (k0 + (k : Int) * 6)) (fun _ i => n - (intOf i).toNat)
  case atStart => exact ⟨0, Nat.zero_le _, rfl, by simp⟩
  case round =>
    obtain ⟨k, hk, rfl, rfl⟩ := hrel
    by_cases hlt : k < n
    · obtain ⟨b, o, rfl, l1, c⟩ := Row.at HA.out (show k * 6 < n * 6 by omega)
      have c0 := c (k * 6) (by omega)
      have c1 := c (k * 6 + 1) (by omega)
      have c2 := c (k * 6 + 2) (by omega)
      have c3 := c (k * 6 + 3) (by omega)
      have c4 := c (k * 6 + 4) (by omega)
      have c5 := c (k * 6 + 5) (by omega)
      simp only [← Nat.add_assoc] at c1 c2 c3 c4 c5
      clear c
      go_wp2
      go_round
      case rel => exact ⟨k + 1, by omega, by go_num, by go_num⟩
      case measure => simp [intOf]; omega
    · obtain rfl : k = n := by omega
      go_wp2
      go_ret
      exact ⟨ret_int (by omega), rfl⟩

end Go.Proofs.Ytmjggolllijamaa
