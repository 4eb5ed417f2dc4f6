/-
  LISTS OF BYTES THAT LIE IN A ZONE OF MEMORY, AND WHAT IS WRITTEN INTO ONE ZONE ALONE; the laws' markByteS and heldByteS over them.
-/
import Derived.Test.YtcfkmkkgeoaaeaaDoorBys
namespace Go.Proofs.YtcfkmkkgeoaaeaaDoor
open Go.RowKit
set_option linter.unusedVariables false

/-- n bytes at the head of a block of the zone L .. U - 1, which may be written (none: anywhere). -/
def Zn (L U : Nat) (w : World) (a : Option Addr) (n : Nat) (f : Nat → Int) : Prop := n = 0 ∨ ∃ B : Nat, a = some ⟨B, 0, none⟩ ∧ L ≤ B ∧ B < U ∧ Own .u8 w B n f
/-- Of what was there nothing but the zone L .. U - 1 has turned. -/
structure Chg (L U : Nat) (w w' : World) : Prop where
  os : w'.os = w.os
  tape : w'.tape = w.tape
  output : w'.output = w.output
  size : w.heap.size ≤ w'.heap.size
  block : ∀ k, k < w.heap.size → ¬ (L ≤ k ∧ k < U) → w'.heap[k]? = w.heap[k]?
theorem Chg.refl (L U : Nat) (w : World) : Chg L U w w := ⟨rfl, rfl, rfl, Nat.le_refl _, fun _ _ _ => rfl⟩
theorem Chg.trans {L U : Nat} {a b c : World} (h : Chg L U a b) (k : Chg L U b c) : Chg L U a c :=
  ⟨k.os.trans h.os, k.tape.trans h.tape, k.output.trans h.output, Nat.le_trans h.size k.size, fun i hi hn => (k.block i (Nat.lt_of_lt_of_le hi h.size) hn).trans (h.block i hi hn)⟩
theorem Chg.of_below {L U : Nat} {w w' : World} (h : Below w.heap.size w w') : Chg L U w w' := ⟨h.os, h.tape, h.output, h.size, fun k hk _ => h.block k hk⟩
theorem Chg.below {L U : Nat} {w w' : World} (h : Chg L U w w') (hL : L ≤ w.heap.size) : Below L w w' := ⟨h.os, h.tape, h.output, h.size, fun k hk => h.block k (by omega) (by omega)⟩
theorem Own.same {w w' : World} {B n : Nat} {f : Nat → Int} (h : Own .u8 w B n f) (hb : w'.heap[B]? = w.heap[B]?) (hs : w.heap.size ≤ w'.heap.size) : Own .u8 w' B n f :=
  ⟨Nat.lt_of_lt_of_le h.1 hs, fun i hi => ⟨(World.cell?_of_block (w := w) (a := ⟨B, i, none⟩) hb).trans (h.2 i hi).1, (World.frozen?_of_block (w := w) (a := ⟨B, i, none⟩) hb).trans (h.2 i hi).2⟩⟩
theorem Zn.row {L U : Nat} {w : World} {a : Option Addr} {n : Nat} {f : Nat → Int} (h : Zn L U w a n f) : Row .u8 w a n f := by
  rcases h with h | ⟨B, rfl, _, _, ho⟩
  · exact .inl h
  · exact ho.row
/-- What is turned elsewhere does not touch it. -/
theorem Zn.chg {L U L' U' : Nat} {w w' : World} {a : Option Addr} {n : Nat} {f : Nat → Int} (h : Zn L U w a n f) (hc : Chg L' U' w w') (hd : U ≤ L' ∨ U' ≤ L) : Zn L U w' a n f := by
  rcases h with h | ⟨B, rfl, h1, h2, ho⟩
  · exact .inl h
  · exact .inr ⟨B, rfl, h1, h2, ho.same (hc.block B ho.1 (by omega)) hc.size⟩
theorem Zn.below {L U : Nat} {w w' : World} {a : Option Addr} {n : Nat} {f : Nat → Int} (h : Zn L U w a n f) (hb : Below w.heap.size w w') : Zn L U w' a n f := by
  rcases h with h | ⟨B, rfl, h1, h2, ho⟩
  · exact .inl h
  · exact .inr ⟨B, rfl, h1, h2, ho.below hb⟩
theorem Zn.congr {L U : Nat} {w : World} {a : Option Addr} {n : Nat} {f g : Nat → Int} (h : Zn L U w a n f) (e : ∀ i, i < n → f i = g i) : Zn L U w a n g := by
  rcases h with h | ⟨B, rfl, h1, h2, ho⟩
  · exact .inl h
  · exact .inr ⟨B, rfl, h1, h2, ho.congr e⟩
theorem Zn.mono {L U L' U' : Nat} {w : World} {a : Option Addr} {n : Nat} {f : Nat → Int} (h : Zn L U w a n f) (h1 : L' ≤ L) (h2 : U ≤ U') : Zn L' U' w a n f := by
  rcases h with h | ⟨B, rfl, h3, h4, ho⟩
  · exact .inl h
  · exact .inr ⟨B, rfl, by omega, by omega, ho⟩

set_option maxHeartbeats 400000 in
theorem markByteS_zn (L U : Nat) (a : Option Addr) (n ca : Nat) (f : Nat → Int) (k0 : Int) (w : World) (ho : Zn L U w a n f) (hn : n ≤ 1048576) (h0 : 0 ≤ k0) (h1 : k0 ≤ 1099511627776) :
    Calls Tryd.prog 11 #[.slice a n ca, .int .i64 k0] w fun e w' => e = .returned (.int .i64 (k0 + n)) ∧ Zn L U w' a n (fun i => (k0 + i) % 256) ∧ Chg L U w w' := by
  rcases ho with rfl | ⟨B, rfl, hL, hU, ho⟩
  · go_enter Tryd.func11, Tryd.ntmps11
    go_wp2
    go_loop [1, 5] (fun c i => i = .int .i64 0 ∧ c = .int .i64 k0) (fun _ i => 0)
    case atStart => exact ⟨rfl, rfl⟩
    case round =>
      obtain ⟨rfl, rfl⟩ := hrel
      go_wp2
      go_ret
      exact ⟨ret_int (by omega), .inl rfl, Chg.refl _ _ _⟩
  · have HO : Hid _ := ho
    clear ho
    go_enter Tryd.func11, Tryd.ntmps11
    go_wp2
    go_loopw [1, 5] (fun c i wr => ∃ k : Nat, k ≤ n ∧ i = .int .i64 k ∧ c = .int .i64 (k0 + k) ∧ wr.heap.size = w.heap.size ∧ Chg L U w wr ∧ Own .u8 wr B n (fun j => if j < k then (k0 + j) % 256 else f j)) (fun _ i _ => n - (intOf i).toNat)
    case atStart => exact ⟨0, Nat.zero_le _, rfl, by simp, rfl, Chg.refl _ _ _, Own.congr HO.out fun i _ => by simp⟩
    case round =>
      obtain ⟨k, hk, rfl, rfl, hz, hb, ho⟩ := hrel
      have HO : Hid (Own .u8 wr B n (fun j => if j < k then (k0 + j) % 256 else f j)) := ho
      have HB : Hid (Chg L U w wr) := hb
      have hB := ho.1
      have u8 := u8_wrap
      by_cases hlt : k < n
      · obtain ⟨c2, c3⟩ := ho.2 k hlt
        clear ho hb
        go_wp2
        go_roundw
        case rel =>
          have hb := HB.out
          refine ⟨k + 1, by omega, by go_num, by go_num, by simpa [World.setCell] using hz, ⟨hb.os, hb.tape, hb.output, by simpa [World.setCell] using hb.size, fun i h3 h4 => (Below.heap_setCell _ _ _ i (by show i ≠ B; omega)).trans (hb.block i h3 h4)⟩, (Own.set HO.out k hlt ((k0 + k) % 256)).congr fun i hi => ?_⟩
          by_cases e : i = k <;> simp [e] <;> split <;> first | rfl | omega
        case measure => simp [intOf]; omega
      · obtain rfl : k = n := by omega
        clear ho hb
        go_wp2
        go_ret
        exact ⟨rfl, .inr ⟨B, rfl, hL, hU, Own.congr HO.out fun i hi => by simp [hi]⟩, HB.out⟩

end Go.Proofs.YtcfkmkkgeoaaeaaDoor
