/-
  LISTS OF BYTES THAT LIE IN A ZONE OF MEMORY, AND WHAT IS WRITTEN INTO ONE ZONE ALONE; the laws' markByteS and heldByteS over them.
-/
import Derived.Test.YtmjggolllijamaaBys
namespace Go.Proofs.Ytmjggolllijamaa
open Go.RowKit
set_option linter.unusedVariables false

/-- n bytes at the head of a block of the zone L .. U - 1, which may be written (none: anywhere). -/
def Zn (L U : Nat) (w : World) (a : Option Addr) (n : Nat) (f : Nat → Int) : Prop := n = 0 ∨ ∃ B : Nat, a = some ⟨B, 0, none⟩ ∧ L ≤ B ∧ B < U ∧ Own .u8 w B n f
/-- Of what was there nothing but the zone L .. U - 1 has turned. -/
structure Chg (L U : Nat) (w w' : World) : Prop where
  os : w'.os = w.os
  tape : w'.tape = w.tape
  output : w'.output = w.output
  size : w.heap.size ≤ w'.heap.size
  block : ∀ k, k < w.heap.size → ¬ (L ≤ k ∧ k < U) → w'.heap[k]? = w.heap[k]?
theorem Chg.refl (L U : Nat) (w : World) : Chg L U w w := ⟨rfl, rfl, rfl, Nat.le_refl _, fun _ _ _ => rfl⟩
theorem Chg.trans {L U : Nat} {a b c : World} (h : Chg L U a b) (k : Chg L U b c) : Chg L U a c :=
  ⟨k.os.trans h.os, k.tape.trans h.tape, k.output.trans h.output, Nat.le_trans h.size k.size, fun i hi hn => (k.block i (Nat.lt_of_lt_of_le hi h.size) hn).trans (h.block i hi hn)⟩
theorem Chg.of_below {L U : Nat} {w w' : World} (h : Below w.heap.size w w') : Chg L U w w' := ⟨h.os, h.tape, h.output, h.size, fun k hk _ => h.block k hk⟩
theorem Chg.below {L U : Nat} {w w' : World} (h : Chg L U w w') (hL : L ≤ w.heap.size) : Below L w w' := ⟨h.os, h.tape, h.output, h.size, fun k hk => h.block k (by omega) (by omega)⟩
theorem Own.same {w w' : World} {B n : Nat} {f : Nat → Int} (h : Own .u8 w B n f) (hb : w'.heap[B]? = w.heap[B]?) (hs : w.heap.size ≤ w'.heap.size) : Own .u8 w' B n f :=
  ⟨Nat.lt_of_lt_of_le h.1 hs, fun i hi => ⟨(World.cell?_of_block (w := w) (a := ⟨B, i, none⟩) hb).trans (h.2 i hi).1, (World.frozen?_of_block (w := w) (a := ⟨B, i, none⟩) hb).trans (h.2 i hi).2⟩⟩
theorem Zn.row {L U : Nat} {w : World} {a : Option Addr} {n : Nat} {f : Nat → Int} (h : Zn L U w a n f) : Row .u8 w a n f := by
  rcases h with h | ⟨B, rfl, _, _, ho⟩
  · exact .inl h
  · exact ho.row
/-- What is turned elsewhere does not touch it. -/
theorem Zn.chg {L U L' U' : Nat} {w w' : World} {a : Option Addr} {n : Nat} {f : Nat → Int} (h : Zn L U w a n f) (hc : Chg L' U' w w') (hd : U ≤ L' ∨ U' ≤ L) : Zn L U w' a n f := by
  rcases h with h | ⟨B, rfl, h1, h2, ho⟩
  · exact .inl h
  · exact .inr ⟨B, rfl, h1, h2, ho.same (hc.block B ho.1 (by omega)) hc.size⟩
theorem Zn.below {L U : Nat} {w w' : World} {a : Option Addr} {n : Nat} {f : Nat → Int} (h : Zn L U w a n f) (hb : Below w.heap.size w w') : Zn L U w' a n f := by
  rcases h with h | ⟨B, rfl, h1, h2, ho⟩
  · exact .inl h
  · exact .inr ⟨B, rfl, h1, h2, ho.below hb⟩
theorem Zn.congr {L U : Nat} {w : World} {a : Option Addr} {n : Nat} {f g : Nat → Int} (h : Zn L U w a n f) (e : ∀ i, i < n → f i = g i) : Zn L U w a n g := by
  rcases h with h | ⟨B, rfl, h1, h2, ho⟩
  · exact .inl h
  · exact .inr ⟨B, rfl, h1, h2, ho.congr e⟩
theorem Zn.mono {L U L' U' : Nat} {w : World} {a : Option Addr} {n : Nat} {f : Nat → Int} (h : Zn L U w a n f) (h1 : L' ≤ L) (h2 : U ≤ U') : Zn L' U' w a n f := by
  rcases h with h | ⟨B, rfl, h3, h4, ho⟩
  · exact .inl h
  · exact .inr ⟨B, rfl, by omega, by omega, ho⟩

end Go.Proofs.Ytmjggolllijamaa
