/-
  WHAT THE LAWS WRITE INTO LISTS OF PACKETS AND READ AGAIN: markPktS, heldPktS, markFifo, heldFifo.
-/
import Derived.Test.YtkmiijgoinpndaaPkS
import Derived.Test.YtkmiijgoinpndaaZone
namespace Go.Proofs.Ytkmiijgoinpndaa
open Go.RowKit
set_option linter.unusedVariables false

theorem chg_set {L U B : Nat} {w w' : World} (h : Chg L U w w') (hL : L ≤ B) (hU : B < U) (o : Nat) (v : Value) : Chg L U w (w'.setCell ⟨B, o, none⟩ v) :=
  ⟨h.os, h.tape, h.output, by simpa [World.setCell] using h.size, fun i h3 h4 => (Below.heap_setCell _ _ _ i (by show i ≠ B; omega)).trans (h.block i h3 h4)⟩
theorem own_same {k : IntKind} {w w' : World} {B n : Nat} {f : Nat → Int} (h : Own k w B n f) (hb : w'.heap[B]? = w.heap[B]?) (hs : w.heap.size ≤ w'.heap.size) : Own k w' B n f :=
  ⟨Nat.lt_of_lt_of_le h.1 hs, fun i hi => ⟨(World.cell?_of_block (w := w) (a := ⟨B, i, none⟩) hb).trans (h.2 i hi).1, (World.frozen?_of_block (w := w) (a := ⟨B, i, none⟩) hb).trans (h.2 i hi).2⟩⟩
/-- What is turned elsewhere does not touch it. -/
theorem ZI.chg {L U L' U' : Nat} {w w' : World} {a : Option Addr} {n : Nat} {f : Nat → Int} (h : ZI L U w a n f) (hc : Chg L' U' w w') (hd : U ≤ L' ∨ U' ≤ L) : ZI L U w' a n f := by
  rcases h with h | ⟨B, rfl, h1, h2, ho⟩
  · exact .inl h
  · exact .inr ⟨B, rfl, h1, h2, own_same ho (hc.block B ho.1 (by omega)) hc.size⟩
theorem Lies.chg {W W' : World} {B : Nat} {vs : Array Value} {t : TypeId} {L U : Nat} (h : Lies W B vs t) (hc : Chg L U W W') (hn : B < L ∨ U ≤ B) : Lies W' B vs t := (hc.block B h.lt (by omega)).trans h
theorem ZI.congr {L U : Nat} {w : World} {a : Option Addr} {n : Nat} {f g : Nat → Int} (h : ZI L U w a n f) (e : ∀ i, i < n → f i = g i) : ZI L U w a n g := by
  rcases h with h | ⟨B, rfl, h1, h2, ho⟩
  · exact .inl h
  · exact .inr ⟨B, rfl, h1, h2, ho.congr e⟩

end Go.Proofs.Ytkmiijgoinpndaa
