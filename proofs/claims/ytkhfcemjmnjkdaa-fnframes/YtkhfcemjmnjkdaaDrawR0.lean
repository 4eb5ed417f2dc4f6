/-
  MORE OF THE CURSOR: l1Once; a pick out of a list that lies somewhere.
-/
import Derived.Test.YtkhfcemjmnjkdaaDraw
import Derived.Test.YtkhfcemjmnjkdaaSits
namespace Go.Proofs.Ytkhfcemjmnjkdaa
open Go.RowKit
set_option linter.unusedVariables false

theorem Only.setNew {B : Nat} {a w : World} (h : Only B a w) {V o : Nat} (hV : a.heap.size ≤ V) (u : Value) : Only B a (w.setCell ⟨V, o, none⟩ u) :=
  ⟨h.os, h.tape, h.output, by simpa [World.setCell] using h.size, fun k hk hn => (Below.heap_setCell w ⟨V, o, none⟩ u k (by show k ≠ V; omega)).trans (h.block k hk hn)⟩
theorem Sits.only {W W' : World} {B V : Nat} {vs : Array Value} {t : TypeId} (h : Sits W V vs t) (ho : Only B W W') (hn : V ≠ B) : Sits W' V vs t := (ho.block V h.lt hn).trans h
theorem Cur.drew {w : World} {B : Nat} {a : Option Addr} {len cap : Nat} (h : Cur w B a len cap) : Cur w.drew B a len cap := h
theorem Cur.setNew {w : World} {B : Nat} {a : Option Addr} {len cap : Nat} (h : Cur w B a len cap) {V o : Nat} (hV : B < V) (u : Value) : Cur (w.setCell ⟨V, o, none⟩ u) B a len cap := by
  obtain ⟨hB, hl, ⟨i, k, i0, i1, c0, c1, c2⟩, f1, f2, hcode⟩ := h
  have e : ∀ b x, b ≠ V → (w.setCell ⟨V, o, none⟩ u).cell? ⟨b, x, none⟩ = w.cell? ⟨b, x, none⟩ := fun b x hb => World.cell?_of_block (w := w) (Below.heap_setCell w ⟨V, o, none⟩ u b hb)
  have f : ∀ b x, b ≠ V → (w.setCell ⟨V, o, none⟩ u).frozen? ⟨b, x, none⟩ = w.frozen? ⟨b, x, none⟩ := fun b x hb => World.frozen?_of_block (w := w) (Below.heap_setCell w ⟨V, o, none⟩ u b hb)
  exact ⟨by simpa [World.setCell] using hB, hl, ⟨i, k, i0, i1, (e _ _ (by omega)).trans c0, (e _ _ (by omega)).trans c1, (e _ _ (by omega)).trans c2⟩, (f _ _ (by omega)).trans f1, (f _ _ (by omega)).trans f2, hcode.move fun b x hb => e b x (by omega)⟩

theorem wrap_in {x : Int} (h0 : -9223372036854775808 ≤ x) (h1 : x ≤ 9223372036854775807) : IntKind.i64.wrap x = x := by rw [IntKind.wrap_i64]; omega

theorem once_any (B : Nat) (a : Option Addr) (len cap : Nat) (w : World) (hc : Cur w B a len cap) (n : Int) (n0 : 1 ≤ n) (n1 : n ≤ 9223372036854775807) :
    Calls Try.prog 24 #[.pointer (some ⟨B, 0, none⟩), .int .i64 n] w fun e w' => ∃ x : Bool, e = .returned (.bool x) ∧ Cur w' B a len cap ∧ Only B w w' := by
  go_enter Try.func24, Try.ntmps24
  go_wp2_with (go_at_call 25; refine (below_any B a len cap _ hc _ n0 n1).mono ?_; clear hc; rintro e w' ⟨x, rfl, x0, x1, hc, ho⟩)
  go_ret
  exact ⟨_, rfl, hc, ho⟩

/-- A pick out of a list that is written out, wherever it lies. -/
theorem pick_sits (Q : Int → Prop) (B : Nat) (a : Option Addr) (len cap : Nat) (w : World) (hc : Cur w B a len cap) (L n : Nat) (c : Array Value) (t : TypeId) (hs : Sits w L c t) (hne : L ≠ B) (hn : c.size = n) (n0 : 1 ≤ n) (n1 : n ≤ 256) (hq : ∀ v ∈ c.toList, ∃ x : Int, v = .int .i64 x ∧ Q x) :
    Calls Try.prog 26 #[.pointer (some ⟨B, 0, none⟩), .slice (some ⟨L, 0, none⟩) n n] w fun e w' => ∃ x : Int, e = .returned (.int .i64 x) ∧ Q x ∧ Cur w' B a len cap ∧ Only B w w' := by
  refine pick_any Q B a len cap w hc L n n0 n1 hs.lt hne fun k hk => ?_
  obtain ⟨x, hx, hq'⟩ := hq (c[k]'(by omega)) (by simp)
  exact ⟨x, by rw [hs.cell, getElem?_pos c k (by omega), hx], hq'⟩

end Go.Proofs.Ytkhfcemjmnjkdaa
