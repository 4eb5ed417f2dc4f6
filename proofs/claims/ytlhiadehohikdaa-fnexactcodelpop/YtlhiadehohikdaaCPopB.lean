/-
  WHAT THE LAW OF CodelPop WANTS BESIDES: bounds of what is dropped and left; boxes and zones of a world by name.
-/
import Derived.Test.YtlhiadehohikdaaCPopS
import Derived.Test.YtlhiadehohikdaaCPopI
import Derived.Test.YtlhiadehohikdaaFrSet
import Derived.Test.YtlhiadehohikdaaPkMark
namespace Go.Proofs.Ytlhiadehohikdaa
open Go.RowKit
set_option linter.unusedVariables false

theorem popM_le (c : Cd) (f : Nat → Pk) (n : Nat) (lim now : Int) : popM c f n lim now ≤ n := by
  unfold popM
  split
  · exact popR_le f n now c
  · exact Nat.zero_le _
theorem popK_le (c : Cd) (f : Nat → Pk) (n : Nat) (lim now : Int) : popK c f n lim now ≤ n := by
  unfold popK
  split
  · omega
  · exact Nat.zero_le _

theorem WS.three {v w : World} {zs : List ZoneL} {b1 b2 b3 : Box} (h : WS v zs [b1, b2, b3] w) : Sits w b1.1 b1.2.1 b1.2.2 ∧ Sits w b2.1 b2.2.1 b2.2.2 ∧ Sits w b3.1 b3.2.1 b3.2.2 :=
  ⟨(h.box b1 (by simp)).2, (h.box b2 (by simp)).2, (h.box b3 (by simp)).2⟩
/-- Three boxes and two lists, each where it lies. -/
structure WB (z1 z2 : ZoneL) (b1 b2 b3 : Box) (w : World) : Prop where
  one : Sits w b1.1 b1.2.1 b1.2.2
  two : Sits w b2.1 b2.2.1 b2.2.2
  thr : Sits w b3.1 b3.2.1 b3.2.2
  zo : ZI z1.1 z1.2.1 w z1.2.2.1 z1.2.2.2.1 z1.2.2.2.2
  zt : ZI z2.1 z2.2.1 w z2.2.2.1 z2.2.2.2.1 z2.2.2.2.2
theorem WS.wb {v w : World} {z1 z2 : ZoneL} {b1 b2 b3 : Box} (h : WS v [z1, z2] [b1, b2, b3] w) : WB z1 z2 b1 b2 b3 w :=
  ⟨(h.three).1, (h.three).2.1, (h.three).2.2, (h.zone z1 (by simp)).2.2, (h.zone z2 (by simp)).2.2⟩
theorem WB.below {z1 z2 : ZoneL} {b1 b2 b3 : Box} {w w' : World} (h : WB z1 z2 b1 b2 b3 w) (hb : Below w.heap.size w w') : WB z1 z2 b1 b2 b3 w' :=
  ⟨h.one.below hb h.one.lt, h.two.below hb h.two.lt, h.thr.below hb h.thr.lt, h.zo.below hb, h.zt.below hb⟩
/-- What is turned beside them leaves them as they are. -/
theorem WB.chg {z1 z2 : ZoneL} {b1 b2 b3 : Box} {w w' : World} {L U : Nat} (h : WB z1 z2 b1 b2 b3 w) (hc : Chg L U w w') (h1 : b1.1 < L ∨ U ≤ b1.1) (h2 : b2.1 < L ∨ U ≤ b2.1) (h3 : b3.1 < L ∨ U ≤ b3.1) (h4 : z1.2.1 ≤ L ∨ U ≤ z1.1) (h5 : z2.2.1 ≤ L ∨ U ≤ z2.1) : WB z1 z2 b1 b2 b3 w' :=
  ⟨(hc.block b1.1 h.one.lt (by omega)).trans h.one, (hc.block b2.1 h.two.lt (by omega)).trans h.two, (hc.block b3.1 h.thr.lt (by omega)).trans h.thr, h.zo.chg hc h4, h.zt.chg hc h5⟩

theorem Sits.other' {W W' : World} {B : Nat} {vs : Array Value} {t : TypeId} {L U : Nat} (hc : Chg L U W W') (h : Sits W B vs t) (hn : B < L ∨ U ≤ B) : Sits W' B vs t := (hc.block B h.lt (by omega)).trans h

theorem Chg.wide0 {L U L' : Nat} {w w' : World} (h : Chg L U w w') (h1 : L' ≤ L) : Chg L' U w w' := ⟨h.os, h.tape, h.output, h.size, fun k hk hn => h.block k hk (by omega)⟩

end Go.Proofs.Ytlhiadehohikdaa
