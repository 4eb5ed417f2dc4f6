/-
  A VISIT: what one call of CodelPop is in the middle of; look, stop.
-/
import Derived.Test.YtlhiadehohikdaaLateI
import Derived.Test.YtlhiadehohikdaaPopQ
import Derived.Test.YtlhiadehohikdaaControl
namespace Go.Proofs.Ytlhiadehohikdaa
open Go.RowKit
set_option linter.unusedVariables false

/-- A visit's cells. -/
structure Vs where
  c : Cd
  a : Option Addr
  n : Nat
  cap : Nat
  lim : Int
  now : Int
  st : Int
  lt : Bool
  mq : Bool
  x : Option Addr
  m : Nat
  cp : Nat
@[reducible] def vsCells (s : Vs) : Array Value := #[.int .i64 s.c.tg, .int .i64 s.c.iv, .int .i64 s.c.fi, .int .i64 s.c.nx, .int .i64 s.c.ct, .int .i64 s.c.la, .bool s.c.dr, .slice s.a s.n s.cap, .int .i64 s.lim, .int .i64 s.now, .int .i64 s.st, .bool s.lt, .bool s.mq, .slice s.x s.m s.cp]
theorem vs_cells {W : World} {B : Nat} {s : Vs} {t : TypeId} (h : Sits W B (vsCells s) t) : (W.cell? ⟨B, 0, none⟩ = some (.int .i64 s.c.tg) ∧ W.cell? ⟨B, 1, none⟩ = some (.int .i64 s.c.iv) ∧ W.cell? ⟨B, 2, none⟩ = some (.int .i64 s.c.fi) ∧ W.cell? ⟨B, 3, none⟩ = some (.int .i64 s.c.nx) ∧ W.cell? ⟨B, 4, none⟩ = some (.int .i64 s.c.ct) ∧ W.cell? ⟨B, 5, none⟩ = some (.int .i64 s.c.la) ∧ W.cell? ⟨B, 6, none⟩ = some (.bool s.c.dr)) ∧ (W.cell? ⟨B, 7, none⟩ = some (.slice s.a s.n s.cap) ∧ W.cell? ⟨B, 8, none⟩ = some (.int .i64 s.lim)) ∧ W.cell? ⟨B, 9, none⟩ = some (.int .i64 s.now) ∧ W.cell? ⟨B, 10, none⟩ = some (.int .i64 s.st) ∧ W.cell? ⟨B, 11, none⟩ = some (.bool s.lt) ∧ W.cell? ⟨B, 12, none⟩ = some (.bool s.mq) ∧ W.cell? ⟨B, 13, none⟩ = some (.slice s.x s.m s.cp) :=
  ⟨⟨h.cell 0, h.cell 1, h.cell 2, h.cell 3, h.cell 4, h.cell 5, h.cell 6⟩, ⟨h.cell 7, h.cell 8⟩, h.cell 9, h.cell 10, h.cell 11, h.cell 12, h.cell 13⟩

theorem vs_tg {W : World} {V : Nat} {s : Vs} {t : TypeId} (h : Sits W V (vsCells s) t) (v : Int) : Sits (W.setCell ⟨V, 0, none⟩ (.int .i64 v)) V (vsCells { s with c := { s.c with tg := v } }) t := h.set 0 _
theorem vs_iv {W : World} {V : Nat} {s : Vs} {t : TypeId} (h : Sits W V (vsCells s) t) (v : Int) : Sits (W.setCell ⟨V, 1, none⟩ (.int .i64 v)) V (vsCells { s with c := { s.c with iv := v } }) t := h.set 1 _
theorem vs_fi {W : World} {V : Nat} {s : Vs} {t : TypeId} (h : Sits W V (vsCells s) t) (v : Int) : Sits (W.setCell ⟨V, 2, none⟩ (.int .i64 v)) V (vsCells { s with c := { s.c with fi := v } }) t := h.set 2 _
theorem vs_nx {W : World} {V : Nat} {s : Vs} {t : TypeId} (h : Sits W V (vsCells s) t) (v : Int) : Sits (W.setCell ⟨V, 3, none⟩ (.int .i64 v)) V (vsCells { s with c := { s.c with nx := v } }) t := h.set 3 _
theorem vs_ct {W : World} {V : Nat} {s : Vs} {t : TypeId} (h : Sits W V (vsCells s) t) (v : Int) : Sits (W.setCell ⟨V, 4, none⟩ (.int .i64 v)) V (vsCells { s with c := { s.c with ct := v } }) t := h.set 4 _
theorem vs_la {W : World} {V : Nat} {s : Vs} {t : TypeId} (h : Sits W V (vsCells s) t) (v : Int) : Sits (W.setCell ⟨V, 5, none⟩ (.int .i64 v)) V (vsCells { s with c := { s.c with la := v } }) t := h.set 5 _
theorem vs_dr {W : World} {V : Nat} {s : Vs} {t : TypeId} (h : Sits W V (vsCells s) t) (v : Bool) : Sits (W.setCell ⟨V, 6, none⟩ (.bool v)) V (vsCells { s with c := { s.c with dr := v } }) t := h.set 6 _
theorem vs_q {W : World} {V : Nat} {s : Vs} {t : TypeId} (h : Sits W V (vsCells s) t) (a : Option Addr) (n cap : Nat) : Sits (W.setCell ⟨V, 7, none⟩ (.slice a n cap)) V (vsCells { s with a := a, n := n, cap := cap }) t := h.set 7 _
theorem vs_lim {W : World} {V : Nat} {s : Vs} {t : TypeId} (h : Sits W V (vsCells s) t) (v : Int) : Sits (W.setCell ⟨V, 8, none⟩ (.int .i64 v)) V (vsCells { s with lim := v }) t := h.set 8 _
theorem vs_st {W : World} {V : Nat} {s : Vs} {t : TypeId} (h : Sits W V (vsCells s) t) (v : Int) : Sits (W.setCell ⟨V, 10, none⟩ (.int .i64 v)) V (vsCells { s with st := v }) t := h.set 10 _
theorem vs_lt {W : World} {V : Nat} {s : Vs} {t : TypeId} (h : Sits W V (vsCells s) t) (v : Bool) : Sits (W.setCell ⟨V, 11, none⟩ (.bool v)) V (vsCells { s with lt := v }) t := h.set 11 _
theorem vs_mq {W : World} {V : Nat} {s : Vs} {t : TypeId} (h : Sits W V (vsCells s) t) (v : Bool) : Sits (W.setCell ⟨V, 12, none⟩ (.bool v)) V (vsCells { s with mq := v }) t := h.set 12 _
theorem vs_x {W : World} {V : Nat} {s : Vs} {t : TypeId} (h : Sits W V (vsCells s) t) (a : Option Addr) (n cap : Nat) : Sits (W.setCell ⟨V, 13, none⟩ (.slice a n cap)) V (vsCells { s with x := a, m := n, cp := cap }) t := h.set 13 _
theorem only_of_below {B : Nat} {w w' : World} (h : Below w.heap.size w w') : Only B w w' := ⟨h.os, h.tape, h.output, h.size, fun k hk _ => h.block k hk⟩

set_option maxHeartbeats 2000000 in
theorem stop_visit (s : Vs) (V : Nat) (w : World) (hs : Sits w V (vsCells s) 59) :
    Calls Try.prog 51 #[.pointer (some ⟨V, 0, none⟩)] w fun e w' => e = .returned (.tuple #[]) ∧ Sits w' V (vsCells { s with c := { s.c with dr := false }, st := 2 }) 59 ∧ Only V w w' := by
  obtain ⟨c, a, n, cap, lim, now, st, lt, mq, x, m, cp⟩ := s
  have HS : Hid (Sits w V (vsCells ⟨c, a, n, cap, lim, now, st, lt, mq, x, m, cp⟩) 59) := hs
  obtain ⟨⟨c0, c1, c2, c3, c4, c5, c6⟩, ⟨x0, x1⟩, c9, c10, c11, c12, c13⟩ := vs_cells hs
  have fz := hs.frozen
  clear hs
  dsimp only at *
  go_enter Try.func51, Try.ntmps51
  go_wp2
  go_end0
  exact ⟨rfl, vs_st (vs_dr HS.out _) _, ((Only.refl V w).set 6 _).set 10 _⟩

end Go.Proofs.Ytlhiadehohikdaa
