/-
  WHAT THE LAWS' HELPERS OVER FRAMES DO: eqIp, eqFrame, markFrame, heldFrame, toIp, toFrame, szFrame.
-/
import Derived.Test.YtkhfcemjmnjkdaaZone
namespace Go.Proofs.Ytkhfcemjmnjkdaa
open Go.RowKit
set_option linter.unusedVariables false

/-- A frame's numbers. -/
structure Fr where
  dscp : Int
  ecn : Int
  id : Int
  ttl : Int
  proto : Int
  src : Int
  dst : Int
  srcP : Int
  dstP : Int
@[reducible] def Fr.ip (r : Fr) : Value := .agg #[.int .i64 r.dscp, .int .i64 r.ecn, .int .i64 r.id, .int .i64 r.ttl, .int .i64 r.proto, .int .i64 r.src, .int .i64 r.dst]
@[reducible] def Fr.val (r : Fr) (a : Option Addr) (n c : Nat) : Value := .agg #[.int .i64 r.dscp, .int .i64 r.ecn, .int .i64 r.id, .int .i64 r.ttl, .int .i64 r.proto, .int .i64 r.src, .int .i64 r.dst, .int .i64 r.srcP, .int .i64 r.dstP, .slice a n c]

/-- A frame that lies in a variable. -/
@[reducible] def frObj (r : Fr) (d : Option Addr) (m c : Nat) : Obj := .cells #[.int .i64 r.dscp, .int .i64 r.ecn, .int .i64 r.id, .int .i64 r.ttl, .int .i64 r.proto, .int .i64 r.src, .int .i64 r.dst, .int .i64 r.srcP, .int .i64 r.dstP, .slice d m c] 26
def Fv (w : World) (b : Nat) (r : Fr) (d : Option Addr) (m c : Nat) : Prop := b < w.heap.size ∧ w.heap[b]? = some (frObj r d m c)
theorem Fv.alloc (w : World) (r : Fr) (d : Option Addr) (m c : Nat) : Fv (w.alloc (frObj r d m c)) w.heap.size r d m c := ⟨by simp, by show (w.heap.push _)[w.heap.size]? = _; exact Array.getElem?_push_size⟩
theorem Fv.below {w w' : World} {b : Nat} {r : Fr} {d : Option Addr} {m c : Nat} (h : Fv w b r d m c) (hb : Below w.heap.size w w') : Fv w' b r d m c :=
  ⟨Nat.lt_of_lt_of_le h.1 hb.size, (hb.block b h.1).trans h.2⟩
theorem Fv.chg {w w' : World} {b : Nat} {r : Fr} {d : Option Addr} {m c : Nat} {L U : Nat} (h : Fv w b r d m c) (hb : Chg L U w w') (hn : b < L ∨ U ≤ b) : Fv w' b r d m c :=
  ⟨Nat.lt_of_lt_of_le h.1 hb.size, (hb.block b h.1 (by omega)).trans h.2⟩
theorem Fv.cells {w : World} {b : Nat} {r : Fr} {d : Option Addr} {m c : Nat} (h : Fv w b r d m c) : w.cell? ⟨b, 0, none⟩ = some (.int .i64 r.dscp) ∧ w.cell? ⟨b, 1, none⟩ = some (.int .i64 r.ecn) ∧ w.cell? ⟨b, 2, none⟩ = some (.int .i64 r.id) ∧ w.cell? ⟨b, 3, none⟩ = some (.int .i64 r.ttl) ∧ w.cell? ⟨b, 4, none⟩ = some (.int .i64 r.proto) ∧ w.cell? ⟨b, 5, none⟩ = some (.int .i64 r.src) ∧ w.cell? ⟨b, 6, none⟩ = some (.int .i64 r.dst) ∧ w.cell? ⟨b, 7, none⟩ = some (.int .i64 r.srcP) ∧ w.cell? ⟨b, 8, none⟩ = some (.int .i64 r.dstP) ∧ w.cell? ⟨b, 9, none⟩ = some (.slice d m c) := by
  have hb := h.2
  refine ⟨?_, ?_, ?_, ?_, ?_, ?_, ?_, ?_, ?_, ?_⟩ <;> (rw [cell_of_row w b _ _ _ _ hb]; rfl)

end Go.Proofs.Ytkhfcemjmnjkdaa
