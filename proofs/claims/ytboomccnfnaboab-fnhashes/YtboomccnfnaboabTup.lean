/-
  FLOWS: eqTuple, TupleOf OF BOTH SIDES.
-/
import Derived.Test.YtboomccnfnaboabFrOk
namespace Go.Proofs.Ytboomccnfnaboab
open Go.RowKit
set_option linter.unusedVariables false

/-- A flow's five numbers. -/
structure Tu where
  proto : Int
  src : Int
  dst : Int
  srcP : Int
  dstP : Int
@[reducible] def Tu.val (t : Tu) : Value := .agg #[.int .i64 t.proto, .int .i64 t.src, .int .i64 t.dst, .int .i64 t.srcP, .int .i64 t.dstP]
def tuOf (r : Fr) (n : Nat) : Tu := if r.good n = true then ⟨r.proto, r.src, r.dst, r.srcP, r.dstP⟩ else ⟨0, 0, 0, 0, 0⟩
@[reducible] def tuObj (t : Tu) : Obj := .cells #[.int .i64 t.proto, .int .i64 t.src, .int .i64 t.dst, .int .i64 t.srcP, .int .i64 t.dstP] 40
def Tv (w : World) (b : Nat) (t : Tu) : Prop := b < w.heap.size ∧ w.heap[b]? = some (tuObj t)
theorem Tv.alloc (w : World) (t : Tu) : Tv (w.alloc (tuObj t)) w.heap.size t := ⟨by simp, by show (w.heap.push _)[w.heap.size]? = _; exact Array.getElem?_push_size⟩
theorem Tv.below {w w' : World} {b : Nat} {t : Tu} (h : Tv w b t) (hb : Below w.heap.size w w') : Tv w' b t :=
  ⟨Nat.lt_of_lt_of_le h.1 hb.size, (hb.block b h.1).trans h.2⟩
theorem Tv.cells {w : World} {b : Nat} {t : Tu} (h : Tv w b t) : w.cell? ⟨b, 0, none⟩ = some (.int .i64 t.proto) ∧ w.cell? ⟨b, 1, none⟩ = some (.int .i64 t.src) ∧ w.cell? ⟨b, 2, none⟩ = some (.int .i64 t.dst) ∧ w.cell? ⟨b, 3, none⟩ = some (.int .i64 t.srcP) ∧ w.cell? ⟨b, 4, none⟩ = some (.int .i64 t.dstP) := by
  have hb := h.2
  refine ⟨?_, ?_, ?_, ?_, ?_⟩ <;> (rw [cell_of_row w b _ _ _ _ hb]; rfl)

set_option maxHeartbeats 1000000 in
theorem itupleOf_any (r : Fr) (a : Option Addr) (n c : Nat) (w : World) (hr : r.In) (hn : (n : Int) ≤ 9223372036854775807) :
    Calls Try.prog 17 #[r.val a n c] w fun e w' => e = .returned (.tuple #[(tuOf r n).val, .bool (r.good n)]) ∧ Below w.heap.size w w' := by
  have HI : Hid r.In := hr
  clear hr
  obtain ⟨d, e, i, t, p, s, q, sp, dp⟩ := r
  cases hg : (⟨d, e, i, t, p, s, q, sp, dp⟩ : Fr).good n
  case false =>
    have HT : Hid (tuOf ⟨d, e, i, t, p, s, q, sp, dp⟩ n = ⟨0, 0, 0, 0, 0⟩) := by show _ = _; unfold tuOf; rw [hg]; rfl
    rw [HT.out]
    simp only [Fr.val, Tu.val]
    go_enter Try.func17, Try.ntmps17
    go_wp2_with (go_at_call 46; refine (iframeOk_any ⟨d, e, i, t, p, s, q, sp, dp⟩ a n c _ HI.out hn).mono ?_; rintro o w1 ⟨rfl, hb1⟩; rw [hg]; have pa := fun o => hb1.cell (p := ⟨w.heap.size, o, none⟩) (by simp <;> omega); have pc := fun o => hb1.cell (p := ⟨w.heap.size + 1, o, none⟩) (by simp <;> omega); have pf := fun o => hb1.frozen (p := ⟨w.heap.size + 1, o, none⟩) (by simp <;> omega))
    have hB1 : Below w.heap.size w w1 := (((Below.refl w.heap.size w).alloc (Nat.le_refl _) _).alloc (by simp) _).trans (hb1.mono (by simp; omega))
    exact bodyPost_ret (v := .tuple #[.agg #[.int .i64 0, .int .i64 0, .int .i64 0, .int .i64 0, .int .i64 0], .bool false]) (by simp [results, Try.results17, go_sem, pc]) rfl ⟨rfl, (((((hB1).setCell (by show w.heap.size ≤ w.heap.size + 1; omega) _).setCell (by show w.heap.size ≤ w.heap.size + 1; omega) _).setCell (by show w.heap.size ≤ w.heap.size + 1; omega) _).setCell (by show w.heap.size ≤ w.heap.size + 1; omega) _).setCell (by show w.heap.size ≤ w.heap.size + 1; omega) _⟩
  case true =>
    have HT : Hid (tuOf ⟨d, e, i, t, p, s, q, sp, dp⟩ n = ⟨p, s, q, sp, dp⟩) := by show _ = _; unfold tuOf; rw [hg]; rfl
    rw [HT.out]
    simp only [Fr.val, Tu.val]
    go_enter Try.func17, Try.ntmps17
    go_wp2_with (go_at_call 46; refine (iframeOk_any ⟨d, e, i, t, p, s, q, sp, dp⟩ a n c _ HI.out hn).mono ?_; rintro o w1 ⟨rfl, hb1⟩; rw [hg]; have pa := fun o => hb1.cell (p := ⟨w.heap.size, o, none⟩) (by simp <;> omega); have pc := fun o => hb1.cell (p := ⟨w.heap.size + 1, o, none⟩) (by simp <;> omega); have pf := fun o => hb1.frozen (p := ⟨w.heap.size + 1, o, none⟩) (by simp <;> omega))
    have hB1 : Below w.heap.size w w1 := (((Below.refl w.heap.size w).alloc (Nat.le_refl _) _).alloc (by simp) _).trans (hb1.mono (by simp; omega))
    have hs1 : w.heap.size + 1 < w1.heap.size := by have := hb1.size; simp at this; omega
    go_wp2_with (go_at_call 50; refine (flowOf_any d e i t p s q sp dp a n c _).mono ?_; rintro o w2 ⟨rfl, hb2⟩; have qc := fun o => hb2.cell (p := ⟨w.heap.size + 1, o, none⟩) hs1; have qf := fun o => hb2.frozen (p := ⟨w.heap.size + 1, o, none⟩) hs1)
    have hB2 : Below w.heap.size w w2 := hB1.trans (hb2.mono hB1.size)
    exact bodyPost_ret (v := .tuple #[.agg #[.int .i64 p, .int .i64 s, .int .i64 q, .int .i64 sp, .int .i64 dp], .bool true]) (by simp [results, Try.results17, go_sem, pc, qc]) rfl ⟨rfl, (((((hB2).setCell (by show w.heap.size ≤ w.heap.size + 1; omega) _).setCell (by show w.heap.size ≤ w.heap.size + 1; omega) _).setCell (by show w.heap.size ≤ w.heap.size + 1; omega) _).setCell (by show w.heap.size ≤ w.heap.size + 1; omega) _).setCell (by show w.heap.size ≤ w.heap.size + 1; omega) _⟩

end Go.Proofs.Ytboomccnfnaboab
