/-
  THE NUMBERS OF THOSE OF ONE FLOW: OfFlow OF BOTH SIDES.
-/
import Derived.Test.YtmjggolllijamaaPkMark
import Derived.Maps.AppendAt
import Derived.Deep.Onto
import Derived.Laws.OwnMore
namespace Go.Proofs.Ytmjggolllijamaa
open Go.RowKit Go.Shelf
set_option linter.unusedVariables false
attribute [local go_sem] Oper.semAt_some

theorem infoInt : (Try.prog.info? 3).map (fun i => (i.zero, i.size, i.bytes)) = some (some (.int .i64 0), 1, 8) := by kernel_rfl

def ofF (f : Nat → Pk) (flow : Int) (n : Nat) : List Int := ((List.range n).filter fun j => decide ((f j).flow = flow)).map fun j => (f j).id
theorem ofF_hit (f : Nat → Pk) (flow : Int) (n : Nat) (h : (f n).flow = flow) : ofF f flow (n + 1) = ofF f flow n ++ [(f n).id] := by
  unfold ofF; rw [List.range_succ, List.filter_append]; simp [h]
theorem ofF_miss (f : Nat → Pk) (flow : Int) (n : Nat) (h : ¬ (f n).flow = flow) : ofF f flow (n + 1) = ofF f flow n := by
  unfold ofF; rw [List.range_succ, List.filter_append]; simp [h]
theorem ofF_len (f : Nat → Pk) (flow : Int) (n : Nat) : (ofF f flow n).length ≤ n := by
  unfold ofF; rw [List.length_map]; exact Nat.le_trans (List.length_filter_le _ _) (by simp)
def hitL {len : Nat} (f : Nat → Pk) (flow : Int) (pre : List (Upto len)) : List Int := (pre.filter fun x => decide ((f x.1).flow = flow)).map fun x => (f x.1).id
theorem hitL_hit {len : Nat} (f : Nat → Pk) (flow : Int) (pre : List (Upto len)) (x : Upto len) (h : (f x.1).flow = flow) : hitL f flow (pre ++ [x]) = hitL f flow pre ++ [(f x.1).id] := by
  unfold hitL; rw [List.filter_append]; simp [h]
theorem hitL_miss {len : Nat} (f : Nat → Pk) (flow : Int) (pre : List (Upto len)) (x : Upto len) (h : ¬ (f x.1).flow = flow) : hitL f flow (pre ++ [x]) = hitL f flow pre := by
  unfold hitL; rw [List.filter_append]; simp [h]
theorem hitL_len {len : Nat} (f : Nat → Pk) (flow : Int) (pre : List (Upto len)) : (hitL f flow pre).length ≤ pre.length := by
  unfold hitL; rw [List.length_map]; exact List.length_filter_le _ _
theorem hitL_all {len : Nat} (f : Nat → Pk) (flow : Int) (zs : List (Upto len)) (h : zs.map (·.1) = List.range len) : hitL f flow zs = ofF f flow len := by
  unfold hitL ofF; rw [← h, List.filter_map, List.map_map]; rfl
def ofR (f : Nat → Pk) (n : Nat) (lim flow : Int) : List Int := if fifoB f n lim then ofF f flow n else []

/-- Numbers that are one's own. -/
def OI (base : Nat) (w : World) (x : Option Addr) (cap : Nat) (l : List Int) : Prop := w.ownsRow base 3 1 (.slice x l.length cap) l.length (l.map (Value.int .i64))
theorem oi_of {base : Nat} {w : World} {v : Value} {l : List Int} (h : w.ownsRow base 3 1 v l.length (l.map (Value.int .i64))) : ∃ x cap, v = .slice x l.length cap ∧ OI base w x cap l := by
  rcases h.2 with ⟨hv, h0⟩ | ⟨g, cap, cur, hv, _⟩
  · refine ⟨none, 0, by rw [h0]; exact hv, ?_⟩
    unfold OI
    rw [h0, ← hv]
    exact h0 ▸ h
  · exact ⟨some ⟨g, 0, none⟩, cap, hv, by unfold OI; rw [← hv]; exact h⟩
theorem OI.zi {base : Nat} {w : World} {x : Option Addr} {cap : Nat} {l : List Int} (h : OI base w x cap l) : ZI base w.heap.size w x l.length (fun i => l.getD i 0) := by
  obtain ⟨hl, ⟨hv, h0⟩ | ⟨g, cp, cur, hv, hb, hh, h1, h2, h3, h4⟩⟩ := h
  · exact .inl h0
  · simp only [Value.slice.injEq] at hv
    obtain ⟨rfl, _, rfl⟩ := hv
    have h' : w.ownsRow base 3 1 (.slice (some ⟨g, 0, none⟩) l.length cap) l.length (l.map (Value.int .i64)) := ⟨hl, .inr ⟨g, cap, cur, rfl, hb, hh, h1, h2, h3, h4⟩⟩
    refine .inr ⟨g, rfl, hb, (Array.getElem?_eq_some_iff.1 hh).1, (Array.getElem?_eq_some_iff.1 hh).1, fun i hi => ⟨?_, h'.frozenAt i⟩⟩
    rw [h'.cellAt i (by omega)]
    simp [hi]

end Go.Proofs.Ytmjggolllijamaa
