/-
  SPANS IN MEMORY: a span's two numbers, a list of spans; the laws' toSpan, eqSpan, toSpanS, eqSpanS, szSpanS, toRecv, eqRecv, szRecv.
-/
import Derived.Test.YtfghnfanimpjjaaDoorPk
import Derived.Test.YtfghnfanimpjjaaDoorSits
import Derived.Test.YtfghnfanimpjjaaDoorBys
import Derived.Laws.MakeOwn
import Derived.Deep.Quiet
import Derived.Deep.QuietTactic
import Derived.BigQuiet
import Derived.Deep.Cut
namespace Go.Proofs.YtfghnfanimpjjaaDoor
open Go.RowKit
set_option linter.unusedVariables false

/-- A span. -/
structure Sp where
  fr : Int
  to : Int
instance : Inhabited Sp := ⟨⟨0, 0⟩⟩
@[reducible] def Sp.val (p : Sp) : Value := .agg #[.int .i64 p.fr, .int .i64 p.to]
@[reducible] def spCells (p : Sp) : Array Value := #[.int .i64 p.fr, .int .i64 p.to]
def Sp.In (p : Sp) : Prop := (-9223372036854775808 ≤ p.fr ∧ p.fr ≤ 9223372036854775807) ∧ (-9223372036854775808 ≤ p.to ∧ p.to ≤ 9223372036854775807)
/-- A span's two cells from o on in block b. -/
def SAt (w : World) (b o : Nat) (p : Sp) : Prop := w.cell? ⟨b, o, none⟩ = some (.int .i64 p.fr) ∧ w.cell? ⟨b, o + 1, none⟩ = some (.int .i64 p.to)
theorem SAt.below {n₀ : Nat} {w w' : World} {b o : Nat} {p : Sp} (h : SAt w b o p) (hb : Below n₀ w w') (hlt : b < n₀) : SAt w' b o p :=
  ⟨(hb.cell (p := ⟨b, o, none⟩) hlt).trans h.1, (hb.cell (p := ⟨b, o + 1, none⟩) hlt).trans h.2⟩
/-- A list of n spans f 0, f 1 .. in a block below n₀. -/
def SR (n₀ : Nat) (w : World) (a : Option Addr) (n : Nat) (f : Nat → Sp) : Prop :=
  n = 0 ∨ ∃ b off : Nat, a = some ⟨b, off, none⟩ ∧ b < n₀ ∧ ∀ i, i < n → SAt w b (off + i * 2) (f i)
theorem SR.below {n₀ : Nat} {w w' : World} {a : Option Addr} {n : Nat} {f : Nat → Sp} (h : SR n₀ w a n f) (hb : Below n₀ w w') : SR n₀ w' a n f := by
  rcases h with h | ⟨b, off, ha, hlt, hc⟩
  · exact .inl h
  · exact .inr ⟨b, off, ha, hlt, fun i hi => (hc i hi).below hb hlt⟩
theorem SR.at {n₀ : Nat} {w : World} {a : Option Addr} {n : Nat} {f : Nat → Sp} (h : SR n₀ w a n f) {j : Nat} (hj : j < n) : ∃ b off : Nat, a = some ⟨b, off, none⟩ ∧ b < n₀ ∧ ∀ i, i < n → SAt w b (off + i * 2) (f i) := by
  rcases h with h | h
  · omega
  · exact h
theorem SR.mono {n₀ n₁ : Nat} {w : World} {a : Option Addr} {n : Nat} {f : Nat → Sp} (h : SR n₀ w a n f) (hm : n₀ ≤ n₁) : SR n₁ w a n f := by
  rcases h with h | ⟨b, off, ha, hlt, hc⟩
  · exact .inl h
  · exact .inr ⟨b, off, ha, by omega, hc⟩
/-- Spans one behind another, two numbers each. -/
def flatS (f : Nat → Sp) (o : Nat) : Int := if o % 2 = 0 then (f (o / 2)).fr else (f (o / 2)).to
theorem flatS_0 (f : Nat → Sp) (i : Nat) : flatS f (i * 2) = (f i).fr := by
  unfold flatS
  rw [if_pos (by omega), show i * 2 / 2 = i by omega]
theorem flatS_1 (f : Nat → Sp) (i : Nat) : flatS f (i * 2 + 1) = (f i).to := by
  unfold flatS
  rw [if_neg (by omega), show (i * 2 + 1) / 2 = i by omega]
theorem sat_of {w : World} {B n : Nat} {f : Nat → Sp} (h : Own .i64 w B (n * 2) (flatS f)) {i : Nat} (hi : i < n) : SAt w B (i * 2) (f i) := by
  refine ⟨?_, ?_⟩
  · rw [(h.2 (i * 2) (by omega)).1, flatS_0]
  · rw [(h.2 (i * 2 + 1) (by omega)).1, flatS_1]
/-- m numbers at the head of a block of the zone L .. U - 1, which may be written (none: anywhere). -/
def ZS (L U : Nat) (w : World) (a : Option Addr) (m : Nat) (g : Nat → Int) : Prop := m = 0 ∨ ∃ B : Nat, a = some ⟨B, 0, none⟩ ∧ L ≤ B ∧ B < U ∧ Own .i64 w B m g
theorem ZS.below {L U : Nat} {w w' : World} {a : Option Addr} {m : Nat} {g : Nat → Int} (h : ZS L U w a m g) (hb : Below w.heap.size w w') : ZS L U w' a m g := by
  rcases h with h | ⟨B, ha, h1, h2, ho⟩
  · exact .inl h
  · exact .inr ⟨B, ha, h1, h2, ho.below hb⟩
theorem ZS.sr {L U : Nat} {w : World} {a : Option Addr} {n : Nat} {f : Nat → Sp} (h : ZS L U w a (n * 2) (flatS f)) : SR w.heap.size w a n f := by
  rcases h with h | ⟨B, ha, _, _, ho⟩
  · exact .inl (by omega)
  · exact .inr ⟨B, 0, ha, ho.1, fun i hi => by rw [Nat.zero_add]; exact sat_of ho hi⟩

theorem infoSpan : (Tryd.prog.info? 34).map (fun i => (i.zero, i.size, i.bytes)) = some (some (.agg #[.int .i64 0, .int .i64 0]), 2, 16) := by kernel_rfl

/-- make([]Span, n). -/
theorem run_make_sp (n : Nat) (hn : n ≤ 1048576) (w : World) :
    (Instr.makeSlice 23 (.int .i64 (n : Int)) (.int .i64 (n : Int))).run Tryd.prog w = .ok (.slice (some ⟨w.heap.size, 0, none⟩) n n) (w.alloc (.cells (madeCells #[.int .i64 0, .int .i64 0] (n * 2)) 34)) := by
  obtain ⟨i, hi, hzz⟩ := Option.map_eq_some_iff.1 infoSpan
  simp only [Prod.mk.injEq] at hzz
  obtain ⟨hz, hs, hb⟩ := hzz
  have hr := run_make (P := Tryd.prog) w 23 34 i _ Tryd.underlying23 hi hz .i64 .i64 n n (by omega) (Int.le_refl _) (by rw [hb]; omega) (by omega)
  simp only [Int.toNat_natCast, hs, Value.cells] at hr
  exact hr

theorem made_ints2 {w : World} (n : Nat) (t : TypeId) : Own .i64 (w.alloc (.cells (madeCells #[.int .i64 0, .int .i64 0] (n * 2)) t)) w.heap.size (n * 2) (fun _ => 0) := by
  refine ⟨by simp, fun i hi => ⟨?_, ?_⟩⟩
  · rw [World.cell?_alloc_new]
    have h6 : i % 2 < 2 := Nat.mod_lt _ (by omega)
    simp only [madeCells, Array.getElem?_map, Array.getElem?_range, hi, if_true, Option.map_some]
    match h : i % 2, h6 with
    | 0, _ => simp
    | 1, _ => simp
  · rw [frozen?_alloc_cells]
    simp [World.frozen?]

theorem own_set2 {w : World} {B n : Nat} {g : Nat → Int} (h : Own .i64 w B (n * 2) g) (k : Nat) (hk : k < n) (p : Sp) :
    Own .i64 ((w.setCell ⟨B, k * 2, none⟩ (.int .i64 p.fr)).setCell ⟨B, k * 2 + 1, none⟩ (.int .i64 p.to)) B (n * 2) (fun o => if o / 2 = k then (if o % 2 = 0 then p.fr else p.to) else g o) := by
  have h6 := (h.set (k * 2) (by omega) p.fr).set (k * 2 + 1) (by omega) p.to
  refine h6.congr fun o ho => ?_
  by_cases e : o / 2 = k
  · rw [if_pos e]
    have hm : o = k * 2 ∨ o = k * 2 + 1 := by omega
    rcases hm with rfl | rfl
    · have h2 : k * 2 % 2 = 0 := by omega
      simp [h2]
    · simp
  · rw [if_neg e]
    have a0 : o ≠ k * 2 := by omega
    have a1 : o ≠ k * 2 + 1 := by omega
    simp [a0, a1]

/-- A receiver's value. -/
@[reducible] def rcVal (nx : Int) (a : Option Addr) (n c : Nat) : Value := .agg #[.int .i64 nx, .slice a n c]
@[reducible] def rcCells (nx : Int) (a : Option Addr) (n c : Nat) : Array Value := #[.int .i64 nx, .slice a n c]
theorem rc_cells {w : World} {b : Nat} {a : Option Addr} {n c : Nat} {nx : Int} {t : TypeId} (h : Sits w b (rcCells nx a n c) t) : w.cell? ⟨b, 0, none⟩ = some (.int .i64 nx) ∧ w.cell? ⟨b, 1, none⟩ = some (.slice a n c) := ⟨h.cell 0, h.cell 1⟩

theorem ret_rc {fn : Func} {tmps : Array Value} {W : World} {i B : Nat} {nx : Int} {x : Option Addr} {n c : Nat} {t : TypeId} (hr : fn.results = #[.cell i 25]) (hi : tmps[i]?.getD undef = .pointer (some ⟨B, 0, none⟩)) (hs : Sits W B (rcCells nx x n c) t) : (results fn tmps).run Tryd.prog W = .ok (rcVal nx x n c) W := by
  obtain ⟨c0, c1⟩ := rc_cells hs
  simp [results, hr, hi, go_sem, c0, c1]

/-- What the laws' walks are told of a receiver that comes in. -/
def RecvIn (w : World) (nx : Int) (a : Option Addr) (len cap : Nat) (f : Nat → Sp) : Prop := (-9223372036854775808 ≤ nx ∧ nx ≤ 9223372036854775807) ∧ len ≤ cap ∧ cap ≤ maxLen ∧ SR w.heap.size w a len f ∧ ∀ i, i < len → (f i).In

end Go.Proofs.YtfghnfanimpjjaaDoor
