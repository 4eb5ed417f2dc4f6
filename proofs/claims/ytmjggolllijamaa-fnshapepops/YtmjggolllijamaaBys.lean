/-
  LISTS OF BYTES IN MEMORY, AND WHAT THE LAWS' HELPERS OVER THEM DO: toByteS copies, eqByteS compares, markByteS writes, heldByteS reads again.
-/
import Derived.Test.YtmjggolllijamaaBase
import Derived.Deep.OwnRows
import Derived.Deep.RegionHeld
namespace Go.Proofs.Ytmjggolllijamaa
open Go.RowKit
set_option linter.unusedVariables false

/-- Each number of a list is a byte. -/
def Byt (n : Nat) (f : Nat → Int) : Prop := ∀ i, i < n → 0 ≤ f i ∧ f i ≤ 255
/-- A list of n numbers f 0, f 1 .. somewhere in memory. -/
def Row (k : IntKind) (w : World) (a : Option Addr) (n : Nat) (f : Nat → Int) : Prop :=
  n = 0 ∨ ∃ b off : Nat, a = some ⟨b, off, none⟩ ∧ b < w.heap.size ∧ ∀ i, i < n → w.cell? ⟨b, off + i, none⟩ = some (.int k (f i))
/-- .. that lies at the head of block B and may be written. -/
def Own (k : IntKind) (w : World) (B n : Nat) (f : Nat → Int) : Prop :=
  B < w.heap.size ∧ ∀ i, i < n → w.cell? ⟨B, i, none⟩ = some (.int k (f i)) ∧ w.frozen? ⟨B, i, none⟩ = false
theorem Own.row {k : IntKind} {w : World} {B n : Nat} {f : Nat → Int} (h : Own k w B n f) : Row k w (some ⟨B, 0, none⟩) n f :=
  .inr ⟨B, 0, rfl, h.1, fun i hi => by rw [Nat.zero_add]; exact (h.2 i hi).1⟩
theorem Row.below {k : IntKind} {w w' : World} {a : Option Addr} {n : Nat} {f : Nat → Int} (h : Row k w a n f) (hb : Below w.heap.size w w') : Row k w' a n f := by
  rcases h with h | ⟨b, off, ha, hlt, hc⟩
  · exact .inl h
  · exact .inr ⟨b, off, ha, Nat.lt_of_lt_of_le hlt hb.size, fun i hi => (hb.cell (p := ⟨b, off + i, none⟩) hlt).trans (hc i hi)⟩
theorem Own.below {k : IntKind} {w w' : World} {B n : Nat} {f : Nat → Int} (h : Own k w B n f) (hb : Below w.heap.size w w') : Own k w' B n f :=
  ⟨Nat.lt_of_lt_of_le h.1 hb.size, fun i hi => ⟨(hb.cell (p := ⟨B, i, none⟩) h.1).trans (h.2 i hi).1, (hb.frozen (p := ⟨B, i, none⟩) h.1).trans (h.2 i hi).2⟩⟩
theorem Own.congr {k : IntKind} {w : World} {B n : Nat} {f g : Nat → Int} (h : Own k w B n f) (e : ∀ i, i < n → f i = g i) : Own k w B n g :=
  ⟨h.1, fun i hi => ⟨by rw [← e i hi]; exact (h.2 i hi).1, (h.2 i hi).2⟩⟩

/-- A number in its cell: what the others hold is as it was. -/
theorem Own.set {k : IntKind} {w : World} {B n : Nat} {f : Nat → Int} (h : Own k w B n f) (j : Nat) (hj : j < n) (x : Int) : Own k (w.setCell ⟨B, j, none⟩ (.int k x)) B n (fun i => if i = j then x else f i) := by
  refine ⟨by simpa [World.setCell] using h.1, fun i hi => ⟨?_, ?_⟩⟩
  · by_cases e : i = j
    · subst e
      have := (h.2 i hj).1
      simp [go_sem, this]
    · have := (h.2 i hi).1
      simp [go_sem, e, this]
  · rw [World.frozen?_setCell]; exact (h.2 i hi).2

theorem Own.far {k : IntKind} {w : World} {B n : Nat} {f : Nat → Int} (h : Own k w B n f) {H : Nat} (o : Nat) (v : Value) (hne : H ≠ B) : Own k (w.setCell ⟨H, o, none⟩ v) B n f :=
  ⟨by simpa [World.setCell] using h.1, fun i hi => ⟨(World.cell?_setCell_far w ⟨H, o, none⟩ ⟨B, i, none⟩ v (by show H ≠ B; omega)).trans (h.2 i hi).1, by rw [World.frozen?_setCell]; exact (h.2 i hi).2⟩⟩

theorem made_own {w : World} (n : Nat) (t : TypeId) : Own .u8 (w.alloc (.cells (madeCells #[.int .u8 0] n) t)) w.heap.size n (fun _ => 0) := by
  refine ⟨by simp, fun i hi => ⟨?_, ?_⟩⟩
  · rw [World.cell?_alloc_new]
    simp [madeCells, hi, Nat.mod_one]
  · rw [frozen?_alloc_cells]
    simp [World.frozen?]

theorem infoU8 : (Try.prog.info? 5).map (fun i => (i.zero, i.size, i.bytes)) = some (some (.int .u8 0), 1, 1) := by kernel_rfl

theorem Kept.drew' {a w : World} (h : Kept a w) : Kept a w.drew := ⟨h.1.drew, h.2.drew⟩
/-- Where a list that is not empty lies. -/
theorem Row.at {k : IntKind} {w : World} {a : Option Addr} {n : Nat} {f : Nat → Int} (h : Row k w a n f) {j : Nat} (hj : j < n) : ∃ b off : Nat, a = some ⟨b, off, none⟩ ∧ b < w.heap.size ∧ ∀ i, i < n → w.cell? ⟨b, off + i, none⟩ = some (.int k (f i)) := by
  rcases h with h | h
  · omega
  · exact h

theorem u8_wrap (x : Int) : IntKind.u8.wrap x = x % 256 := IntKind.wrap_u8 x

end Go.Proofs.Ytmjggolllijamaa
