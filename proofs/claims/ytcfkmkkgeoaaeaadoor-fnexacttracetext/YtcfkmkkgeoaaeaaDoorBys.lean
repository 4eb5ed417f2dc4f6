/-
  LISTS OF BYTES IN MEMORY, AND WHAT THE LAWS' HELPERS OVER THEM DO: toByteS copies, eqByteS compares, markByteS writes, heldByteS reads again.
-/
import Derived.Test.YtcfkmkkgeoaaeaaDoorBase
import Derived.Deep.OwnRows
import Derived.Deep.RegionHeld
namespace Go.Proofs.YtcfkmkkgeoaaeaaDoor
open Go.RowKit
set_option linter.unusedVariables false

/-- Each number of a list is a byte. -/
def Byt (n : Nat) (f : Nat → Int) : Prop := ∀ i, i < n → 0 ≤ f i ∧ f i ≤ 255
/-- A list of n numbers f 0, f 1 .. somewhere in memory. -/
def Row (k : IntKind) (w : World) (a : Option Addr) (n : Nat) (f : Nat → Int) : Prop :=
  n = 0 ∨ ∃ b off : Nat, a = some ⟨b, off, none⟩ ∧ b < w.heap.size ∧ ∀ i, i < n → w.cell? ⟨b, off + i, none⟩ = some (.int k (f i))
/-- .. that lies at the head of block B and may be written. -/
def Own (k : IntKind) (w : World) (B n : Nat) (f : Nat → Int) : Prop :=
  B < w.heap.size ∧ ∀ i, i < n → w.cell? ⟨B, i, none⟩ = some (.int k (f i)) ∧ w.frozen? ⟨B, i, none⟩ = false
theorem Own.row {k : IntKind} {w : World} {B n : Nat} {f : Nat → Int} (h : Own k w B n f) : Row k w (some ⟨B, 0, none⟩) n f :=
  .inr ⟨B, 0, rfl, h.1, fun i hi => by rw [Nat.zero_add]; exact (h.2 i hi).1⟩
theorem Row.below {k : IntKind} {w w' : World} {a : Option Addr} {n : Nat} {f : Nat → Int} (h : Row k w a n f) (hb : Below w.heap.size w w') : Row k w' a n f := by
  rcases h with h | ⟨b, off, ha, hlt, hc⟩
  · exact .inl h
  · exact .inr ⟨b, off, ha, Nat.lt_of_lt_of_le hlt hb.size, fun i hi => (hb.cell (p := ⟨b, off + i, none⟩) hlt).trans (hc i hi)⟩
theorem Own.below {k : IntKind} {w w' : World} {B n : Nat} {f : Nat → Int} (h : Own k w B n f) (hb : Below w.heap.size w w') : Own k w' B n f :=
  ⟨Nat.lt_of_lt_of_le h.1 hb.size, fun i hi => ⟨(hb.cell (p := ⟨B, i, none⟩) h.1).trans (h.2 i hi).1, (hb.frozen (p := ⟨B, i, none⟩) h.1).trans (h.2 i hi).2⟩⟩
theorem Own.congr {k : IntKind} {w : World} {B n : Nat} {f g : Nat → Int} (h : Own k w B n f) (e : ∀ i, i < n → f i = g i) : Own k w B n g :=
  ⟨h.1, fun i hi => ⟨by rw [← e i hi]; exact (h.2 i hi).1, (h.2 i hi).2⟩⟩

/-- A number in its cell: what the others hold is as it was. -/
theorem Own.set {k : IntKind} {w : World} {B n : Nat} {f : Nat → Int} (h : Own k w B n f) (j : Nat) (hj : j < n) (x : Int) : Own k (w.setCell ⟨B, j, none⟩ (.int k x)) B n (fun i => if i = j then x else f i) := by
  refine ⟨by simpa [World.setCell] using h.1, fun i hi => ⟨?_, ?_⟩⟩
  · by_cases e : i = j
    · subst e
      have := (h.2 i hj).1
      simp [go_sem, this]
    · have := (h.2 i hi).1
      simp [go_sem, e, this]
  · rw [World.frozen?_setCell]; exact (h.2 i hi).2

theorem Own.far {k : IntKind} {w : World} {B n : Nat} {f : Nat → Int} (h : Own k w B n f) {H : Nat} (o : Nat) (v : Value) (hne : H ≠ B) : Own k (w.setCell ⟨H, o, none⟩ v) B n f :=
  ⟨by simpa [World.setCell] using h.1, fun i hi => ⟨(World.cell?_setCell_far w ⟨H, o, none⟩ ⟨B, i, none⟩ v (by show H ≠ B; omega)).trans (h.2 i hi).1, by rw [World.frozen?_setCell]; exact (h.2 i hi).2⟩⟩

theorem made_own {w : World} (n : Nat) (t : TypeId) : Own .u8 (w.alloc (.cells (madeCells #[.int .u8 0] n) t)) w.heap.size n (fun _ => 0) := by
  refine ⟨by simp, fun i hi => ⟨?_, ?_⟩⟩
  · rw [World.cell?_alloc_new]
    simp [madeCells, hi, Nat.mod_one]
  · rw [frozen?_alloc_cells]
    simp [World.frozen?]

theorem infoU8 : (Tryd.prog.info? 5).map (fun i => (i.zero, i.size, i.bytes)) = some (some (.int .u8 0), 1, 1) := by kernel_rfl

theorem Kept.drew' {a w : World} (h : Kept a w) : Kept a w.drew := ⟨h.1.drew, h.2.drew⟩
/-- Where a list that is not empty lies. -/
theorem Row.at {k : IntKind} {w : World} {a : Option Addr} {n : Nat} {f : Nat → Int} (h : Row k w a n f) {j : Nat} (hj : j < n) : ∃ b off : Nat, a = some ⟨b, off, none⟩ ∧ b < w.heap.size ∧ ∀ i, i < n → w.cell? ⟨b, off + i, none⟩ = some (.int k (f i)) := by
  rcases h with h | h
  · omega
  · exact h

set_option maxHeartbeats 400000 in
theorem eqByteS_yes (a b : Option Addr) (n ca cb : Nat) (f g : Nat → Int) (w : World) (ha : Row .u8 w a n f) (hb : Row .u8 w b n g) (hfg : ∀ i, i < n → f i = g i) (hn : n ≤ 9223372036854775807) :
    Calls Tryd.prog 8 #[.slice a n ca, .slice b n cb] w fun e w' => e = .returned (.bool true) ∧ Kept w w' := by
  have HA : Hid _ := ha
  have HB : Hid _ := hb
  have HF : Hid _ := hfg
  clear ha hb hfg
  go_enter Tryd.func8, Tryd.ntmps8
  go_wp2
  go_loopw [5] (fun i wr => ∃ k : Nat, k ≤ n ∧ i = .int .i64 k ∧ Kept w wr) (fun i _ => n - (intOf i).toNat)
  case atStart => exact ⟨0, Nat.zero_le _, rfl, Kept.refl _⟩
  case round =>
    obtain ⟨k, hk, rfl, hkept⟩ := hrel
    by_cases hlt : k < n
    · obtain ⟨b1, o1, rfl, l1, c1⟩ := Row.at HA.out hlt
      obtain ⟨b2, o2, rfl, l2, c2⟩ := Row.at HB.out hlt
      have d1 : wr.cell? ⟨b1, o1 + k, none⟩ = some (.int .u8 (f k)) := (hkept.1.cell (p := ⟨b1, o1 + k, none⟩) l1).trans (c1 k hlt)
      have d2 : wr.cell? ⟨b2, o2 + k, none⟩ = some (.int .u8 (f k)) := (hkept.1.cell (p := ⟨b2, o2 + k, none⟩) l2).trans (by rw [c2 k hlt, HF.out k hlt])
      clear c1 c2
      go_wp2
      go_region
      go_wp2
      go_roundw
      case rel => exact ⟨k + 1, by omega, by go_num, hkept.drew'⟩
      case measure => simp [intOf]; omega
    · obtain rfl : k = n := by omega
      go_wp2
      go_ret
      exact ⟨rfl, hkept⟩

theorem u8_wrap (x : Int) : IntKind.u8.wrap x = x % 256 := IntKind.wrap_u8 x

set_option maxHeartbeats 400000 in
theorem markByteS_any (B n ca : Nat) (f : Nat → Int) (k0 : Int) (w : World) (ho : Own .u8 w B n f) (hn : n ≤ 1048576) (h0 : 0 ≤ k0) (h1 : k0 ≤ 1099511627776) :
    Calls Tryd.prog 11 #[.slice (some ⟨B, 0, none⟩) n ca, .int .i64 k0] w fun e w' => e = .returned (.int .i64 (k0 + n)) ∧ Own .u8 w' B n (fun i => (k0 + i) % 256) ∧ w'.heap.size = w.heap.size ∧ Below B w w' := by
  have HO : Hid _ := ho
  clear ho
  go_enter Tryd.func11, Tryd.ntmps11
  go_wp2
  go_loopw [1, 5] (fun c i wr => ∃ k : Nat, k ≤ n ∧ i = .int .i64 k ∧ c = .int .i64 (k0 + k) ∧ wr.heap.size = w.heap.size ∧ Below B w wr ∧ Own .u8 wr B n (fun j => if j < k then (k0 + j) % 256 else f j)) (fun _ i _ => n - (intOf i).toNat)
  case atStart => exact ⟨0, Nat.zero_le _, rfl, by simp, rfl, Below.refl _ _, Own.congr HO.out fun i _ => by simp⟩
  case round =>
    obtain ⟨k, hk, rfl, rfl, hz, hb, ho⟩ := hrel
    have HO : Hid (Own .u8 wr B n (fun j => if j < k then (k0 + j) % 256 else f j)) := ho
    have hB := ho.1
    have u8 := u8_wrap
    by_cases hlt : k < n
    · obtain ⟨c2, c3⟩ := ho.2 k hlt
      clear ho
      go_wp2
      go_roundw
      case rel => exact ⟨k + 1, by omega, by go_num, by go_num, by simpa [World.setCell] using hz, hb.setCell (Nat.le_refl _) _, (Own.set HO.out k hlt ((k0 + k) % 256)).congr fun i hi => by by_cases e : i = k <;> simp [e] <;> split <;> first | rfl | omega⟩
      case measure => simp [intOf]; omega
    · obtain rfl : k = n := by omega
      clear ho
      go_wp2
      go_ret
      exact ⟨rfl, Own.congr HO.out fun i hi => by simp [hi], hz, hb⟩

set_option maxHeartbeats 400000 in
theorem heldByteS_any (a : Option Addr) (n ca : Nat) (k0 : Int) (w : World) (ha : Row .u8 w a n (fun i => (k0 + i) % 256)) (hn : n ≤ 1048576) (h0 : 0 ≤ k0) (h1 : k0 ≤ 1099511627776) :
    Calls Tryd.prog 12 #[.slice a n ca, .int .i64 k0] w fun e w' => e = .returned (.int .i64 (k0 + n)) ∧ Kept w w' := by
  have HA : Hid _ := ha
  clear ha
  go_enter Tryd.func12, Tryd.ntmps12
  go_wp2
  go_loopw [1, 5] (fun c i wr => ∃ k : Nat, k ≤ n ∧ i = .int .i64 k ∧ c = .int .i64 (k0 + k) ∧ Kept w wr) (fun _ i _ => n - (intOf i).toNat)
  case atStart => exact ⟨0, Nat.zero_le _, rfl, by simp, Kept.refl _⟩
  case round =>
    obtain ⟨k, hk, rfl, rfl, hkept⟩ := hrel
    have u8 := u8_wrap
    by_cases hlt : k < n
    · obtain ⟨b1, o1, rfl, l1, c1⟩ := Row.at HA.out hlt
      have d1 : wr.cell? ⟨b1, o1 + k, none⟩ = some (.int .u8 ((k0 + k) % 256)) := (hkept.1.cell (p := ⟨b1, o1 + k, none⟩) l1).trans (c1 k hlt)
      clear c1
      go_wp2
      go_roundw
      case rel => exact ⟨k + 1, by omega, by go_num, by go_num, hkept⟩
      case measure => simp [intOf]; omega
    · obtain rfl : k = n := by omega
      go_wp2
      go_ret
      exact ⟨rfl, hkept⟩

end Go.Proofs.YtcfkmkkgeoaaeaaDoor
