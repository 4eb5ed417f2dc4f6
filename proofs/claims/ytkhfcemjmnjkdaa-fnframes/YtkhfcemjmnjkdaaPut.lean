/-
  THE PROGRAM's put: a number's bytes, high ones first, behind what is written.
-/
import Derived.Test.YtkhfcemjmnjkdaaAppBy
namespace Go.Proofs.Ytkhfcemjmnjkdaa
open Go.RowKit
set_option linter.unusedVariables false

/-- What is written, and s bytes of v behind it. -/
def putF (f : Nat → Int) (m : Nat) (v : Int) (s : Nat) (i : Nat) : Int := if i < m then f i else (v / 2 ^ (8 * (m + s - 1 - i))) % 256

set_option maxRecDepth 100000 in
set_option maxHeartbeats 2000000 in
theorem put_any (P base : Nat) (x : Option Addr) (m c : Nat) (f : Nat → Int) (v : Int) (s : Nat) (t : TypeId) (w : World) (hP : P < base) (hb : base ≤ w.heap.size) (hs : Sits w P #[.slice x m c] t) (ho : BO base w x m c f) (hm : m ≤ 1000) (h4 : s ≤ 4) (v0 : 0 ≤ v) (v1 : v ≤ 9223372036854775807) :
    Calls Try.prog 15 #[.pointer (some ⟨P, 0, none⟩), .int .i64 v, .int .i64 s] w fun e w' => e = .returned (.tuple #[]) ∧ ∃ (x' : Option Addr) (c' : Nat), Sits w' P #[.slice x' (m + s) c'] t ∧ BO base w' x' (m + s) c' (putF f m v s) ∧ Bar P base w w' := by
  have HS : Hid (Sits w P #[.slice x m c] t) := hs
  have HO : Hid (BO base w x m c f) := ho
  clear hs ho
  go_enter Try.func15, Try.ntmps15
  go_wp2
  go_loopw [6] (fun i wr => ∃ (j : Nat) (y : Option Addr) (cy : Nat), j ≤ s ∧ i = .int .i64 (8 * ((s : Int) - 1 - j)) ∧ Sits wr P #[.slice y (m + j) cy] t ∧ BO base wr y (m + j) cy (putF f m v s) ∧ Bar P base w wr) (fun i _ => ((intOf i) + 8).toNat)
  case atStart => exact ⟨0, x, c, by omega, by congr 1; omega, HS.out, BO.congr HO.out (fun i hi => by unfold putF; rw [if_pos (show i < m from hi)]), Bar.refl _ _ _⟩
  case round =>
    obtain ⟨j, y, cy, hj, rfl, sy, oy, by'⟩ := hrel
    by_cases hlt : j < s
    · have c0 := sy.cell 0
      have f0 := sy.frozen 0
      have hsz := by'.size
      have lP := sy.lt
      simp only [List.getElem?_toArray, List.getElem?_cons_zero] at c0
      have SY : Hid (Sits wr P #[.slice y (m + j) cy] t) := sy
      have OY : Hid (BO base wr y (m + j) cy (putF f m v s)) := oy
      have BY : Hid (Bar P base w wr) := by'
      have k0 : 0 ≤ 8 * ((s : Int) - 1 - j) := by omega
      have k1 : 8 * ((s : Int) - 1 - j) < 64 := by omega
      clear sy oy by'
      go_wp2_with fail
      go_region_law (refine step_append_by1 (by rfl) _ _ (by rfl) base y (m + j) cy (putF f m v s) (by rfl) (BO.drew (BO.alloc OY.out _)) wr.heap.size _ (by rfl) (cell_new1 _ _ _) (by omega) (by simp; omega) ?_; intro g cap' w1 hbo hgrow hat hlt1; obtain ⟨hcf, hff, hbel⟩ := grown_cells' (H := base) hgrow (by simp; omega) (fun k e => (BO.own_lt OY.out k e).1); have d0 : w1.cell? ⟨P, 0, none⟩ = some (.slice y (m + j) cy) := (hcf P 0 hP).trans ((Sits.drew (Sits.alloc SY.out _)).cell 0); have d1 : w1.frozen? ⟨P, 0, none⟩ = false := (hff P 0 hP).trans ((Sits.drew (Sits.alloc SY.out _)).frozen 0))
      all_goals
        (go_wp2_with fail)
        go_roundw
        case rel =>
          refine ⟨j + 1, some ⟨g, 0, none⟩, cap', by omega, by first | rfl | (congr 1; omega), ?_, ?_, ?_⟩
          · exact ((Sits.drew (Sits.alloc SY.out _)).below hbel hP).set 0 _
          · refine (hbo.far hP 0 _).congr fun i hi => ?_
            split
            · next h =>
              subst h
              rw [u8_wrap]
              unfold putF
              rw [if_neg (by omega), show (8 * ((s : Int) - 1 - (j : Int))).toNat = 8 * (m + s - 1 - (m + j)) by omega]
            · rfl
          · exact (Bar.trans BY.out (Bar.of_below ((((Below.refl _ _).alloc (by omega) _).drew).trans hbel))).set 0 _
        case measure => simp [intOf]; omega
    · obtain rfl : j = s := by omega
      go_wp2
      go_end0
      exact ⟨rfl, y, cy, sy, oy, by'⟩

end Go.Proofs.Ytkhfcemjmnjkdaa
