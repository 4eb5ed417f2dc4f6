/-
  THE LAWS' same: two lists of the same bytes are the same.
-/
import Derived.Test.YtkhfcemjmnjkdaaBys
import Derived.Laws.BytesArg
namespace Go.Proofs.Ytkhfcemjmnjkdaa
open Go.RowKit
set_option linter.unusedVariables false

def nums (f : Nat → Int) (n : Nat) : List Int := (List.range n).map f
theorem conv_row (a : Option Addr) (n c : Nat) (f : Nat → Int) (w : World) (hr : Row .u8 w a n f) :
    (convert 22 9 (.slice a n c)).run Try.prog w = .ok (.string (strOfNums (nums f n))) w := by
  rcases hr with rfl | ⟨b, off, rfl, hb, hc⟩
  · rw [run_convert_bytes_string w 22 9 5 a 0 c Try.underlying22 Try.underlying5 Try.underlying9]
    cases a
    · simp [Conv.bytesToString, nums, strOfNums]
      rfl
    · rename_i ad
      have hl : (loadCells ad 0).run Try.prog w = .ok ([] : List Value).toArray w := by
        have := run_loadCells_list (P := Try.prog) w ad [] (fun j v hj => by simp at hj)
        simpa using this
      rw [run_bytesToString w ad 0 c [] hl]
      simp [nums, strOfNums]
      rfl
  · exact run_convert_bytes_arg w 22 5 Try.underlying22 Try.underlying5 b off n c (nums f n) (by simp [nums]) (fun i hi => by rw [hc i hi]; simp [nums, hi]) 9 Try.underlying9

theorem same_yes (a b : Option Addr) (n ca cb : Nat) (f g : Nat → Int) (w : World) (ha : Row .u8 w a n f) (hb : Row .u8 w b n g) (hfg : ∀ i, i < n → f i = g i) :
    Calls Try.prog 9 #[.slice a n ca, .slice b n cb] w fun e w' => e = .returned (.bool true) ∧ w' = w := by
  have h1 := conv_row a n ca f w ha
  have h2 := conv_row b n cb g w hb
  have e : nums g n = nums f n := List.map_congr_left fun i hi => (hfg i (by simpa using hi)).symm
  rw [e] at h2
  clear ha hb hfg e
  go_enter Try.func9, Try.ntmps9
  go_wp2
  go_ret
  exact ⟨rfl, rfl⟩

end Go.Proofs.Ytkhfcemjmnjkdaa
