/-
  WHAT BOTH READERS OF FRAMES ANSWER, IN ONE SENTENCE EACH.
-/
import Derived.Test.YtkhfcemjmnjkdaaParseG24
import Derived.Test.YtkhfcemjmnjkdaaFr
namespace Go.Proofs.Ytkhfcemjmnjkdaa
open Go.RowKit
set_option linter.unusedVariables false

def frNo : Fr := ⟨0, 0, 0, 0, 0, 0, 0, 0, 0⟩
/-- The numbers of the frame that bytes are. -/
def frOf (f : Nat → Int) : Fr := ⟨f 1 / 4, f 1 % 4, get16F f 4, f 8, f 9, get16F f 12 * 65536 + get16F f 14, get16F f 16 * 65536 + get16F f 18, get16F f 20, get16F f 22⟩
def frR (f : Nat → Int) (n : Nat) : Fr := if codeF f n = 0 then frOf f else frNo
def datN (f : Nat → Int) (n : Nat) : Nat := if codeF f n = 0 then n - 24 else 0

theorem codeF_zero {f : Nat → Int} {n : Nat} (h : codeF f n = 0) : 24 ≤ n ∧ n ≤ 100 ∧ f 0 = 69 ∧ get16F f 6 = 0 ∧ get16F f 2 = n ∧ sumF f 20 = 65535 ∧ get16F f 10 ≠ 65535 := by
  unfold codeF at h
  split at h
  · simp at h
  · split at h
    · simp at h
    · split at h
      · simp at h
      · split at h
        · simp at h
        · rename_i a b c d
          refine ⟨by omega, by omega, ?_, ?_, ?_, ?_, ?_⟩
          · exact Classical.byContradiction fun k => b (.inl k)
          · exact Classical.byContradiction fun k => b (.inr k)
          · exact Classical.byContradiction fun k => c (.inl k)
          · exact Classical.byContradiction fun k => d (.inl k)
          · exact fun k => d (.inr k)
theorem codeF_short {f : Nat → Int} {n : Nat} (h : n < 24) : codeF f n = 1 := by unfold codeF; rw [if_pos h]
theorem datN_le (f : Nat → Int) (n : Nat) : datN f n ≤ 76 := by
  unfold datN
  split
  · rename_i h
    have := codeF_zero h
    omega
  · omega

theorem zn_of_fresh {w0 w : World} {d : Option Addr} {m : Nat} {g : Nat → Int} (h : Fresh w0.heap.size w d m g) : Zn w0.heap.size w.heap.size w d m g := by
  rcases h with h | ⟨B, rfl, hB, ho⟩
  · exact .inl h
  · exact .inr ⟨B, rfl, hB, ho.1, ho⟩

theorem iparse_all (a : Option Addr) (n cap : Nat) (f : Nat → Int) (w : World) (hr : Row .u8 w a n f) (hf : Byt n f) (hn : n ≤ 1048576) (hcap : n ≤ cap) :
    Calls Try.prog 8 #[.slice a n cap] w fun e w' => ∃ (d : Option Addr) (cd : Nat), e = .returned (.tuple #[(frR f n).val d (datN f n) cd, .int .i64 (codeF f n)]) ∧ Zn w.heap.size w'.heap.size w' d (datN f n) (fun i => f (24 + i)) ∧ Below w.heap.size w w' := by
  by_cases hc : codeF f n = 0
  · obtain ⟨h1, h2, h3, h4, h5, h6, h7⟩ := codeF_zero hc
    unfold frR datN
    rw [if_pos hc, if_pos hc, hc]
    refine (iparse_good a n cap f w hr hf hcap (by omega) (by omega) hc).mono ?_
    rintro e w' ⟨d, cd, rfl, hz, hb⟩
    exact ⟨d, cd, rfl, zn_of_fresh hz, hb⟩
  · unfold frR datN
    rw [if_neg hc, if_neg hc]
    refine (iparse_bad a n cap f w hr hf hn hcap hc).mono ?_
    rintro e w' ⟨rfl, hb⟩
    exact ⟨none, 0, rfl, .inl rfl, hb⟩

end Go.Proofs.Ytkhfcemjmnjkdaa
