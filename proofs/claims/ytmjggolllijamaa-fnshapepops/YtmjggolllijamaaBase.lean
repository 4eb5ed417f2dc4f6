/-
  SMALL FACTS ON NUMBERS OF 64 BITS that the contracts lean on; no Go function in sight.
-/
import Derived.Test.YtmjggolllijamaaRows
import Derived.WalkKit
import Derived.ProofKit
import Derived.OpenShut
import Derived.Handy
import Derived.Outline
import Derived.Laws.Bits64b
namespace Go.Proofs.Ytmjggolllijamaa
open Go.RowKit
set_option linter.unusedVariables false

theorem bd {a : Int} (h : (Lit.int .i64 a).wf = true) : -9223372036854775808 ≤ a ∧ a ≤ 9223372036854775807 := bounds_i64 h
theorem ret_int {k : IntKind} {a b : Int} (h : a = b) : Ending.returned (.int k a) = .returned (.int k b) := by rw [h]
theorem ret_bool {a b : Bool} (h : a = b) : Ending.returned (.bool a) = .returned (.bool b) := by rw [h]

/-- Nothing that was there has turned; there may be new memory. -/
def Kept (w w' : World) : Prop := Below w.heap.size w w' ∧ Grown w w'
theorem Kept.refl (w : World) : Kept w w := ⟨Below.refl _ _, Grown.refl _⟩
theorem Kept.trans {a b c : World} (h : Kept a b) (k : Kept b c) : Kept a c :=
  ⟨h.1.trans (k.1.mono h.1.size), ⟨World.keptBut_trans h.2.1 k.2.1, fun x => (k.2.2.1 x).trans (h.2.2.1 x), Nat.le_trans h.2.2.2 k.2.2.2⟩⟩
theorem Kept.alloc (w : World) (c : Array Value) (t : TypeId) : Kept w (w.alloc (.cells c t)) := ⟨(Below.refl _ _).alloc (Nat.le_refl _) _, (Grown.refl _).alloc _ _⟩
theorem Kept.of_eq {a b : World} (h : b = a) : Kept a b := h ▸ Kept.refl a

/-- Of a number of 64 bits with a sign the last bits are the rest of a division. -/
theorem and_low (x : Int) (i : Nat) (hi : i ≤ 63) : bits .and .i64 x ((2 ^ i - 1 : Nat) : Int) = x % ((2 ^ i : Nat) : Int) := by
  have hp : (2 : Nat) ^ i ≤ 2 ^ 63 := Nat.pow_le_pow_right (by decide) hi
  have h0 : 0 < (2 : Nat) ^ i := Nat.two_pow_pos i
  show IntKind.i64.wrap ((BitVec.ofInt 64 x &&& BitVec.ofInt 64 ((2 ^ i - 1 : Nat) : Int)).toNat : Int) = _
  rw [BitVec.toNat_and, BitVec.toNat_ofInt, BitVec.ofInt_natCast, BitVec.toNat_ofNat, Nat.mod_eq_of_lt (a := 2 ^ i - 1) (by omega), Nat.and_two_pow_sub_one_eq_mod]
  have hm : (x % ((2 ^ 64 : Nat) : Int)).toNat % 2 ^ i < 2 ^ i := Nat.mod_lt _ h0
  have hx : (((x % ((2 ^ 64 : Nat) : Int)).toNat : Nat) : Int) = x % ((2 ^ 64 : Nat) : Int) := Int.toNat_of_nonneg (Int.emod_nonneg _ (by decide))
  rw [IntKind.wrap_i64]
  have e : (((x % ((2 ^ 64 : Nat) : Int)).toNat % 2 ^ i : Nat) : Int) = x % ((2 ^ i : Nat) : Int) := by
    rw [Int.natCast_emod, hx]
    exact Int.emod_emod_of_dvd x (Int.natCast_dvd_natCast.2 (Nat.pow_dvd_pow 2 (by omega)))
  rw [← e]
  omega
theorem and_32 (x : Int) : bits .and .i64 x 4294967295 = x % 4294967296 := and_low x 32 (by decide)
theorem and_63 (x : Int) : bits .and .i64 x 9223372036854775807 = x % 9223372036854775808 := and_low x 63 (by decide)
theorem and_1 (x : Int) : bits .and .i64 x 1 = x % 2 := and_low x 1 (by decide)

end Go.Proofs.Ytmjggolllijamaa
