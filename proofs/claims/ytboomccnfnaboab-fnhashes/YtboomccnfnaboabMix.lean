/-
  STIRRING THREE WORDS OF 32 BITS, ON BOTH SIDES.
-/
import Derived.Test.YtboomccnfnaboabFrOk
import Derived.Deep.RegionHeld3
import Derived.Deep.RegionWith
import Derived.Deep.Cut
namespace Go.Proofs.Ytboomccnfnaboab
open Go.RowKit
set_option linter.unusedVariables false

/-- x turned left by 4, 6 or 8. -/
def rot4F (x : Int) : Int := bits .or .u32 (x * 16 % 4294967296) (x / 268435456)
def rot6F (x : Int) : Int := bits .or .u32 (x * 64 % 4294967296) (x / 67108864)
def rot8F (x : Int) : Int := bits .or .u32 (x * 256 % 4294967296) (x / 16777216)
def rotF (x k : Int) : Int := if k = 4 then rot4F x else if k = 6 then rot6F x else rot8F x
def xrF (x y : Int) : Int := bits .xor .u32 x y
/-- One round. -/
def mA (a b c : Int) : Int := xrF ((a - c) % 4294967296) (rot4F c)
def mC (a b c : Int) : Int := (c + b) % 4294967296
def mB (a b c : Int) : Int := xrF ((b - mA a b c) % 4294967296) (rot6F (mA a b c))
def mA2 (a b c : Int) : Int := (mA a b c + mC a b c) % 4294967296
def mC2 (a b c : Int) : Int := xrF ((c + b - mB a b c) % 4294967296) (rot8F (mB a b c))
def mB2 (a b c : Int) : Int := (mB a b c + mA2 a b c) % 4294967296
def rnd (t : Int × Int × Int) : Int × Int × Int := (mA2 t.1 t.2.1 t.2.2, mB2 t.1 t.2.1 t.2.2, mC2 t.1 t.2.1 t.2.2)
def mixN (t : Int × Int × Int) : Nat → Int × Int × Int
  | 0 => t
  | k + 1 => rnd (mixN t k)
def mixF (a b c : Int) : Int := (mixN (a, b, c) 3).2.2

theorem bits_u32 (op : BinOp) (x y : Int) (h : op = .xor ∨ op = .or) : 0 ≤ bits op .u32 x y ∧ bits op .u32 x y ≤ 4294967295 := by
  rcases h with rfl | rfl
  · show 0 ≤ IntKind.u32.wrap _ ∧ IntKind.u32.wrap _ ≤ _
    rw [IntKind.wrap_u32]; omega
  · show 0 ≤ IntKind.u32.wrap _ ∧ IntKind.u32.wrap _ ≤ _
    rw [IntKind.wrap_u32]; omega
theorem xrF_bd (x y : Int) : 0 ≤ xrF x y ∧ xrF x y ≤ 4294967295 := bits_u32 _ _ _ (.inl rfl)
theorem mA_bd (a b c : Int) : 0 ≤ mA a b c ∧ mA a b c ≤ 4294967295 := xrF_bd _ _
theorem mB_bd (a b c : Int) : 0 ≤ mB a b c ∧ mB a b c ≤ 4294967295 := xrF_bd _ _
theorem mC2_bd (a b c : Int) : 0 ≤ mC2 a b c ∧ mC2 a b c ≤ 4294967295 := xrF_bd _ _
theorem mA2_bd (a b c : Int) : 0 ≤ mA2 a b c ∧ mA2 a b c ≤ 4294967295 := by unfold mA2; omega
theorem mB2_bd (a b c : Int) : 0 ≤ mB2 a b c ∧ mB2 a b c ≤ 4294967295 := by unfold mB2; omega
theorem mC_bd (a b c : Int) : 0 ≤ mC a b c ∧ mC a b c ≤ 4294967295 := by unfold mC; omega

theorem rot_any (x k : Int) (w : World) (h0 : 0 ≤ x) (h1 : x ≤ 4294967295) (hk : k = 4 ∨ k = 6 ∨ k = 8) :
    Calls Try.prog 81 #[.int .u32 x, .int .i64 k] w fun e w' => e = .returned (.int .u32 (rotF x k)) ∧ w' = w := by
  have h4 : bits .and .u64 4 31 = 4 := by decide
  have h6 : bits .and .u64 6 31 = 6 := by decide
  have h8 : bits .and .u64 8 31 = 8 := by decide
  rcases hk with rfl | rfl | rfl
  all_goals
    go_enter Try.func81, Try.ntmps81
    go_wp2
    go_ret
    exact ⟨rfl, rfl⟩

end Go.Proofs.Ytboomccnfnaboab
