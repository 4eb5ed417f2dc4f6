/-
  PACKETS: a packet's six numbers; which packets are well: PktOk OF BOTH SIDES; the laws' toPkt and eqPkt.
-/
import Derived.Test.YtfghnfanimpjjaaDoorBase
namespace Go.Proofs.YtfghnfanimpjjaaDoor
open Go.RowKit
set_option linter.unusedVariables false

/-- A packet's numbers. -/
structure Pk where
  id : Int
  flow : Int
  host : Int
  size : Int
  tm : Int
  ecn : Int
instance : Inhabited Pk := ⟨⟨0, 0, 0, 0, 0, 0⟩⟩
@[reducible] def Pk.val (p : Pk) : Value := .agg #[.int .i64 p.id, .int .i64 p.flow, .int .i64 p.host, .int .i64 p.size, .int .i64 p.tm, .int .i64 p.ecn]
@[reducible] def pkCells (p : Pk) : Array Value := #[.int .i64 p.id, .int .i64 p.flow, .int .i64 p.host, .int .i64 p.size, .int .i64 p.tm, .int .i64 p.ecn]
/-- The numbers lie in an int. -/
def Pk.In (p : Pk) : Prop := (-9223372036854775808 ≤ p.id ∧ p.id ≤ 9223372036854775807) ∧ (-9223372036854775808 ≤ p.flow ∧ p.flow ≤ 9223372036854775807) ∧ (-9223372036854775808 ≤ p.host ∧ p.host ≤ 9223372036854775807) ∧ (-9223372036854775808 ≤ p.size ∧ p.size ≤ 9223372036854775807) ∧ (-9223372036854775808 ≤ p.tm ∧ p.tm ≤ 9223372036854775807) ∧ (-9223372036854775808 ≤ p.ecn ∧ p.ecn ≤ 9223372036854775807)

/-- v lies in l .. h. -/
def inB (v l h : Int) : Bool := decide (l ≤ v ∧ v ≤ h)
/-- Is it a packet? -/
def Pk.good (p : Pk) : Bool := inB p.id 0 1000000000000 && (inB p.tm 0 1000000000000 && (inB p.flow 0 15 && (inB p.host 0 3 && (inB p.size 1 2000 && inB p.ecn 0 3))))

theorem within_any (v l h : Int) (w : World) :
    Calls Tryd.prog 16 #[.int .i64 v, .int .i64 l, .int .i64 h] w fun e w' => e = .returned (.bool (inB v l h)) ∧ w' = w := by
  by_cases hn : l ≤ v
  · go_enter Tryd.func16, Tryd.ntmps16
    go_wp2
    go_ret
    exact ⟨ret_bool (by rw [Bool.eq_iff_iff]; simp [inB]; omega), rfl⟩
  · have HE : Hid (false = inB v l h) := by show _ = _; unfold inB; simp; omega
    have hn' : decide (l ≤ v) = false := by simp; omega
    go_enter Tryd.func16, Tryd.ntmps16
    go_wp2
    go_ret
    exact ⟨ret_bool HE.out, rfl⟩

end Go.Proofs.YtfghnfanimpjjaaDoor
