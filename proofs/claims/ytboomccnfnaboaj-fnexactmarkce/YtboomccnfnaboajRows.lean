/-
  No cell of these rows narrows 'for every input' (looked for: loops, veiled, ifaces, maps, wideKeys, modest, calm, conditions, laid).
  DERIVED. THE GIVEN ROWS OF THIS SEAT. 6 by the template 'for every input the law returns true; each argument reads behind the call as it read before'; 0 by the template 'total and deterministic' (their statements: YtboomccnfnaboajTotals.lean).
  GIVEN WITH THE SEED: the statements are not yours to turn. If you find one false, say at which input.
  Laid BY PROGRAM, IN A SANDBOX (cutbox-rows.mjs): the forced cells as the released guide's own fill.sh prints them over the translation 54d1646c41acb687… (all of the seat's roots in one cut). By AI agents, Wed Nov 11 2026. No macro, syntax, notation, axiom, sorry.
-/
import Derived.Test.YtboomccnfnaboajChecked
import GoSem.Claim
import GoSem.ClaimJoined
import GoSem.ClaimMapViews
import Derived.JoinedTies
import Derived.KernelRfl
namespace Go.Proofs.Ytboomccnfnaboaj
/- THE CELL 'sum', in the pinned program and in every row, IS THE sha256 OF THE DUMP (.gsa) THAT YtboomccnfnaboajProg.lean LOADS. Nothing in Lean hashes anything: it is a label: what it is worth is what the hold of that sum in a sandbox is worth. -/
noncomputable def Try.pinned : Pinned := { name := "ytboomccnfnaboaj", sum := "54d1646c41acb687d97d996274de27f9084140c51d9b9964d0e914dee4786299", checked := Try.checked }
namespace Rows
def none {H : Type} : Left H := { results := [], args := [] }

/-- 'laws.FnExactEcnOf': WHATEVER THE INPUT: true; the input reads as it did. -/
def fnExactEcnOfSpec : ChangeSpec := { name := "fnExactEcnOf", fn := fun _ => fun
  | [d] => { results := [.lit (.bool true)], args := [d] }
  | _ => none }
def fnExactEcnOfRow : OpenClaim := { program := "ytboomccnfnaboaj", sum := "54d1646c41acb687d97d996274de27f9084140c51d9b9964d0e914dee4786299", func := "loop.example/g00453/laws.FnExactEcnOf", spec := "fnExactEcnOf", apart := false }
def FnExactEcnOfSaid : Prop := fnExactEcnOfRow.holds Try.pinned (OpenSpec.ofChange fnExactEcnOfSpec)

/-- ITS FALSE NEIGHBOUR: 'it returns false'. Refute it at one input. -/
def fnExactEcnOfWrong : ChangeSpec := { name := "fnExactEcnOf", fn := fun _ => fun
  | [d] => { results := [.lit (.bool false)], args := [d] }
  | _ => none }
def FnExactEcnOfWrongFalsely : Prop := fnExactEcnOfRow.holds Try.pinned (OpenSpec.ofChange fnExactEcnOfWrong)

/-- 'laws.FnExactMarkCe': WHATEVER THE INPUT: true; the input reads as it did. -/
def fnExactMarkCeSpec : ChangeSpec := { name := "fnExactMarkCe", fn := fun _ => fun
  | [d] => { results := [.lit (.bool true)], args := [d] }
  | _ => none }
def fnExactMarkCeRow : OpenClaim := { program := "ytboomccnfnaboaj", sum := "54d1646c41acb687d97d996274de27f9084140c51d9b9964d0e914dee4786299", func := "loop.example/g00453/laws.FnExactMarkCe", spec := "fnExactMarkCe", apart := false }
def FnExactMarkCeSaid : Prop := fnExactMarkCeRow.holds Try.pinned (OpenSpec.ofChange fnExactMarkCeSpec)

/-- ITS FALSE NEIGHBOUR: 'it returns false'. Refute it at one input. -/
def fnExactMarkCeWrong : ChangeSpec := { name := "fnExactMarkCe", fn := fun _ => fun
  | [d] => { results := [.lit (.bool false)], args := [d] }
  | _ => none }
def FnExactMarkCeWrongFalsely : Prop := fnExactMarkCeRow.holds Try.pinned (OpenSpec.ofChange fnExactMarkCeWrong)

/-- 'laws.FnExactTupleOf': WHATEVER THE INPUT: true; the input reads as it did. -/
def fnExactTupleOfSpec : ChangeSpec := { name := "fnExactTupleOf", fn := fun _ => fun
  | [d] => { results := [.lit (.bool true)], args := [d] }
  | _ => none }
def fnExactTupleOfRow : OpenClaim := { program := "ytboomccnfnaboaj", sum := "54d1646c41acb687d97d996274de27f9084140c51d9b9964d0e914dee4786299", func := "loop.example/g00453/laws.FnExactTupleOf", spec := "fnExactTupleOf", apart := false }
def FnExactTupleOfSaid : Prop := fnExactTupleOfRow.holds Try.pinned (OpenSpec.ofChange fnExactTupleOfSpec)

/-- ITS FALSE NEIGHBOUR: 'it returns false'. Refute it at one input. -/
def fnExactTupleOfWrong : ChangeSpec := { name := "fnExactTupleOf", fn := fun _ => fun
  | [d] => { results := [.lit (.bool false)], args := [d] }
  | _ => none }
def FnExactTupleOfWrongFalsely : Prop := fnExactTupleOfRow.holds Try.pinned (OpenSpec.ofChange fnExactTupleOfWrong)

/-- 'laws.FnExactFlowHash': WHATEVER THE INPUT: true; the input reads as it did. -/
def fnExactFlowHashSpec : ChangeSpec := { name := "fnExactFlowHash", fn := fun _ => fun
  | [d1, d2] => { results := [.lit (.bool true)], args := [d1, d2] }
  | _ => none }
def fnExactFlowHashRow : OpenClaim := { program := "ytboomccnfnaboaj", sum := "54d1646c41acb687d97d996274de27f9084140c51d9b9964d0e914dee4786299", func := "loop.example/g00453/laws.FnExactFlowHash", spec := "fnExactFlowHash", apart := false }
def FnExactFlowHashSaid : Prop := fnExactFlowHashRow.holds Try.pinned (OpenSpec.ofChange fnExactFlowHashSpec)

/-- ITS FALSE NEIGHBOUR: 'it returns false'. Refute it at one input. -/
def fnExactFlowHashWrong : ChangeSpec := { name := "fnExactFlowHash", fn := fun _ => fun
  | [d1, d2] => { results := [.lit (.bool false)], args := [d1, d2] }
  | _ => none }
def FnExactFlowHashWrongFalsely : Prop := fnExactFlowHashRow.holds Try.pinned (OpenSpec.ofChange fnExactFlowHashWrong)

/-- 'laws.FnExactPktOk': WHATEVER THE INPUT: true; the input reads as it did. -/
def fnExactPktOkSpec : ChangeSpec := { name := "fnExactPktOk", fn := fun _ => fun
  | [d] => { results := [.lit (.bool true)], args := [d] }
  | _ => none }
def fnExactPktOkRow : OpenClaim := { program := "ytboomccnfnaboaj", sum := "54d1646c41acb687d97d996274de27f9084140c51d9b9964d0e914dee4786299", func := "loop.example/g00453/laws.FnExactPktOk", spec := "fnExactPktOk", apart := false }
def FnExactPktOkSaid : Prop := fnExactPktOkRow.holds Try.pinned (OpenSpec.ofChange fnExactPktOkSpec)

/-- ITS FALSE NEIGHBOUR: 'it returns false'. Refute it at one input. -/
def fnExactPktOkWrong : ChangeSpec := { name := "fnExactPktOk", fn := fun _ => fun
  | [d] => { results := [.lit (.bool false)], args := [d] }
  | _ => none }
def FnExactPktOkWrongFalsely : Prop := fnExactPktOkRow.holds Try.pinned (OpenSpec.ofChange fnExactPktOkWrong)

/-- 'laws.FnExactFifoOk': WHATEVER THE INPUT: true; the input reads as it did. -/
def fnExactFifoOkSpec : ChangeSpec := { name := "fnExactFifoOk", fn := fun _ => fun
  | [d] => { results := [.lit (.bool true)], args := [d] }
  | _ => none }
def fnExactFifoOkRow : OpenClaim := { program := "ytboomccnfnaboaj", sum := "54d1646c41acb687d97d996274de27f9084140c51d9b9964d0e914dee4786299", func := "loop.example/g00453/laws.FnExactFifoOk", spec := "fnExactFifoOk", unfollowed := true, recurses := true, apart := false }
def FnExactFifoOkSaid : Prop := fnExactFifoOkRow.holds Try.pinned (OpenSpec.ofChange fnExactFifoOkSpec)

/-- ITS FALSE NEIGHBOUR: 'it returns false'. Refute it at one input. -/
def fnExactFifoOkWrong : ChangeSpec := { name := "fnExactFifoOk", fn := fun _ => fun
  | [d] => { results := [.lit (.bool false)], args := [d] }
  | _ => none }
def FnExactFifoOkWrongFalsely : Prop := fnExactFifoOkRow.holds Try.pinned (OpenSpec.ofChange fnExactFifoOkWrong)

/- THE SECOND FORM. 'bulk': how many values and letters a reading holds, each counted each time it is reached (what is shared counts as often as it is met; a slice's spare places count too). A statement '..UptoSaid' is the law's where the arguments, and the package variables that the reading takes, are together of bulk at most 1048576: NARROWER than '..Said'. Prove '..Said' where nothing that the law and all that it calls make is longer than what came in: it says more and counts as full. Else prove '..UptoSaid'. A law counts once. -/
mutual
def uptoBulk {H : Type} : DataW H → Nat
  | .lit (.string bytes) => bytes.length + 1
  | .lit _ => 1
  | .nil => 1
  | .ptr d => uptoBulk d + 1
  | .slice elems spare => uptoBulkAll elems + uptoBulkAll spare + 1
  | .agg parts => uptoBulkAll parts + 1
  | .iface _ d => uptoBulk d + 1
  | .map entries => uptoBulkEntries entries + 1
  | .held _ => 1
def uptoBulkAll {H : Type} : List (DataW H) → Nat
  | [] => 0
  | d :: r => uptoBulk d + uptoBulkAll r
def uptoBulkEntries {H : Type} : List (Lit × DataW H) → Nat
  | [] => 0
  | x :: r => uptoBulkEntry x + uptoBulkEntries r
def uptoBulkEntry {H : Type} : Lit × DataW H → Nat
  | (.string bytes, d) => bytes.length + uptoBulk d + 1
  | (_, d) => uptoBulk d + 1
 end
def uptoSmall : (H : Type) → List (DataW H) → Bool := fun _ ds => decide (uptoBulkAll ds ≤ 1048576)
def OpenSpec.upto (s : _root_.Go.ChangeSpec) : _root_.Go.OpenSpec := { _root_.Go.OpenSpec.ofChange s with cond := some uptoSmall }

/-- 'laws.FnExactEcnOf', WHERE WHAT IT READS IS OF BULK AT MOST 1048576: true; the input reads as it did. -/
def fnExactEcnOfUptoRow : OpenClaim := { program := "ytboomccnfnaboaj", sum := "54d1646c41acb687d97d996274de27f9084140c51d9b9964d0e914dee4786299", func := "loop.example/g00453/laws.FnExactEcnOf", spec := "fnExactEcnOf", apart := false, narrowed := true }
def FnExactEcnOfUptoSaid : Prop := fnExactEcnOfUptoRow.holds Try.pinned (OpenSpec.upto fnExactEcnOfSpec)

/-- 'laws.FnExactMarkCe', WHERE WHAT IT READS IS OF BULK AT MOST 1048576: true; the input reads as it did. -/
def fnExactMarkCeUptoRow : OpenClaim := { program := "ytboomccnfnaboaj", sum := "54d1646c41acb687d97d996274de27f9084140c51d9b9964d0e914dee4786299", func := "loop.example/g00453/laws.FnExactMarkCe", spec := "fnExactMarkCe", apart := false, narrowed := true }
def FnExactMarkCeUptoSaid : Prop := fnExactMarkCeUptoRow.holds Try.pinned (OpenSpec.upto fnExactMarkCeSpec)

/-- 'laws.FnExactTupleOf', WHERE WHAT IT READS IS OF BULK AT MOST 1048576: true; the input reads as it did. -/
def fnExactTupleOfUptoRow : OpenClaim := { program := "ytboomccnfnaboaj", sum := "54d1646c41acb687d97d996274de27f9084140c51d9b9964d0e914dee4786299", func := "loop.example/g00453/laws.FnExactTupleOf", spec := "fnExactTupleOf", apart := false, narrowed := true }
def FnExactTupleOfUptoSaid : Prop := fnExactTupleOfUptoRow.holds Try.pinned (OpenSpec.upto fnExactTupleOfSpec)

/-- 'laws.FnExactFlowHash', WHERE WHAT IT READS IS OF BULK AT MOST 1048576: true; the input reads as it did. -/
def fnExactFlowHashUptoRow : OpenClaim := { program := "ytboomccnfnaboaj", sum := "54d1646c41acb687d97d996274de27f9084140c51d9b9964d0e914dee4786299", func := "loop.example/g00453/laws.FnExactFlowHash", spec := "fnExactFlowHash", apart := false, narrowed := true }
def FnExactFlowHashUptoSaid : Prop := fnExactFlowHashUptoRow.holds Try.pinned (OpenSpec.upto fnExactFlowHashSpec)

/-- 'laws.FnExactPktOk', WHERE WHAT IT READS IS OF BULK AT MOST 1048576: true; the input reads as it did. -/
def fnExactPktOkUptoRow : OpenClaim := { program := "ytboomccnfnaboaj", sum := "54d1646c41acb687d97d996274de27f9084140c51d9b9964d0e914dee4786299", func := "loop.example/g00453/laws.FnExactPktOk", spec := "fnExactPktOk", apart := false, narrowed := true }
def FnExactPktOkUptoSaid : Prop := fnExactPktOkUptoRow.holds Try.pinned (OpenSpec.upto fnExactPktOkSpec)

/-- 'laws.FnExactFifoOk', WHERE WHAT IT READS IS OF BULK AT MOST 1048576: true; the input reads as it did. -/
def fnExactFifoOkUptoRow : OpenClaim := { program := "ytboomccnfnaboaj", sum := "54d1646c41acb687d97d996274de27f9084140c51d9b9964d0e914dee4786299", func := "loop.example/g00453/laws.FnExactFifoOk", spec := "fnExactFifoOk", unfollowed := true, recurses := true, apart := false, narrowed := true }
def FnExactFifoOkUptoSaid : Prop := fnExactFifoOkUptoRow.holds Try.pinned (OpenSpec.upto fnExactFifoOkSpec)

end Rows
end Go.Proofs.Ytboomccnfnaboaj
