/-
  No cell of these rows narrows 'for every input' (looked for: loops, veiled, ifaces, maps, wideKeys, modest, calm, conditions, laid).
  DERIVED. THE GIVEN ROWS OF THIS SEAT. 6 by the template 'for every input the law returns true; each argument reads behind the call as it read before'; 0 by the template 'total and deterministic' (their statements: YtcchnhjkifdemapTotals.lean).
  GIVEN WITH THE SEED: the statements are not yours to turn. If you find one false, say at which input.
  Laid BY PROGRAM, IN A SANDBOX (cutbox-rows.mjs): the forced cells as the released guide's own fill.sh prints them over the translation 34f7d5849d15aa60… (all of the seat's roots in one cut). By AI agents, Wed Nov 11 2026. No macro, syntax, notation, axiom, sorry.
-/
import Derived.Test.YtcchnhjkifdemapChecked
import GoSem.Claim
import GoSem.ClaimJoined
import GoSem.ClaimMapViews
import Derived.JoinedTies
import Derived.KernelRfl
namespace Go.Proofs.Ytcchnhjkifdemap
/- THE CELL 'sum', in the pinned program and in every row, IS THE sha256 OF THE DUMP (.gsa) THAT YtcchnhjkifdemapProg.lean LOADS. Nothing in Lean hashes anything: it is a label: what it is worth is what the hold of that sum in a sandbox is worth. -/
noncomputable def Try.pinned : Pinned := { name := "ytcchnhjkifdemap", sum := "34f7d5849d15aa60ffbe05591bbbc2f3d7aece74444b91b13c21a9dac2f72dae", checked := Try.checked }
namespace Rows
def none {H : Type} : Left H := { results := [], args := [] }

/-- 'laws.FnExactShapePush': WHATEVER THE INPUT: true; the input reads as it did. -/
def fnExactShapePushSpec : ChangeSpec := { name := "fnExactShapePush", fn := fun _ => fun
  | [d1, d2] => { results := [.lit (.bool true)], args := [d1, d2] }
  | _ => none }
def fnExactShapePushRow : OpenClaim := { program := "ytcchnhjkifdemap", sum := "34f7d5849d15aa60ffbe05591bbbc2f3d7aece74444b91b13c21a9dac2f72dae", func := "loop.example/g00453/laws.FnExactShapePush", spec := "fnExactShapePush", unfollowed := true, recurses := true, apart := false }
def FnExactShapePushSaid : Prop := fnExactShapePushRow.holds Try.pinned (OpenSpec.ofChange fnExactShapePushSpec)

/-- ITS FALSE NEIGHBOUR: 'it returns false'. Refute it at one input. -/
def fnExactShapePushWrong : ChangeSpec := { name := "fnExactShapePush", fn := fun _ => fun
  | [d1, d2] => { results := [.lit (.bool false)], args := [d1, d2] }
  | _ => none }
def FnExactShapePushWrongFalsely : Prop := fnExactShapePushRow.holds Try.pinned (OpenSpec.ofChange fnExactShapePushWrong)

/-- 'laws.FnExactShapePop': WHATEVER THE INPUT: true; the input reads as it did. -/
def fnExactShapePopSpec : ChangeSpec := { name := "fnExactShapePop", fn := fun _ => fun
  | [d1, d2] => { results := [.lit (.bool true)], args := [d1, d2] }
  | _ => none }
def fnExactShapePopRow : OpenClaim := { program := "ytcchnhjkifdemap", sum := "34f7d5849d15aa60ffbe05591bbbc2f3d7aece74444b91b13c21a9dac2f72dae", func := "loop.example/g00453/laws.FnExactShapePop", spec := "fnExactShapePop", unfollowed := true, recurses := true, named := ["math/bits.divideError", "math/bits.overflowError"], apart := false }
def FnExactShapePopSaid : Prop := fnExactShapePopRow.holds Try.pinned (OpenSpec.ofChange fnExactShapePopSpec)

/-- ITS FALSE NEIGHBOUR: 'it returns false'. Refute it at one input. -/
def fnExactShapePopWrong : ChangeSpec := { name := "fnExactShapePop", fn := fun _ => fun
  | [d1, d2] => { results := [.lit (.bool false)], args := [d1, d2] }
  | _ => none }
def FnExactShapePopWrongFalsely : Prop := fnExactShapePopRow.holds Try.pinned (OpenSpec.ofChange fnExactShapePopWrong)

/-- 'laws.FnExactReady': WHATEVER THE INPUT: true; the input reads as it did. -/
def fnExactReadySpec : ChangeSpec := { name := "fnExactReady", fn := fun _ => fun
  | [d] => { results := [.lit (.bool true)], args := [d] }
  | _ => none }
def fnExactReadyRow : OpenClaim := { program := "ytcchnhjkifdemap", sum := "34f7d5849d15aa60ffbe05591bbbc2f3d7aece74444b91b13c21a9dac2f72dae", func := "loop.example/g00453/laws.FnExactReady", spec := "fnExactReady", unfollowed := true, recurses := true, apart := false }
def FnExactReadySaid : Prop := fnExactReadyRow.holds Try.pinned (OpenSpec.ofChange fnExactReadySpec)

/-- ITS FALSE NEIGHBOUR: 'it returns false'. Refute it at one input. -/
def fnExactReadyWrong : ChangeSpec := { name := "fnExactReady", fn := fun _ => fun
  | [d] => { results := [.lit (.bool false)], args := [d] }
  | _ => none }
def FnExactReadyWrongFalsely : Prop := fnExactReadyRow.holds Try.pinned (OpenSpec.ofChange fnExactReadyWrong)

/-- 'laws.FnExactCost': WHATEVER THE INPUT: true; the input reads as it did. -/
def fnExactCostSpec : ChangeSpec := { name := "fnExactCost", fn := fun _ => fun
  | [d1, d2] => { results := [.lit (.bool true)], args := [d1, d2] }
  | _ => none }
def fnExactCostRow : OpenClaim := { program := "ytcchnhjkifdemap", sum := "34f7d5849d15aa60ffbe05591bbbc2f3d7aece74444b91b13c21a9dac2f72dae", func := "loop.example/g00453/laws.FnExactCost", spec := "fnExactCost", unfollowed := true, recurses := true, named := ["math/bits.divideError", "math/bits.overflowError"], apart := false }
def FnExactCostSaid : Prop := fnExactCostRow.holds Try.pinned (OpenSpec.ofChange fnExactCostSpec)

/-- ITS FALSE NEIGHBOUR: 'it returns false'. Refute it at one input. -/
def fnExactCostWrong : ChangeSpec := { name := "fnExactCost", fn := fun _ => fun
  | [d1, d2] => { results := [.lit (.bool false)], args := [d1, d2] }
  | _ => none }
def FnExactCostWrongFalsely : Prop := fnExactCostRow.holds Try.pinned (OpenSpec.ofChange fnExactCostWrong)

/-- 'laws.FnExactRenoOk': WHATEVER THE INPUT: true; the input reads as it did. -/
def fnExactRenoOkSpec : ChangeSpec := { name := "fnExactRenoOk", fn := fun _ => fun
  | [d] => { results := [.lit (.bool true)], args := [d] }
  | _ => none }
def fnExactRenoOkRow : OpenClaim := { program := "ytcchnhjkifdemap", sum := "34f7d5849d15aa60ffbe05591bbbc2f3d7aece74444b91b13c21a9dac2f72dae", func := "loop.example/g00453/laws.FnExactRenoOk", spec := "fnExactRenoOk", apart := false }
def FnExactRenoOkSaid : Prop := fnExactRenoOkRow.holds Try.pinned (OpenSpec.ofChange fnExactRenoOkSpec)

/-- ITS FALSE NEIGHBOUR: 'it returns false'. Refute it at one input. -/
def fnExactRenoOkWrong : ChangeSpec := { name := "fnExactRenoOk", fn := fun _ => fun
  | [d] => { results := [.lit (.bool false)], args := [d] }
  | _ => none }
def FnExactRenoOkWrongFalsely : Prop := fnExactRenoOkRow.holds Try.pinned (OpenSpec.ofChange fnExactRenoOkWrong)

/-- 'laws.FnExactRenoNew': WHATEVER THE INPUT: true; the input reads as it did. -/
def fnExactRenoNewSpec : ChangeSpec := { name := "fnExactRenoNew", fn := fun _ => fun
  | [d] => { results := [.lit (.bool true)], args := [d] }
  | _ => none }
def fnExactRenoNewRow : OpenClaim := { program := "ytcchnhjkifdemap", sum := "34f7d5849d15aa60ffbe05591bbbc2f3d7aece74444b91b13c21a9dac2f72dae", func := "loop.example/g00453/laws.FnExactRenoNew", spec := "fnExactRenoNew", apart := false }
def FnExactRenoNewSaid : Prop := fnExactRenoNewRow.holds Try.pinned (OpenSpec.ofChange fnExactRenoNewSpec)

/-- ITS FALSE NEIGHBOUR: 'it returns false'. Refute it at one input. -/
def fnExactRenoNewWrong : ChangeSpec := { name := "fnExactRenoNew", fn := fun _ => fun
  | [d] => { results := [.lit (.bool false)], args := [d] }
  | _ => none }
def FnExactRenoNewWrongFalsely : Prop := fnExactRenoNewRow.holds Try.pinned (OpenSpec.ofChange fnExactRenoNewWrong)

/- THE SECOND FORM. 'bulk': how many values and letters a reading holds, each counted each time it is reached (what is shared counts as often as it is met; a slice's spare places count too). A statement '..UptoSaid' is the law's where the arguments, and the package variables that the reading takes, are together of bulk at most 1048576: NARROWER than '..Said'. Prove '..Said' where nothing that the law and all that it calls make is longer than what came in: it says more and counts as full. Else prove '..UptoSaid'. A law counts once. -/
mutual
def uptoBulk {H : Type} : DataW H → Nat
  | .lit (.string bytes) => bytes.length + 1
  | .lit _ => 1
  | .nil => 1
  | .ptr d => uptoBulk d + 1
  | .slice elems spare => uptoBulkAll elems + uptoBulkAll spare + 1
  | .agg parts => uptoBulkAll parts + 1
  | .iface _ d => uptoBulk d + 1
  | .map entries => uptoBulkEntries entries + 1
  | .held _ => 1
def uptoBulkAll {H : Type} : List (DataW H) → Nat
  | [] => 0
  | d :: r => uptoBulk d + uptoBulkAll r
def uptoBulkEntries {H : Type} : List (Lit × DataW H) → Nat
  | [] => 0
  | x :: r => uptoBulkEntry x + uptoBulkEntries r
def uptoBulkEntry {H : Type} : Lit × DataW H → Nat
  | (.string bytes, d) => bytes.length + uptoBulk d + 1
  | (_, d) => uptoBulk d + 1
 end
def uptoSmall : (H : Type) → List (DataW H) → Bool := fun _ ds => decide (uptoBulkAll ds ≤ 1048576)
def OpenSpec.upto (s : _root_.Go.ChangeSpec) : _root_.Go.OpenSpec := { _root_.Go.OpenSpec.ofChange s with cond := some uptoSmall }

/-- 'laws.FnExactShapePush', WHERE WHAT IT READS IS OF BULK AT MOST 1048576: true; the input reads as it did. -/
def fnExactShapePushUptoRow : OpenClaim := { program := "ytcchnhjkifdemap", sum := "34f7d5849d15aa60ffbe05591bbbc2f3d7aece74444b91b13c21a9dac2f72dae", func := "loop.example/g00453/laws.FnExactShapePush", spec := "fnExactShapePush", unfollowed := true, recurses := true, apart := false, narrowed := true }
def FnExactShapePushUptoSaid : Prop := fnExactShapePushUptoRow.holds Try.pinned (OpenSpec.upto fnExactShapePushSpec)

/-- 'laws.FnExactShapePop', WHERE WHAT IT READS IS OF BULK AT MOST 1048576: true; the input reads as it did. -/
def fnExactShapePopUptoRow : OpenClaim := { program := "ytcchnhjkifdemap", sum := "34f7d5849d15aa60ffbe05591bbbc2f3d7aece74444b91b13c21a9dac2f72dae", func := "loop.example/g00453/laws.FnExactShapePop", spec := "fnExactShapePop", unfollowed := true, recurses := true, named := ["math/bits.divideError", "math/bits.overflowError"], apart := false, narrowed := true }
def FnExactShapePopUptoSaid : Prop := fnExactShapePopUptoRow.holds Try.pinned (OpenSpec.upto fnExactShapePopSpec)

/-- 'laws.FnExactReady', WHERE WHAT IT READS IS OF BULK AT MOST 1048576: true; the input reads as it did. -/
def fnExactReadyUptoRow : OpenClaim := { program := "ytcchnhjkifdemap", sum := "34f7d5849d15aa60ffbe05591bbbc2f3d7aece74444b91b13c21a9dac2f72dae", func := "loop.example/g00453/laws.FnExactReady", spec := "fnExactReady", unfollowed := true, recurses := true, apart := false, narrowed := true }
def FnExactReadyUptoSaid : Prop := fnExactReadyUptoRow.holds Try.pinned (OpenSpec.upto fnExactReadySpec)

/-- 'laws.FnExactCost', WHERE WHAT IT READS IS OF BULK AT MOST 1048576: true; the input reads as it did. -/
def fnExactCostUptoRow : OpenClaim := { program := "ytcchnhjkifdemap", sum := "34f7d5849d15aa60ffbe05591bbbc2f3d7aece74444b91b13c21a9dac2f72dae", func := "loop.example/g00453/laws.FnExactCost", spec := "fnExactCost", unfollowed := true, recurses := true, named := ["math/bits.divideError", "math/bits.overflowError"], apart := false, narrowed := true }
def FnExactCostUptoSaid : Prop := fnExactCostUptoRow.holds Try.pinned (OpenSpec.upto fnExactCostSpec)

/-- 'laws.FnExactRenoOk', WHERE WHAT IT READS IS OF BULK AT MOST 1048576: true; the input reads as it did. -/
def fnExactRenoOkUptoRow : OpenClaim := { program := "ytcchnhjkifdemap", sum := "34f7d5849d15aa60ffbe05591bbbc2f3d7aece74444b91b13c21a9dac2f72dae", func := "loop.example/g00453/laws.FnExactRenoOk", spec := "fnExactRenoOk", apart := false, narrowed := true }
def FnExactRenoOkUptoSaid : Prop := fnExactRenoOkUptoRow.holds Try.pinned (OpenSpec.upto fnExactRenoOkSpec)

/-- 'laws.FnExactRenoNew', WHERE WHAT IT READS IS OF BULK AT MOST 1048576: true; the input reads as it did. -/
def fnExactRenoNewUptoRow : OpenClaim := { program := "ytcchnhjkifdemap", sum := "34f7d5849d15aa60ffbe05591bbbc2f3d7aece74444b91b13c21a9dac2f72dae", func := "loop.example/g00453/laws.FnExactRenoNew", spec := "fnExactRenoNew", apart := false, narrowed := true }
def FnExactRenoNewUptoSaid : Prop := fnExactRenoNewUptoRow.holds Try.pinned (OpenSpec.upto fnExactRenoNewSpec)

end Rows
end Go.Proofs.Ytcchnhjkifdemap
