/-
  No cell of these rows narrows 'for every input' (looked for: loops, veiled, ifaces, maps, wideKeys, modest, calm, conditions, laid).
  DERIVED. THE GIVEN ROWS OF THIS SEAT. 6 by the template 'for every input the law returns true; each argument reads behind the call as it read before'; 0 by the template 'total and deterministic' (their statements: YtmhdjccbkenhmaoTotals.lean).
  GIVEN WITH THE SEED: the statements are not yours to turn. If you find one false, say at which input.
  Laid BY PROGRAM, IN A SANDBOX (cutbox-rows.mjs): the forced cells as the released guide's own fill.sh prints them over the translation 777ee13acb7fe9ce… (all of the seat's roots in one cut). By AI agents, Wed Nov 11 2026. No macro, syntax, notation, axiom, sorry.
-/
import Derived.Test.YtmhdjccbkenhmaoChecked
import GoSem.Claim
import GoSem.ClaimJoined
import GoSem.ClaimMapViews
import Derived.JoinedTies
import Derived.KernelRfl
namespace Go.Proofs.Ytmhdjccbkenhmao
/- THE CELL 'sum', in the pinned program and in every row, IS THE sha256 OF THE DUMP (.gsa) THAT YtmhdjccbkenhmaoProg.lean LOADS. Nothing in Lean hashes anything: it is a label: what it is worth is what the hold of that sum in a sandbox is worth. -/
noncomputable def Try.pinned : Pinned := { name := "ytmhdjccbkenhmao", sum := "777ee13acb7fe9ce74f3fb5d506954ea3437ff77acb1ee970370258576e1ca72", checked := Try.checked }
namespace Rows
def none {H : Type} : Left H := { results := [], args := [] }

/-- 'laws.FnExactFairPush': WHATEVER THE INPUT: true; the input reads as it did. -/
def fnExactFairPushSpec : ChangeSpec := { name := "fnExactFairPush", fn := fun _ => fun
  | [d1, d2] => { results := [.lit (.bool true)], args := [d1, d2] }
  | _ => none }
def fnExactFairPushRow : OpenClaim := { program := "ytmhdjccbkenhmao", sum := "777ee13acb7fe9ce74f3fb5d506954ea3437ff77acb1ee970370258576e1ca72", func := "loop.example/g00453/laws.FnExactFairPush", spec := "fnExactFairPush", unfollowed := true, recurses := true, apart := false }
def FnExactFairPushSaid : Prop := fnExactFairPushRow.holds Try.pinned (OpenSpec.ofChange fnExactFairPushSpec)

/-- ITS FALSE NEIGHBOUR: 'it returns false'. Refute it at one input. -/
def fnExactFairPushWrong : ChangeSpec := { name := "fnExactFairPush", fn := fun _ => fun
  | [d1, d2] => { results := [.lit (.bool false)], args := [d1, d2] }
  | _ => none }
def FnExactFairPushWrongFalsely : Prop := fnExactFairPushRow.holds Try.pinned (OpenSpec.ofChange fnExactFairPushWrong)

/-- 'laws.FnExactFairPop': WHATEVER THE INPUT: true; the input reads as it did. -/
def fnExactFairPopSpec : ChangeSpec := { name := "fnExactFairPop", fn := fun _ => fun
  | [d1, d2] => { results := [.lit (.bool true)], args := [d1, d2] }
  | _ => none }
def fnExactFairPopRow : OpenClaim := { program := "ytmhdjccbkenhmao", sum := "777ee13acb7fe9ce74f3fb5d506954ea3437ff77acb1ee970370258576e1ca72", func := "loop.example/g00453/laws.FnExactFairPop", spec := "fnExactFairPop", unfollowed := true, recurses := true, apart := false }
def FnExactFairPopSaid : Prop := fnExactFairPopRow.holds Try.pinned (OpenSpec.ofChange fnExactFairPopSpec)

/-- ITS FALSE NEIGHBOUR: 'it returns false'. Refute it at one input. -/
def fnExactFairPopWrong : ChangeSpec := { name := "fnExactFairPop", fn := fun _ => fun
  | [d1, d2] => { results := [.lit (.bool false)], args := [d1, d2] }
  | _ => none }
def FnExactFairPopWrongFalsely : Prop := fnExactFairPopRow.holds Try.pinned (OpenSpec.ofChange fnExactFairPopWrong)

/-- 'laws.FnExactFairCount': WHATEVER THE INPUT: true; the input reads as it did. -/
def fnExactFairCountSpec : ChangeSpec := { name := "fnExactFairCount", fn := fun _ => fun
  | [d] => { results := [.lit (.bool true)], args := [d] }
  | _ => none }
def fnExactFairCountRow : OpenClaim := { program := "ytmhdjccbkenhmao", sum := "777ee13acb7fe9ce74f3fb5d506954ea3437ff77acb1ee970370258576e1ca72", func := "loop.example/g00453/laws.FnExactFairCount", spec := "fnExactFairCount", unfollowed := true, recurses := true, apart := false }
def FnExactFairCountSaid : Prop := fnExactFairCountRow.holds Try.pinned (OpenSpec.ofChange fnExactFairCountSpec)

/-- ITS FALSE NEIGHBOUR: 'it returns false'. Refute it at one input. -/
def fnExactFairCountWrong : ChangeSpec := { name := "fnExactFairCount", fn := fun _ => fun
  | [d] => { results := [.lit (.bool false)], args := [d] }
  | _ => none }
def FnExactFairCountWrongFalsely : Prop := fnExactFairCountRow.holds Try.pinned (OpenSpec.ofChange fnExactFairCountWrong)

/-- 'laws.FnExactFattest': WHATEVER THE INPUT: true; the input reads as it did. -/
def fnExactFattestSpec : ChangeSpec := { name := "fnExactFattest", fn := fun _ => fun
  | [d] => { results := [.lit (.bool true)], args := [d] }
  | _ => none }
def fnExactFattestRow : OpenClaim := { program := "ytmhdjccbkenhmao", sum := "777ee13acb7fe9ce74f3fb5d506954ea3437ff77acb1ee970370258576e1ca72", func := "loop.example/g00453/laws.FnExactFattest", spec := "fnExactFattest", unfollowed := true, recurses := true, apart := false }
def FnExactFattestSaid : Prop := fnExactFattestRow.holds Try.pinned (OpenSpec.ofChange fnExactFattestSpec)

/-- ITS FALSE NEIGHBOUR: 'it returns false'. Refute it at one input. -/
def fnExactFattestWrong : ChangeSpec := { name := "fnExactFattest", fn := fun _ => fun
  | [d] => { results := [.lit (.bool false)], args := [d] }
  | _ => none }
def FnExactFattestWrongFalsely : Prop := fnExactFattestRow.holds Try.pinned (OpenSpec.ofChange fnExactFattestWrong)

/-- 'laws.FnExactShapeOk': WHATEVER THE INPUT: true; the input reads as it did. -/
def fnExactShapeOkSpec : ChangeSpec := { name := "fnExactShapeOk", fn := fun _ => fun
  | [d] => { results := [.lit (.bool true)], args := [d] }
  | _ => none }
def fnExactShapeOkRow : OpenClaim := { program := "ytmhdjccbkenhmao", sum := "777ee13acb7fe9ce74f3fb5d506954ea3437ff77acb1ee970370258576e1ca72", func := "loop.example/g00453/laws.FnExactShapeOk", spec := "fnExactShapeOk", unfollowed := true, recurses := true, apart := false }
def FnExactShapeOkSaid : Prop := fnExactShapeOkRow.holds Try.pinned (OpenSpec.ofChange fnExactShapeOkSpec)

/-- ITS FALSE NEIGHBOUR: 'it returns false'. Refute it at one input. -/
def fnExactShapeOkWrong : ChangeSpec := { name := "fnExactShapeOk", fn := fun _ => fun
  | [d] => { results := [.lit (.bool false)], args := [d] }
  | _ => none }
def FnExactShapeOkWrongFalsely : Prop := fnExactShapeOkRow.holds Try.pinned (OpenSpec.ofChange fnExactShapeOkWrong)

/-- 'laws.FnExactShapeNew': WHATEVER THE INPUT: true; the input reads as it did. -/
def fnExactShapeNewSpec : ChangeSpec := { name := "fnExactShapeNew", fn := fun _ => fun
  | [d1, d2, d3, d4] => { results := [.lit (.bool true)], args := [d1, d2, d3, d4] }
  | _ => none }
def fnExactShapeNewRow : OpenClaim := { program := "ytmhdjccbkenhmao", sum := "777ee13acb7fe9ce74f3fb5d506954ea3437ff77acb1ee970370258576e1ca72", func := "loop.example/g00453/laws.FnExactShapeNew", spec := "fnExactShapeNew", unfollowed := true, recurses := true, apart := false }
def FnExactShapeNewSaid : Prop := fnExactShapeNewRow.holds Try.pinned (OpenSpec.ofChange fnExactShapeNewSpec)

/-- ITS FALSE NEIGHBOUR: 'it returns false'. Refute it at one input. -/
def fnExactShapeNewWrong : ChangeSpec := { name := "fnExactShapeNew", fn := fun _ => fun
  | [d1, d2, d3, d4] => { results := [.lit (.bool false)], args := [d1, d2, d3, d4] }
  | _ => none }
def FnExactShapeNewWrongFalsely : Prop := fnExactShapeNewRow.holds Try.pinned (OpenSpec.ofChange fnExactShapeNewWrong)

/- THE SECOND FORM. 'bulk': how many values and letters a reading holds, each counted each time it is reached (what is shared counts as often as it is met; a slice's spare places count too). A statement '..UptoSaid' is the law's where the arguments, and the package variables that the reading takes, are together of bulk at most 1048576: NARROWER than '..Said'. Prove '..Said' where nothing that the law and all that it calls make is longer than what came in: it says more and counts as full. Else prove '..UptoSaid'. A law counts once. -/
mutual
def uptoBulk {H : Type} : DataW H → Nat
  | .lit (.string bytes) => bytes.length + 1
  | .lit _ => 1
  | .nil => 1
  | .ptr d => uptoBulk d + 1
  | .slice elems spare => uptoBulkAll elems + uptoBulkAll spare + 1
  | .agg parts => uptoBulkAll parts + 1
  | .iface _ d => uptoBulk d + 1
  | .map entries => uptoBulkEntries entries + 1
  | .held _ => 1
def uptoBulkAll {H : Type} : List (DataW H) → Nat
  | [] => 0
  | d :: r => uptoBulk d + uptoBulkAll r
def uptoBulkEntries {H : Type} : List (Lit × DataW H) → Nat
  | [] => 0
  | x :: r => uptoBulkEntry x + uptoBulkEntries r
def uptoBulkEntry {H : Type} : Lit × DataW H → Nat
  | (.string bytes, d) => bytes.length + uptoBulk d + 1
  | (_, d) => uptoBulk d + 1
 end
def uptoSmall : (H : Type) → List (DataW H) → Bool := fun _ ds => decide (uptoBulkAll ds ≤ 1048576)
def OpenSpec.upto (s : _root_.Go.ChangeSpec) : _root_.Go.OpenSpec := { _root_.Go.OpenSpec.ofChange s with cond := some uptoSmall }

/-- 'laws.FnExactFairPush', WHERE WHAT IT READS IS OF BULK AT MOST 1048576: true; the input reads as it did. -/
def fnExactFairPushUptoRow : OpenClaim := { program := "ytmhdjccbkenhmao", sum := "777ee13acb7fe9ce74f3fb5d506954ea3437ff77acb1ee970370258576e1ca72", func := "loop.example/g00453/laws.FnExactFairPush", spec := "fnExactFairPush", unfollowed := true, recurses := true, apart := false, narrowed := true }
def FnExactFairPushUptoSaid : Prop := fnExactFairPushUptoRow.holds Try.pinned (OpenSpec.upto fnExactFairPushSpec)

/-- 'laws.FnExactFairPop', WHERE WHAT IT READS IS OF BULK AT MOST 1048576: true; the input reads as it did. -/
def fnExactFairPopUptoRow : OpenClaim := { program := "ytmhdjccbkenhmao", sum := "777ee13acb7fe9ce74f3fb5d506954ea3437ff77acb1ee970370258576e1ca72", func := "loop.example/g00453/laws.FnExactFairPop", spec := "fnExactFairPop", unfollowed := true, recurses := true, apart := false, narrowed := true }
def FnExactFairPopUptoSaid : Prop := fnExactFairPopUptoRow.holds Try.pinned (OpenSpec.upto fnExactFairPopSpec)

/-- 'laws.FnExactFairCount', WHERE WHAT IT READS IS OF BULK AT MOST 1048576: true; the input reads as it did. -/
def fnExactFairCountUptoRow : OpenClaim := { program := "ytmhdjccbkenhmao", sum := "777ee13acb7fe9ce74f3fb5d506954ea3437ff77acb1ee970370258576e1ca72", func := "loop.example/g00453/laws.FnExactFairCount", spec := "fnExactFairCount", unfollowed := true, recurses := true, apart := false, narrowed := true }
def FnExactFairCountUptoSaid : Prop := fnExactFairCountUptoRow.holds Try.pinned (OpenSpec.upto fnExactFairCountSpec)

/-- 'laws.FnExactFattest', WHERE WHAT IT READS IS OF BULK AT MOST 1048576: true; the input reads as it did. -/
def fnExactFattestUptoRow : OpenClaim := { program := "ytmhdjccbkenhmao", sum := "777ee13acb7fe9ce74f3fb5d506954ea3437ff77acb1ee970370258576e1ca72", func := "loop.example/g00453/laws.FnExactFattest", spec := "fnExactFattest", unfollowed := true, recurses := true, apart := false, narrowed := true }
def FnExactFattestUptoSaid : Prop := fnExactFattestUptoRow.holds Try.pinned (OpenSpec.upto fnExactFattestSpec)

/-- 'laws.FnExactShapeOk', WHERE WHAT IT READS IS OF BULK AT MOST 1048576: true; the input reads as it did. -/
def fnExactShapeOkUptoRow : OpenClaim := { program := "ytmhdjccbkenhmao", sum := "777ee13acb7fe9ce74f3fb5d506954ea3437ff77acb1ee970370258576e1ca72", func := "loop.example/g00453/laws.FnExactShapeOk", spec := "fnExactShapeOk", unfollowed := true, recurses := true, apart := false, narrowed := true }
def FnExactShapeOkUptoSaid : Prop := fnExactShapeOkUptoRow.holds Try.pinned (OpenSpec.upto fnExactShapeOkSpec)

/-- 'laws.FnExactShapeNew', WHERE WHAT IT READS IS OF BULK AT MOST 1048576: true; the input reads as it did. -/
def fnExactShapeNewUptoRow : OpenClaim := { program := "ytmhdjccbkenhmao", sum := "777ee13acb7fe9ce74f3fb5d506954ea3437ff77acb1ee970370258576e1ca72", func := "loop.example/g00453/laws.FnExactShapeNew", spec := "fnExactShapeNew", unfollowed := true, recurses := true, apart := false, narrowed := true }
def FnExactShapeNewUptoSaid : Prop := fnExactShapeNewUptoRow.holds Try.pinned (OpenSpec.upto fnExactShapeNewSpec)

end Rows
end Go.Proofs.Ytmhdjccbkenhmao
