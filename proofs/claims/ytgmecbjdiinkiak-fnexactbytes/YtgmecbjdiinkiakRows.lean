/-
  No cell of these rows narrows 'for every input' (looked for: loops, veiled, ifaces, maps, wideKeys, modest, calm, conditions, laid).
  DERIVED. THE GIVEN ROWS OF THIS SEAT. 6 by the template 'for every input the law returns true; each argument reads behind the call as it read before'; 0 by the template 'total and deterministic' (their statements: YtgmecbjdiinkiakTotals.lean).
  GIVEN WITH THE SEED: the statements are not yours to turn. If you find one false, say at which input.
  Laid BY PROGRAM, IN A SANDBOX (cutbox-rows.mjs): the forced cells as the released guide's own fill.sh prints them over the translation 85e50ccd327fcbb5… (all of the seat's roots in one cut). By AI agents, Wed Nov 11 2026. No macro, syntax, notation, axiom, sorry.
-/
import Derived.Test.YtgmecbjdiinkiakChecked
import GoSem.Claim
import GoSem.ClaimJoined
import GoSem.ClaimMapViews
import Derived.JoinedTies
import Derived.KernelRfl
namespace Go.Proofs.Ytgmecbjdiinkiak
/- THE CELL 'sum', in the pinned program and in every row, IS THE sha256 OF THE DUMP (.gsa) THAT YtgmecbjdiinkiakProg.lean LOADS. Nothing in Lean hashes anything: it is a label: what it is worth is what the hold of that sum in a sandbox is worth. -/
noncomputable def Try.pinned : Pinned := { name := "ytgmecbjdiinkiak", sum := "85e50ccd327fcbb5c9eb309ace22858469501181f2a271e4bfea10e89144bb7f", checked := Try.checked }
namespace Rows
def none {H : Type} : Left H := { results := [], args := [] }

/-- 'laws.FnExactFifoNew': WHATEVER THE INPUT: true; the input reads as it did. -/
def fnExactFifoNewSpec : ChangeSpec := { name := "fnExactFifoNew", fn := fun _ => fun
  | [d] => { results := [.lit (.bool true)], args := [d] }
  | _ => none }
def fnExactFifoNewRow : OpenClaim := { program := "ytgmecbjdiinkiak", sum := "85e50ccd327fcbb5c9eb309ace22858469501181f2a271e4bfea10e89144bb7f", func := "loop.example/g00453/laws.FnExactFifoNew", spec := "fnExactFifoNew", unfollowed := true, recurses := true, apart := false }
def FnExactFifoNewSaid : Prop := fnExactFifoNewRow.holds Try.pinned (OpenSpec.ofChange fnExactFifoNewSpec)

/-- ITS FALSE NEIGHBOUR: 'it returns false'. Refute it at one input. -/
def fnExactFifoNewWrong : ChangeSpec := { name := "fnExactFifoNew", fn := fun _ => fun
  | [d] => { results := [.lit (.bool false)], args := [d] }
  | _ => none }
def FnExactFifoNewWrongFalsely : Prop := fnExactFifoNewRow.holds Try.pinned (OpenSpec.ofChange fnExactFifoNewWrong)

/-- 'laws.FnExactPush': WHATEVER THE INPUT: true; the input reads as it did. -/
def fnExactPushSpec : ChangeSpec := { name := "fnExactPush", fn := fun _ => fun
  | [d1, d2] => { results := [.lit (.bool true)], args := [d1, d2] }
  | _ => none }
def fnExactPushRow : OpenClaim := { program := "ytgmecbjdiinkiak", sum := "85e50ccd327fcbb5c9eb309ace22858469501181f2a271e4bfea10e89144bb7f", func := "loop.example/g00453/laws.FnExactPush", spec := "fnExactPush", unfollowed := true, recurses := true, apart := false }
def FnExactPushSaid : Prop := fnExactPushRow.holds Try.pinned (OpenSpec.ofChange fnExactPushSpec)

/-- ITS FALSE NEIGHBOUR: 'it returns false'. Refute it at one input. -/
def fnExactPushWrong : ChangeSpec := { name := "fnExactPush", fn := fun _ => fun
  | [d1, d2] => { results := [.lit (.bool false)], args := [d1, d2] }
  | _ => none }
def FnExactPushWrongFalsely : Prop := fnExactPushRow.holds Try.pinned (OpenSpec.ofChange fnExactPushWrong)

/-- 'laws.FnExactPop': WHATEVER THE INPUT: true; the input reads as it did. -/
def fnExactPopSpec : ChangeSpec := { name := "fnExactPop", fn := fun _ => fun
  | [d] => { results := [.lit (.bool true)], args := [d] }
  | _ => none }
def fnExactPopRow : OpenClaim := { program := "ytgmecbjdiinkiak", sum := "85e50ccd327fcbb5c9eb309ace22858469501181f2a271e4bfea10e89144bb7f", func := "loop.example/g00453/laws.FnExactPop", spec := "fnExactPop", unfollowed := true, recurses := true, apart := false }
def FnExactPopSaid : Prop := fnExactPopRow.holds Try.pinned (OpenSpec.ofChange fnExactPopSpec)

/-- ITS FALSE NEIGHBOUR: 'it returns false'. Refute it at one input. -/
def fnExactPopWrong : ChangeSpec := { name := "fnExactPop", fn := fun _ => fun
  | [d] => { results := [.lit (.bool false)], args := [d] }
  | _ => none }
def FnExactPopWrongFalsely : Prop := fnExactPopRow.holds Try.pinned (OpenSpec.ofChange fnExactPopWrong)

/-- 'laws.FnExactBytes': WHATEVER THE INPUT: true; the input reads as it did. -/
def fnExactBytesSpec : ChangeSpec := { name := "fnExactBytes", fn := fun _ => fun
  | [d] => { results := [.lit (.bool true)], args := [d] }
  | _ => none }
def fnExactBytesRow : OpenClaim := { program := "ytgmecbjdiinkiak", sum := "85e50ccd327fcbb5c9eb309ace22858469501181f2a271e4bfea10e89144bb7f", func := "loop.example/g00453/laws.FnExactBytes", spec := "fnExactBytes", unfollowed := true, recurses := true, apart := false }
def FnExactBytesSaid : Prop := fnExactBytesRow.holds Try.pinned (OpenSpec.ofChange fnExactBytesSpec)

/-- ITS FALSE NEIGHBOUR: 'it returns false'. Refute it at one input. -/
def fnExactBytesWrong : ChangeSpec := { name := "fnExactBytes", fn := fun _ => fun
  | [d] => { results := [.lit (.bool false)], args := [d] }
  | _ => none }
def FnExactBytesWrongFalsely : Prop := fnExactBytesRow.holds Try.pinned (OpenSpec.ofChange fnExactBytesWrong)

/-- 'laws.FnExactWaits': WHATEVER THE INPUT: true; the input reads as it did. -/
def fnExactWaitsSpec : ChangeSpec := { name := "fnExactWaits", fn := fun _ => fun
  | [d1, d2] => { results := [.lit (.bool true)], args := [d1, d2] }
  | _ => none }
def fnExactWaitsRow : OpenClaim := { program := "ytgmecbjdiinkiak", sum := "85e50ccd327fcbb5c9eb309ace22858469501181f2a271e4bfea10e89144bb7f", func := "loop.example/g00453/laws.FnExactWaits", spec := "fnExactWaits", unfollowed := true, recurses := true, apart := false }
def FnExactWaitsSaid : Prop := fnExactWaitsRow.holds Try.pinned (OpenSpec.ofChange fnExactWaitsSpec)

/-- ITS FALSE NEIGHBOUR: 'it returns false'. Refute it at one input. -/
def fnExactWaitsWrong : ChangeSpec := { name := "fnExactWaits", fn := fun _ => fun
  | [d1, d2] => { results := [.lit (.bool false)], args := [d1, d2] }
  | _ => none }
def FnExactWaitsWrongFalsely : Prop := fnExactWaitsRow.holds Try.pinned (OpenSpec.ofChange fnExactWaitsWrong)

/-- 'laws.FnExactOfFlow': WHATEVER THE INPUT: true; the input reads as it did. -/
def fnExactOfFlowSpec : ChangeSpec := { name := "fnExactOfFlow", fn := fun _ => fun
  | [d1, d2] => { results := [.lit (.bool true)], args := [d1, d2] }
  | _ => none }
def fnExactOfFlowRow : OpenClaim := { program := "ytgmecbjdiinkiak", sum := "85e50ccd327fcbb5c9eb309ace22858469501181f2a271e4bfea10e89144bb7f", func := "loop.example/g00453/laws.FnExactOfFlow", spec := "fnExactOfFlow", unfollowed := true, recurses := true, apart := false }
def FnExactOfFlowSaid : Prop := fnExactOfFlowRow.holds Try.pinned (OpenSpec.ofChange fnExactOfFlowSpec)

/-- ITS FALSE NEIGHBOUR: 'it returns false'. Refute it at one input. -/
def fnExactOfFlowWrong : ChangeSpec := { name := "fnExactOfFlow", fn := fun _ => fun
  | [d1, d2] => { results := [.lit (.bool false)], args := [d1, d2] }
  | _ => none }
def FnExactOfFlowWrongFalsely : Prop := fnExactOfFlowRow.holds Try.pinned (OpenSpec.ofChange fnExactOfFlowWrong)

/- THE SECOND FORM. 'bulk': how many values and letters a reading holds, each counted each time it is reached (what is shared counts as often as it is met; a slice's spare places count too). A statement '..UptoSaid' is the law's where the arguments, and the package variables that the reading takes, are together of bulk at most 1048576: NARROWER than '..Said'. Prove '..Said' where nothing that the law and all that it calls make is longer than what came in: it says more and counts as full. Else prove '..UptoSaid'. A law counts once. -/
mutual
def uptoBulk {H : Type} : DataW H → Nat
  | .lit (.string bytes) => bytes.length + 1
  | .lit _ => 1
  | .nil => 1
  | .ptr d => uptoBulk d + 1
  | .slice elems spare => uptoBulkAll elems + uptoBulkAll spare + 1
  | .agg parts => uptoBulkAll parts + 1
  | .iface _ d => uptoBulk d + 1
  | .map entries => uptoBulkEntries entries + 1
  | .held _ => 1
def uptoBulkAll {H : Type} : List (DataW H) → Nat
  | [] => 0
  | d :: r => uptoBulk d + uptoBulkAll r
def uptoBulkEntries {H : Type} : List (Lit × DataW H) → Nat
  | [] => 0
  | x :: r => uptoBulkEntry x + uptoBulkEntries r
def uptoBulkEntry {H : Type} : Lit × DataW H → Nat
  | (.string bytes, d) => bytes.length + uptoBulk d + 1
  | (_, d) => uptoBulk d + 1
 end
def uptoSmall : (H : Type) → List (DataW H) → Bool := fun _ ds => decide (uptoBulkAll ds ≤ 1048576)
def OpenSpec.upto (s : _root_.Go.ChangeSpec) : _root_.Go.OpenSpec := { _root_.Go.OpenSpec.ofChange s with cond := some uptoSmall }

/-- 'laws.FnExactFifoNew', WHERE WHAT IT READS IS OF BULK AT MOST 1048576: true; the input reads as it did. -/
def fnExactFifoNewUptoRow : OpenClaim := { program := "ytgmecbjdiinkiak", sum := "85e50ccd327fcbb5c9eb309ace22858469501181f2a271e4bfea10e89144bb7f", func := "loop.example/g00453/laws.FnExactFifoNew", spec := "fnExactFifoNew", unfollowed := true, recurses := true, apart := false, narrowed := true }
def FnExactFifoNewUptoSaid : Prop := fnExactFifoNewUptoRow.holds Try.pinned (OpenSpec.upto fnExactFifoNewSpec)

/-- 'laws.FnExactPush', WHERE WHAT IT READS IS OF BULK AT MOST 1048576: true; the input reads as it did. -/
def fnExactPushUptoRow : OpenClaim := { program := "ytgmecbjdiinkiak", sum := "85e50ccd327fcbb5c9eb309ace22858469501181f2a271e4bfea10e89144bb7f", func := "loop.example/g00453/laws.FnExactPush", spec := "fnExactPush", unfollowed := true, recurses := true, apart := false, narrowed := true }
def FnExactPushUptoSaid : Prop := fnExactPushUptoRow.holds Try.pinned (OpenSpec.upto fnExactPushSpec)

/-- 'laws.FnExactPop', WHERE WHAT IT READS IS OF BULK AT MOST 1048576: true; the input reads as it did. -/
def fnExactPopUptoRow : OpenClaim := { program := "ytgmecbjdiinkiak", sum := "85e50ccd327fcbb5c9eb309ace22858469501181f2a271e4bfea10e89144bb7f", func := "loop.example/g00453/laws.FnExactPop", spec := "fnExactPop", unfollowed := true, recurses := true, apart := false, narrowed := true }
def FnExactPopUptoSaid : Prop := fnExactPopUptoRow.holds Try.pinned (OpenSpec.upto fnExactPopSpec)

/-- 'laws.FnExactBytes', WHERE WHAT IT READS IS OF BULK AT MOST 1048576: true; the input reads as it did. -/
def fnExactBytesUptoRow : OpenClaim := { program := "ytgmecbjdiinkiak", sum := "85e50ccd327fcbb5c9eb309ace22858469501181f2a271e4bfea10e89144bb7f", func := "loop.example/g00453/laws.FnExactBytes", spec := "fnExactBytes", unfollowed := true, recurses := true, apart := false, narrowed := true }
def FnExactBytesUptoSaid : Prop := fnExactBytesUptoRow.holds Try.pinned (OpenSpec.upto fnExactBytesSpec)

/-- 'laws.FnExactWaits', WHERE WHAT IT READS IS OF BULK AT MOST 1048576: true; the input reads as it did. -/
def fnExactWaitsUptoRow : OpenClaim := { program := "ytgmecbjdiinkiak", sum := "85e50ccd327fcbb5c9eb309ace22858469501181f2a271e4bfea10e89144bb7f", func := "loop.example/g00453/laws.FnExactWaits", spec := "fnExactWaits", unfollowed := true, recurses := true, apart := false, narrowed := true }
def FnExactWaitsUptoSaid : Prop := fnExactWaitsUptoRow.holds Try.pinned (OpenSpec.upto fnExactWaitsSpec)

/-- 'laws.FnExactOfFlow', WHERE WHAT IT READS IS OF BULK AT MOST 1048576: true; the input reads as it did. -/
def fnExactOfFlowUptoRow : OpenClaim := { program := "ytgmecbjdiinkiak", sum := "85e50ccd327fcbb5c9eb309ace22858469501181f2a271e4bfea10e89144bb7f", func := "loop.example/g00453/laws.FnExactOfFlow", spec := "fnExactOfFlow", unfollowed := true, recurses := true, apart := false, narrowed := true }
def FnExactOfFlowUptoSaid : Prop := fnExactOfFlowUptoRow.holds Try.pinned (OpenSpec.upto fnExactOfFlowSpec)

end Rows
end Go.Proofs.Ytgmecbjdiinkiak
