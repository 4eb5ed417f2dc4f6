/-
  No cell of these rows narrows 'for every input' (looked for: loops, veiled, ifaces, maps, wideKeys, modest, calm, conditions, laid).
  DERIVED. THE GIVEN ROWS OF THIS SEAT. 6 by the template 'for every input the law returns true; each argument reads behind the call as it read before'; 0 by the template 'total and deterministic' (their statements: YtjojodgjddlkhabTotals.lean).
  GIVEN WITH THE SEED: the statements are not yours to turn. If you find one false, say at which input.
  Laid BY PROGRAM, IN A SANDBOX (cutbox-rows.mjs): the forced cells as the released guide's own fill.sh prints them over the translation 6d24ea09af7929e1… (all of the seat's roots in one cut). By AI agents, Wed Nov 11 2026. No macro, syntax, notation, axiom, sorry.
-/
import Derived.Test.YtjojodgjddlkhabChecked
import GoSem.Claim
import GoSem.ClaimJoined
import GoSem.ClaimMapViews
import Derived.JoinedTies
import Derived.KernelRfl
namespace Go.Proofs.Ytjojodgjddlkhab
/- THE CELL 'sum', in the pinned program and in every row, IS THE sha256 OF THE DUMP (.gsa) THAT YtjojodgjddlkhabProg.lean LOADS. Nothing in Lean hashes anything: it is a label: what it is worth is what the hold of that sum in a sandbox is worth. -/
noncomputable def Try.pinned : Pinned := { name := "ytjojodgjddlkhab", sum := "6d24ea09af7929e1b393142335807d8856a0b5e790dd0e256ce7843441331213", checked := Try.checked }
namespace Rows
def none {H : Type} : Left H := { results := [], args := [] }

/-- 'laws.FnMarks': WHATEVER THE INPUT: true; the input reads as it did. -/
def fnMarksSpec : ChangeSpec := { name := "fnMarks", fn := fun _ => fun
  | [d] => { results := [.lit (.bool true)], args := [d] }
  | _ => none }
def fnMarksRow : OpenClaim := { program := "ytjojodgjddlkhab", sum := "6d24ea09af7929e1b393142335807d8856a0b5e790dd0e256ce7843441331213", func := "loop.example/g00453/laws.FnMarks", spec := "fnMarks", apart := false }
def FnMarksSaid : Prop := fnMarksRow.holds Try.pinned (OpenSpec.ofChange fnMarksSpec)

/-- ITS FALSE NEIGHBOUR: 'it returns false'. Refute it at one input. -/
def fnMarksWrong : ChangeSpec := { name := "fnMarks", fn := fun _ => fun
  | [d] => { results := [.lit (.bool false)], args := [d] }
  | _ => none }
def FnMarksWrongFalsely : Prop := fnMarksRow.holds Try.pinned (OpenSpec.ofChange fnMarksWrong)

/-- 'laws.FnHashes': WHATEVER THE INPUT: true; the input reads as it did. -/
def fnHashesSpec : ChangeSpec := { name := "fnHashes", fn := fun _ => fun
  | [d] => { results := [.lit (.bool true)], args := [d] }
  | _ => none }
def fnHashesRow : OpenClaim := { program := "ytjojodgjddlkhab", sum := "6d24ea09af7929e1b393142335807d8856a0b5e790dd0e256ce7843441331213", func := "loop.example/g00453/laws.FnHashes", spec := "fnHashes", apart := false }
def FnHashesSaid : Prop := fnHashesRow.holds Try.pinned (OpenSpec.ofChange fnHashesSpec)

/-- ITS FALSE NEIGHBOUR: 'it returns false'. Refute it at one input. -/
def fnHashesWrong : ChangeSpec := { name := "fnHashes", fn := fun _ => fun
  | [d] => { results := [.lit (.bool false)], args := [d] }
  | _ => none }
def FnHashesWrongFalsely : Prop := fnHashesRow.holds Try.pinned (OpenSpec.ofChange fnHashesWrong)

/-- 'laws.FnFifos': WHATEVER THE INPUT: true; the input reads as it did. -/
def fnFifosSpec : ChangeSpec := { name := "fnFifos", fn := fun _ => fun
  | [d] => { results := [.lit (.bool true)], args := [d] }
  | _ => none }
def fnFifosRow : OpenClaim := { program := "ytjojodgjddlkhab", sum := "6d24ea09af7929e1b393142335807d8856a0b5e790dd0e256ce7843441331213", func := "loop.example/g00453/laws.FnFifos", spec := "fnFifos", unfollowed := true, recurses := true, apart := false }
def FnFifosSaid : Prop := fnFifosRow.holds Try.pinned (OpenSpec.ofChange fnFifosSpec)

/-- ITS FALSE NEIGHBOUR: 'it returns false'. Refute it at one input. -/
def fnFifosWrong : ChangeSpec := { name := "fnFifos", fn := fun _ => fun
  | [d] => { results := [.lit (.bool false)], args := [d] }
  | _ => none }
def FnFifosWrongFalsely : Prop := fnFifosRow.holds Try.pinned (OpenSpec.ofChange fnFifosWrong)

/-- 'laws.FnFlows': WHATEVER THE INPUT: true; the input reads as it did. -/
def fnFlowsSpec : ChangeSpec := { name := "fnFlows", fn := fun _ => fun
  | [d] => { results := [.lit (.bool true)], args := [d] }
  | _ => none }
def fnFlowsRow : OpenClaim := { program := "ytjojodgjddlkhab", sum := "6d24ea09af7929e1b393142335807d8856a0b5e790dd0e256ce7843441331213", func := "loop.example/g00453/laws.FnFlows", spec := "fnFlows", unfollowed := true, recurses := true, apart := false }
def FnFlowsSaid : Prop := fnFlowsRow.holds Try.pinned (OpenSpec.ofChange fnFlowsSpec)

/-- ITS FALSE NEIGHBOUR: 'it returns false'. Refute it at one input. -/
def fnFlowsWrong : ChangeSpec := { name := "fnFlows", fn := fun _ => fun
  | [d] => { results := [.lit (.bool false)], args := [d] }
  | _ => none }
def FnFlowsWrongFalsely : Prop := fnFlowsRow.holds Try.pinned (OpenSpec.ofChange fnFlowsWrong)

/-- 'laws.FnRedAvgs': WHATEVER THE INPUT: true; the input reads as it did. -/
def fnRedAvgsSpec : ChangeSpec := { name := "fnRedAvgs", fn := fun _ => fun
  | [d] => { results := [.lit (.bool true)], args := [d] }
  | _ => none }
def fnRedAvgsRow : OpenClaim := { program := "ytjojodgjddlkhab", sum := "6d24ea09af7929e1b393142335807d8856a0b5e790dd0e256ce7843441331213", func := "loop.example/g00453/laws.FnRedAvgs", spec := "fnRedAvgs", apart := false }
def FnRedAvgsSaid : Prop := fnRedAvgsRow.holds Try.pinned (OpenSpec.ofChange fnRedAvgsSpec)

/-- ITS FALSE NEIGHBOUR: 'it returns false'. Refute it at one input. -/
def fnRedAvgsWrong : ChangeSpec := { name := "fnRedAvgs", fn := fun _ => fun
  | [d] => { results := [.lit (.bool false)], args := [d] }
  | _ => none }
def FnRedAvgsWrongFalsely : Prop := fnRedAvgsRow.holds Try.pinned (OpenSpec.ofChange fnRedAvgsWrong)

/-- 'laws.FnRedProbs': WHATEVER THE INPUT: true; the input reads as it did. -/
def fnRedProbsSpec : ChangeSpec := { name := "fnRedProbs", fn := fun _ => fun
  | [d] => { results := [.lit (.bool true)], args := [d] }
  | _ => none }
def fnRedProbsRow : OpenClaim := { program := "ytjojodgjddlkhab", sum := "6d24ea09af7929e1b393142335807d8856a0b5e790dd0e256ce7843441331213", func := "loop.example/g00453/laws.FnRedProbs", spec := "fnRedProbs", inPlace := ["sync/atomic.LoadUint32", "(*internal/sync.Mutex).Lock", "internal/race.Disable", "sync/atomic.CompareAndSwapInt32", "internal/race.Enable", "internal/race.Acquire", "(*internal/sync.Mutex).lockSlow", "internal/sync.runtime_canSpin", "internal/sync.runtime_doSpin", "internal/sync.throw", "internal/sync.runtime_nanotime", "internal/sync.runtime_SemacquireMutex", "sync/atomic.AddInt32", "(*internal/sync.Mutex).Unlock", "internal/race.ReleaseMerge", "(*internal/sync.Mutex).unlockSlow", "internal/sync.fatal", "internal/sync.runtime_Semrelease", "sync/atomic.StoreUint32"], unfollowed := true, recurses := true, apart := false }
def FnRedProbsSaid : Prop := fnRedProbsRow.holds Try.pinned (OpenSpec.ofChange fnRedProbsSpec)

/-- ITS FALSE NEIGHBOUR: 'it returns false'. Refute it at one input. -/
def fnRedProbsWrong : ChangeSpec := { name := "fnRedProbs", fn := fun _ => fun
  | [d] => { results := [.lit (.bool false)], args := [d] }
  | _ => none }
def FnRedProbsWrongFalsely : Prop := fnRedProbsRow.holds Try.pinned (OpenSpec.ofChange fnRedProbsWrong)

/- THE SECOND FORM. 'bulk': how many values and letters a reading holds, each counted each time it is reached (what is shared counts as often as it is met; a slice's spare places count too). A statement '..UptoSaid' is the law's where the arguments, and the package variables that the reading takes, are together of bulk at most 1048576: NARROWER than '..Said'. Prove '..Said' where nothing that the law and all that it calls make is longer than what came in: it says more and counts as full. Else prove '..UptoSaid'. A law counts once. -/
mutual
def uptoBulk {H : Type} : DataW H → Nat
  | .lit (.string bytes) => bytes.length + 1
  | .lit _ => 1
  | .nil => 1
  | .ptr d => uptoBulk d + 1
  | .slice elems spare => uptoBulkAll elems + uptoBulkAll spare + 1
  | .agg parts => uptoBulkAll parts + 1
  | .iface _ d => uptoBulk d + 1
  | .map entries => uptoBulkEntries entries + 1
  | .held _ => 1
def uptoBulkAll {H : Type} : List (DataW H) → Nat
  | [] => 0
  | d :: r => uptoBulk d + uptoBulkAll r
def uptoBulkEntries {H : Type} : List (Lit × DataW H) → Nat
  | [] => 0
  | x :: r => uptoBulkEntry x + uptoBulkEntries r
def uptoBulkEntry {H : Type} : Lit × DataW H → Nat
  | (.string bytes, d) => bytes.length + uptoBulk d + 1
  | (_, d) => uptoBulk d + 1
 end
def uptoSmall : (H : Type) → List (DataW H) → Bool := fun _ ds => decide (uptoBulkAll ds ≤ 1048576)
def OpenSpec.upto (s : _root_.Go.ChangeSpec) : _root_.Go.OpenSpec := { _root_.Go.OpenSpec.ofChange s with cond := some uptoSmall }

/-- 'laws.FnMarks', WHERE WHAT IT READS IS OF BULK AT MOST 1048576: true; the input reads as it did. -/
def fnMarksUptoRow : OpenClaim := { program := "ytjojodgjddlkhab", sum := "6d24ea09af7929e1b393142335807d8856a0b5e790dd0e256ce7843441331213", func := "loop.example/g00453/laws.FnMarks", spec := "fnMarks", apart := false, narrowed := true }
def FnMarksUptoSaid : Prop := fnMarksUptoRow.holds Try.pinned (OpenSpec.upto fnMarksSpec)

/-- 'laws.FnHashes', WHERE WHAT IT READS IS OF BULK AT MOST 1048576: true; the input reads as it did. -/
def fnHashesUptoRow : OpenClaim := { program := "ytjojodgjddlkhab", sum := "6d24ea09af7929e1b393142335807d8856a0b5e790dd0e256ce7843441331213", func := "loop.example/g00453/laws.FnHashes", spec := "fnHashes", apart := false, narrowed := true }
def FnHashesUptoSaid : Prop := fnHashesUptoRow.holds Try.pinned (OpenSpec.upto fnHashesSpec)

/-- 'laws.FnFifos', WHERE WHAT IT READS IS OF BULK AT MOST 1048576: true; the input reads as it did. -/
def fnFifosUptoRow : OpenClaim := { program := "ytjojodgjddlkhab", sum := "6d24ea09af7929e1b393142335807d8856a0b5e790dd0e256ce7843441331213", func := "loop.example/g00453/laws.FnFifos", spec := "fnFifos", unfollowed := true, recurses := true, apart := false, narrowed := true }
def FnFifosUptoSaid : Prop := fnFifosUptoRow.holds Try.pinned (OpenSpec.upto fnFifosSpec)

/-- 'laws.FnFlows', WHERE WHAT IT READS IS OF BULK AT MOST 1048576: true; the input reads as it did. -/
def fnFlowsUptoRow : OpenClaim := { program := "ytjojodgjddlkhab", sum := "6d24ea09af7929e1b393142335807d8856a0b5e790dd0e256ce7843441331213", func := "loop.example/g00453/laws.FnFlows", spec := "fnFlows", unfollowed := true, recurses := true, apart := false, narrowed := true }
def FnFlowsUptoSaid : Prop := fnFlowsUptoRow.holds Try.pinned (OpenSpec.upto fnFlowsSpec)

/-- 'laws.FnRedAvgs', WHERE WHAT IT READS IS OF BULK AT MOST 1048576: true; the input reads as it did. -/
def fnRedAvgsUptoRow : OpenClaim := { program := "ytjojodgjddlkhab", sum := "6d24ea09af7929e1b393142335807d8856a0b5e790dd0e256ce7843441331213", func := "loop.example/g00453/laws.FnRedAvgs", spec := "fnRedAvgs", apart := false, narrowed := true }
def FnRedAvgsUptoSaid : Prop := fnRedAvgsUptoRow.holds Try.pinned (OpenSpec.upto fnRedAvgsSpec)

/-- 'laws.FnRedProbs', WHERE WHAT IT READS IS OF BULK AT MOST 1048576: true; the input reads as it did. -/
def fnRedProbsUptoRow : OpenClaim := { program := "ytjojodgjddlkhab", sum := "6d24ea09af7929e1b393142335807d8856a0b5e790dd0e256ce7843441331213", func := "loop.example/g00453/laws.FnRedProbs", spec := "fnRedProbs", inPlace := ["sync/atomic.LoadUint32", "(*internal/sync.Mutex).Lock", "internal/race.Disable", "sync/atomic.CompareAndSwapInt32", "internal/race.Enable", "internal/race.Acquire", "(*internal/sync.Mutex).lockSlow", "internal/sync.runtime_canSpin", "internal/sync.runtime_doSpin", "internal/sync.throw", "internal/sync.runtime_nanotime", "internal/sync.runtime_SemacquireMutex", "sync/atomic.AddInt32", "(*internal/sync.Mutex).Unlock", "internal/race.ReleaseMerge", "(*internal/sync.Mutex).unlockSlow", "internal/sync.fatal", "internal/sync.runtime_Semrelease", "sync/atomic.StoreUint32"], unfollowed := true, recurses := true, apart := false, narrowed := true }
def FnRedProbsUptoSaid : Prop := fnRedProbsUptoRow.holds Try.pinned (OpenSpec.upto fnRedProbsSpec)

end Rows
end Go.Proofs.Ytjojodgjddlkhab
