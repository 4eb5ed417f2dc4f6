/-
  No cell of these rows narrows 'for every input' (looked for: loops, veiled, ifaces, maps, wideKeys, modest, calm, conditions, laid).
  DERIVED. THE GIVEN ROWS OF THIS SEAT. 6 by the template 'for every input the law returns true; each argument reads behind the call as it read before'; 0 by the template 'total and deterministic' (their statements: YtboomccnfnaboalTotals.lean).
  GIVEN WITH THE SEED: the statements are not yours to turn. If you find one false, say at which input.
  Laid BY PROGRAM, IN A SANDBOX (cutbox-rows.mjs): the forced cells as the released guide's own fill.sh prints them over the translation b2241ee72bffcb29… (all of the seat's roots in one cut). By AI agents, Wed Nov 11 2026. No macro, syntax, notation, axiom, sorry.
-/
import Derived.Test.YtboomccnfnaboalChecked
import GoSem.Claim
import GoSem.ClaimJoined
import GoSem.ClaimMapViews
import Derived.JoinedTies
import Derived.KernelRfl
namespace Go.Proofs.Ytboomccnfnaboal
/- THE CELL 'sum', in the pinned program and in every row, IS THE sha256 OF THE DUMP (.gsa) THAT YtboomccnfnaboalProg.lean LOADS. Nothing in Lean hashes anything: it is a label: what it is worth is what the hold of that sum in a sandbox is worth. -/
noncomputable def Try.pinned : Pinned := { name := "ytboomccnfnaboal", sum := "b2241ee72bffcb293dc736c28a0d0491d0d413c47f4ed3669300f917214823c8", checked := Try.checked }
namespace Rows
def none {H : Type} : Left H := { results := [], args := [] }

/-- 'laws.FnExactRedOk': WHATEVER THE INPUT: true; the input reads as it did. -/
def fnExactRedOkSpec : ChangeSpec := { name := "fnExactRedOk", fn := fun _ => fun
  | [d] => { results := [.lit (.bool true)], args := [d] }
  | _ => none }
def fnExactRedOkRow : OpenClaim := { program := "ytboomccnfnaboal", sum := "b2241ee72bffcb293dc736c28a0d0491d0d413c47f4ed3669300f917214823c8", func := "loop.example/g00453/laws.FnExactRedOk", spec := "fnExactRedOk", apart := false }
def FnExactRedOkSaid : Prop := fnExactRedOkRow.holds Try.pinned (OpenSpec.ofChange fnExactRedOkSpec)

/-- ITS FALSE NEIGHBOUR: 'it returns false'. Refute it at one input. -/
def fnExactRedOkWrong : ChangeSpec := { name := "fnExactRedOk", fn := fun _ => fun
  | [d] => { results := [.lit (.bool false)], args := [d] }
  | _ => none }
def FnExactRedOkWrongFalsely : Prop := fnExactRedOkRow.holds Try.pinned (OpenSpec.ofChange fnExactRedOkWrong)

/-- 'laws.FnExactRedNew': WHATEVER THE INPUT: true; the input reads as it did. -/
def fnExactRedNewSpec : ChangeSpec := { name := "fnExactRedNew", fn := fun _ => fun
  | [d1, d2, d3] => { results := [.lit (.bool true)], args := [d1, d2, d3] }
  | _ => none }
def fnExactRedNewRow : OpenClaim := { program := "ytboomccnfnaboal", sum := "b2241ee72bffcb293dc736c28a0d0491d0d413c47f4ed3669300f917214823c8", func := "loop.example/g00453/laws.FnExactRedNew", spec := "fnExactRedNew", apart := false }
def FnExactRedNewSaid : Prop := fnExactRedNewRow.holds Try.pinned (OpenSpec.ofChange fnExactRedNewSpec)

/-- ITS FALSE NEIGHBOUR: 'it returns false'. Refute it at one input. -/
def fnExactRedNewWrong : ChangeSpec := { name := "fnExactRedNew", fn := fun _ => fun
  | [d1, d2, d3] => { results := [.lit (.bool false)], args := [d1, d2, d3] }
  | _ => none }
def FnExactRedNewWrongFalsely : Prop := fnExactRedNewRow.holds Try.pinned (OpenSpec.ofChange fnExactRedNewWrong)

/-- 'laws.FnExactRedAvg': WHATEVER THE INPUT: true; the input reads as it did. -/
def fnExactRedAvgSpec : ChangeSpec := { name := "fnExactRedAvg", fn := fun _ => fun
  | [d1, d2] => { results := [.lit (.bool true)], args := [d1, d2] }
  | _ => none }
def fnExactRedAvgRow : OpenClaim := { program := "ytboomccnfnaboal", sum := "b2241ee72bffcb293dc736c28a0d0491d0d413c47f4ed3669300f917214823c8", func := "loop.example/g00453/laws.FnExactRedAvg", spec := "fnExactRedAvg", apart := false }
def FnExactRedAvgSaid : Prop := fnExactRedAvgRow.holds Try.pinned (OpenSpec.ofChange fnExactRedAvgSpec)

/-- ITS FALSE NEIGHBOUR: 'it returns false'. Refute it at one input. -/
def fnExactRedAvgWrong : ChangeSpec := { name := "fnExactRedAvg", fn := fun _ => fun
  | [d1, d2] => { results := [.lit (.bool false)], args := [d1, d2] }
  | _ => none }
def FnExactRedAvgWrongFalsely : Prop := fnExactRedAvgRow.holds Try.pinned (OpenSpec.ofChange fnExactRedAvgWrong)

/-- 'laws.FnExactRedIdle': WHATEVER THE INPUT: true; the input reads as it did. -/
def fnExactRedIdleSpec : ChangeSpec := { name := "fnExactRedIdle", fn := fun _ => fun
  | [d1, d2] => { results := [.lit (.bool true)], args := [d1, d2] }
  | _ => none }
def fnExactRedIdleRow : OpenClaim := { program := "ytboomccnfnaboal", sum := "b2241ee72bffcb293dc736c28a0d0491d0d413c47f4ed3669300f917214823c8", func := "loop.example/g00453/laws.FnExactRedIdle", spec := "fnExactRedIdle", apart := false }
def FnExactRedIdleSaid : Prop := fnExactRedIdleRow.holds Try.pinned (OpenSpec.ofChange fnExactRedIdleSpec)

/-- ITS FALSE NEIGHBOUR: 'it returns false'. Refute it at one input. -/
def fnExactRedIdleWrong : ChangeSpec := { name := "fnExactRedIdle", fn := fun _ => fun
  | [d1, d2] => { results := [.lit (.bool false)], args := [d1, d2] }
  | _ => none }
def FnExactRedIdleWrongFalsely : Prop := fnExactRedIdleRow.holds Try.pinned (OpenSpec.ofChange fnExactRedIdleWrong)

/-- 'laws.FnExactRedProb': WHATEVER THE INPUT: true; the input reads as it did. -/
def fnExactRedProbSpec : ChangeSpec := { name := "fnExactRedProb", fn := fun _ => fun
  | [d] => { results := [.lit (.bool true)], args := [d] }
  | _ => none }
def fnExactRedProbRow : OpenClaim := { program := "ytboomccnfnaboal", sum := "b2241ee72bffcb293dc736c28a0d0491d0d413c47f4ed3669300f917214823c8", func := "loop.example/g00453/laws.FnExactRedProb", spec := "fnExactRedProb", inPlace := ["sync/atomic.LoadUint32", "(*internal/sync.Mutex).Lock", "internal/race.Disable", "sync/atomic.CompareAndSwapInt32", "internal/race.Enable", "internal/race.Acquire", "(*internal/sync.Mutex).lockSlow", "internal/sync.runtime_canSpin", "internal/sync.runtime_doSpin", "internal/sync.throw", "internal/sync.runtime_nanotime", "internal/sync.runtime_SemacquireMutex", "sync/atomic.AddInt32", "(*internal/sync.Mutex).Unlock", "internal/race.ReleaseMerge", "(*internal/sync.Mutex).unlockSlow", "internal/sync.fatal", "internal/sync.runtime_Semrelease", "sync/atomic.StoreUint32"], unfollowed := true, recurses := true, apart := false }
def FnExactRedProbSaid : Prop := fnExactRedProbRow.holds Try.pinned (OpenSpec.ofChange fnExactRedProbSpec)

/-- ITS FALSE NEIGHBOUR: 'it returns false'. Refute it at one input. -/
def fnExactRedProbWrong : ChangeSpec := { name := "fnExactRedProb", fn := fun _ => fun
  | [d] => { results := [.lit (.bool false)], args := [d] }
  | _ => none }
def FnExactRedProbWrongFalsely : Prop := fnExactRedProbRow.holds Try.pinned (OpenSpec.ofChange fnExactRedProbWrong)

/-- 'laws.FnExactRedArrive': WHATEVER THE INPUT: true; the input reads as it did. -/
def fnExactRedArriveSpec : ChangeSpec := { name := "fnExactRedArrive", fn := fun _ => fun
  | [d1, d2, d3] => { results := [.lit (.bool true)], args := [d1, d2, d3] }
  | _ => none }
def fnExactRedArriveRow : OpenClaim := { program := "ytboomccnfnaboal", sum := "b2241ee72bffcb293dc736c28a0d0491d0d413c47f4ed3669300f917214823c8", func := "loop.example/g00453/laws.FnExactRedArrive", spec := "fnExactRedArrive", inPlace := ["sync/atomic.LoadUint32", "(*internal/sync.Mutex).Lock", "internal/race.Disable", "sync/atomic.CompareAndSwapInt32", "internal/race.Enable", "internal/race.Acquire", "(*internal/sync.Mutex).lockSlow", "internal/sync.runtime_canSpin", "internal/sync.runtime_doSpin", "internal/sync.throw", "internal/sync.runtime_nanotime", "internal/sync.runtime_SemacquireMutex", "sync/atomic.AddInt32", "(*internal/sync.Mutex).Unlock", "internal/race.ReleaseMerge", "(*internal/sync.Mutex).unlockSlow", "internal/sync.fatal", "internal/sync.runtime_Semrelease", "sync/atomic.StoreUint32"], unfollowed := true, recurses := true, apart := false }
def FnExactRedArriveSaid : Prop := fnExactRedArriveRow.holds Try.pinned (OpenSpec.ofChange fnExactRedArriveSpec)

/-- ITS FALSE NEIGHBOUR: 'it returns false'. Refute it at one input. -/
def fnExactRedArriveWrong : ChangeSpec := { name := "fnExactRedArrive", fn := fun _ => fun
  | [d1, d2, d3] => { results := [.lit (.bool false)], args := [d1, d2, d3] }
  | _ => none }
def FnExactRedArriveWrongFalsely : Prop := fnExactRedArriveRow.holds Try.pinned (OpenSpec.ofChange fnExactRedArriveWrong)

/- THE SECOND FORM. 'bulk': how many values and letters a reading holds, each counted each time it is reached (what is shared counts as often as it is met; a slice's spare places count too). A statement '..UptoSaid' is the law's where the arguments, and the package variables that the reading takes, are together of bulk at most 1048576: NARROWER than '..Said'. Prove '..Said' where nothing that the law and all that it calls make is longer than what came in: it says more and counts as full. Else prove '..UptoSaid'. A law counts once. -/
mutual
def uptoBulk {H : Type} : DataW H → Nat
  | .lit (.string bytes) => bytes.length + 1
  | .lit _ => 1
  | .nil => 1
  | .ptr d => uptoBulk d + 1
  | .slice elems spare => uptoBulkAll elems + uptoBulkAll spare + 1
  | .agg parts => uptoBulkAll parts + 1
  | .iface _ d => uptoBulk d + 1
  | .map entries => uptoBulkEntries entries + 1
  | .held _ => 1
def uptoBulkAll {H : Type} : List (DataW H) → Nat
  | [] => 0
  | d :: r => uptoBulk d + uptoBulkAll r
def uptoBulkEntries {H : Type} : List (Lit × DataW H) → Nat
  | [] => 0
  | x :: r => uptoBulkEntry x + uptoBulkEntries r
def uptoBulkEntry {H : Type} : Lit × DataW H → Nat
  | (.string bytes, d) => bytes.length + uptoBulk d + 1
  | (_, d) => uptoBulk d + 1
 end
def uptoSmall : (H : Type) → List (DataW H) → Bool := fun _ ds => decide (uptoBulkAll ds ≤ 1048576)
def OpenSpec.upto (s : _root_.Go.ChangeSpec) : _root_.Go.OpenSpec := { _root_.Go.OpenSpec.ofChange s with cond := some uptoSmall }

/-- 'laws.FnExactRedOk', WHERE WHAT IT READS IS OF BULK AT MOST 1048576: true; the input reads as it did. -/
def fnExactRedOkUptoRow : OpenClaim := { program := "ytboomccnfnaboal", sum := "b2241ee72bffcb293dc736c28a0d0491d0d413c47f4ed3669300f917214823c8", func := "loop.example/g00453/laws.FnExactRedOk", spec := "fnExactRedOk", apart := false, narrowed := true }
def FnExactRedOkUptoSaid : Prop := fnExactRedOkUptoRow.holds Try.pinned (OpenSpec.upto fnExactRedOkSpec)

/-- 'laws.FnExactRedNew', WHERE WHAT IT READS IS OF BULK AT MOST 1048576: true; the input reads as it did. -/
def fnExactRedNewUptoRow : OpenClaim := { program := "ytboomccnfnaboal", sum := "b2241ee72bffcb293dc736c28a0d0491d0d413c47f4ed3669300f917214823c8", func := "loop.example/g00453/laws.FnExactRedNew", spec := "fnExactRedNew", apart := false, narrowed := true }
def FnExactRedNewUptoSaid : Prop := fnExactRedNewUptoRow.holds Try.pinned (OpenSpec.upto fnExactRedNewSpec)

/-- 'laws.FnExactRedAvg', WHERE WHAT IT READS IS OF BULK AT MOST 1048576: true; the input reads as it did. -/
def fnExactRedAvgUptoRow : OpenClaim := { program := "ytboomccnfnaboal", sum := "b2241ee72bffcb293dc736c28a0d0491d0d413c47f4ed3669300f917214823c8", func := "loop.example/g00453/laws.FnExactRedAvg", spec := "fnExactRedAvg", apart := false, narrowed := true }
def FnExactRedAvgUptoSaid : Prop := fnExactRedAvgUptoRow.holds Try.pinned (OpenSpec.upto fnExactRedAvgSpec)

/-- 'laws.FnExactRedIdle', WHERE WHAT IT READS IS OF BULK AT MOST 1048576: true; the input reads as it did. -/
def fnExactRedIdleUptoRow : OpenClaim := { program := "ytboomccnfnaboal", sum := "b2241ee72bffcb293dc736c28a0d0491d0d413c47f4ed3669300f917214823c8", func := "loop.example/g00453/laws.FnExactRedIdle", spec := "fnExactRedIdle", apart := false, narrowed := true }
def FnExactRedIdleUptoSaid : Prop := fnExactRedIdleUptoRow.holds Try.pinned (OpenSpec.upto fnExactRedIdleSpec)

/-- 'laws.FnExactRedProb', WHERE WHAT IT READS IS OF BULK AT MOST 1048576: true; the input reads as it did. -/
def fnExactRedProbUptoRow : OpenClaim := { program := "ytboomccnfnaboal", sum := "b2241ee72bffcb293dc736c28a0d0491d0d413c47f4ed3669300f917214823c8", func := "loop.example/g00453/laws.FnExactRedProb", spec := "fnExactRedProb", inPlace := ["sync/atomic.LoadUint32", "(*internal/sync.Mutex).Lock", "internal/race.Disable", "sync/atomic.CompareAndSwapInt32", "internal/race.Enable", "internal/race.Acquire", "(*internal/sync.Mutex).lockSlow", "internal/sync.runtime_canSpin", "internal/sync.runtime_doSpin", "internal/sync.throw", "internal/sync.runtime_nanotime", "internal/sync.runtime_SemacquireMutex", "sync/atomic.AddInt32", "(*internal/sync.Mutex).Unlock", "internal/race.ReleaseMerge", "(*internal/sync.Mutex).unlockSlow", "internal/sync.fatal", "internal/sync.runtime_Semrelease", "sync/atomic.StoreUint32"], unfollowed := true, recurses := true, apart := false, narrowed := true }
def FnExactRedProbUptoSaid : Prop := fnExactRedProbUptoRow.holds Try.pinned (OpenSpec.upto fnExactRedProbSpec)

/-- 'laws.FnExactRedArrive', WHERE WHAT IT READS IS OF BULK AT MOST 1048576: true; the input reads as it did. -/
def fnExactRedArriveUptoRow : OpenClaim := { program := "ytboomccnfnaboal", sum := "b2241ee72bffcb293dc736c28a0d0491d0d413c47f4ed3669300f917214823c8", func := "loop.example/g00453/laws.FnExactRedArrive", spec := "fnExactRedArrive", inPlace := ["sync/atomic.LoadUint32", "(*internal/sync.Mutex).Lock", "internal/race.Disable", "sync/atomic.CompareAndSwapInt32", "internal/race.Enable", "internal/race.Acquire", "(*internal/sync.Mutex).lockSlow", "internal/sync.runtime_canSpin", "internal/sync.runtime_doSpin", "internal/sync.throw", "internal/sync.runtime_nanotime", "internal/sync.runtime_SemacquireMutex", "sync/atomic.AddInt32", "(*internal/sync.Mutex).Unlock", "internal/race.ReleaseMerge", "(*internal/sync.Mutex).unlockSlow", "internal/sync.fatal", "internal/sync.runtime_Semrelease", "sync/atomic.StoreUint32"], unfollowed := true, recurses := true, apart := false, narrowed := true }
def FnExactRedArriveUptoSaid : Prop := fnExactRedArriveUptoRow.holds Try.pinned (OpenSpec.upto fnExactRedArriveSpec)

end Rows
end Go.Proofs.Ytboomccnfnaboal
