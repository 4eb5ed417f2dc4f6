/-
  No cell of these rows narrows 'for every input' (looked for: loops, veiled, ifaces, maps, wideKeys, modest, calm, conditions, laid).
  DERIVED. THE GIVEN ROWS OF THIS SEAT. 4 by the template 'for every input the law returns true; each argument reads behind the call as it read before'; 0 by the template 'total and deterministic' (their statements: YtgmecbjdiinkianTotals.lean).
  GIVEN WITH THE SEED: the statements are not yours to turn. If you find one false, say at which input.
  Laid BY PROGRAM, IN A SANDBOX (cutbox-rows.mjs): the forced cells as the released guide's own fill.sh prints them over the translation bcd7fd2121d10208… (all of the seat's roots in one cut). By AI agents, Wed Nov 11 2026. No macro, syntax, notation, axiom, sorry.
-/
import Derived.Test.YtgmecbjdiinkianChecked
import GoSem.Claim
import GoSem.ClaimJoined
import GoSem.ClaimMapViews
import Derived.JoinedTies
import Derived.KernelRfl
namespace Go.Proofs.Ytgmecbjdiinkian
/- THE CELL 'sum', in the pinned program and in every row, IS THE sha256 OF THE DUMP (.gsa) THAT YtgmecbjdiinkianProg.lean LOADS. Nothing in Lean hashes anything: it is a label: what it is worth is what the hold of that sum in a sandbox is worth. -/
noncomputable def Try.pinned : Pinned := { name := "ytgmecbjdiinkian", sum := "bcd7fd2121d10208648f00a809f74022ffc00653320fe5e64046c909a2f6f920", checked := Try.checked }
namespace Rows
def none {H : Type} : Left H := { results := [], args := [] }

/-- 'laws.FnExactPieNew': WHATEVER THE INPUT: true; the input reads as it did. -/
def fnExactPieNewSpec : ChangeSpec := { name := "fnExactPieNew", fn := fun _ => fun
  | [d] => { results := [.lit (.bool true)], args := [d] }
  | _ => none }
def fnExactPieNewRow : OpenClaim := { program := "ytgmecbjdiinkian", sum := "bcd7fd2121d10208648f00a809f74022ffc00653320fe5e64046c909a2f6f920", func := "loop.example/g00453/laws.FnExactPieNew", spec := "fnExactPieNew", apart := false }
def FnExactPieNewSaid : Prop := fnExactPieNewRow.holds Try.pinned (OpenSpec.ofChange fnExactPieNewSpec)

/-- ITS FALSE NEIGHBOUR: 'it returns false'. Refute it at one input. -/
def fnExactPieNewWrong : ChangeSpec := { name := "fnExactPieNew", fn := fun _ => fun
  | [d] => { results := [.lit (.bool false)], args := [d] }
  | _ => none }
def FnExactPieNewWrongFalsely : Prop := fnExactPieNewRow.holds Try.pinned (OpenSpec.ofChange fnExactPieNewWrong)

/-- 'laws.FnExactPieArrive': WHATEVER THE INPUT: true; the input reads as it did. -/
def fnExactPieArriveSpec : ChangeSpec := { name := "fnExactPieArrive", fn := fun _ => fun
  | [d1, d2, d3, d4] => { results := [.lit (.bool true)], args := [d1, d2, d3, d4] }
  | _ => none }
def fnExactPieArriveRow : OpenClaim := { program := "ytgmecbjdiinkian", sum := "bcd7fd2121d10208648f00a809f74022ffc00653320fe5e64046c909a2f6f920", func := "loop.example/g00453/laws.FnExactPieArrive", spec := "fnExactPieArrive", inPlace := ["sync/atomic.AddInt64", "sync/atomic.LoadInt64"], apart := false }
def FnExactPieArriveSaid : Prop := fnExactPieArriveRow.holds Try.pinned (OpenSpec.ofChange fnExactPieArriveSpec)

/-- ITS FALSE NEIGHBOUR: 'it returns false'. Refute it at one input. -/
def fnExactPieArriveWrong : ChangeSpec := { name := "fnExactPieArrive", fn := fun _ => fun
  | [d1, d2, d3, d4] => { results := [.lit (.bool false)], args := [d1, d2, d3, d4] }
  | _ => none }
def FnExactPieArriveWrongFalsely : Prop := fnExactPieArriveRow.holds Try.pinned (OpenSpec.ofChange fnExactPieArriveWrong)

/-- 'laws.FnExactFairOk': WHATEVER THE INPUT: true; the input reads as it did. -/
def fnExactFairOkSpec : ChangeSpec := { name := "fnExactFairOk", fn := fun _ => fun
  | [d] => { results := [.lit (.bool true)], args := [d] }
  | _ => none }
def fnExactFairOkRow : OpenClaim := { program := "ytgmecbjdiinkian", sum := "bcd7fd2121d10208648f00a809f74022ffc00653320fe5e64046c909a2f6f920", func := "loop.example/g00453/laws.FnExactFairOk", spec := "fnExactFairOk", unfollowed := true, recurses := true, apart := false }
def FnExactFairOkSaid : Prop := fnExactFairOkRow.holds Try.pinned (OpenSpec.ofChange fnExactFairOkSpec)

/-- ITS FALSE NEIGHBOUR: 'it returns false'. Refute it at one input. -/
def fnExactFairOkWrong : ChangeSpec := { name := "fnExactFairOk", fn := fun _ => fun
  | [d] => { results := [.lit (.bool false)], args := [d] }
  | _ => none }
def FnExactFairOkWrongFalsely : Prop := fnExactFairOkRow.holds Try.pinned (OpenSpec.ofChange fnExactFairOkWrong)

/-- 'laws.FnExactFairNew': WHATEVER THE INPUT: true; the input reads as it did. -/
def fnExactFairNewSpec : ChangeSpec := { name := "fnExactFairNew", fn := fun _ => fun
  | [d1, d2, d3, d4] => { results := [.lit (.bool true)], args := [d1, d2, d3, d4] }
  | _ => none }
def fnExactFairNewRow : OpenClaim := { program := "ytgmecbjdiinkian", sum := "bcd7fd2121d10208648f00a809f74022ffc00653320fe5e64046c909a2f6f920", func := "loop.example/g00453/laws.FnExactFairNew", spec := "fnExactFairNew", unfollowed := true, recurses := true, apart := false }
def FnExactFairNewSaid : Prop := fnExactFairNewRow.holds Try.pinned (OpenSpec.ofChange fnExactFairNewSpec)

/-- ITS FALSE NEIGHBOUR: 'it returns false'. Refute it at one input. -/
def fnExactFairNewWrong : ChangeSpec := { name := "fnExactFairNew", fn := fun _ => fun
  | [d1, d2, d3, d4] => { results := [.lit (.bool false)], args := [d1, d2, d3, d4] }
  | _ => none }
def FnExactFairNewWrongFalsely : Prop := fnExactFairNewRow.holds Try.pinned (OpenSpec.ofChange fnExactFairNewWrong)

/- THE SECOND FORM. 'bulk': how many values and letters a reading holds, each counted each time it is reached (what is shared counts as often as it is met; a slice's spare places count too). A statement '..UptoSaid' is the law's where the arguments, and the package variables that the reading takes, are together of bulk at most 1048576: NARROWER than '..Said'. Prove '..Said' where nothing that the law and all that it calls make is longer than what came in: it says more and counts as full. Else prove '..UptoSaid'. A law counts once. -/
mutual
def uptoBulk {H : Type} : DataW H → Nat
  | .lit (.string bytes) => bytes.length + 1
  | .lit _ => 1
  | .nil => 1
  | .ptr d => uptoBulk d + 1
  | .slice elems spare => uptoBulkAll elems + uptoBulkAll spare + 1
  | .agg parts => uptoBulkAll parts + 1
  | .iface _ d => uptoBulk d + 1
  | .map entries => uptoBulkEntries entries + 1
  | .held _ => 1
def uptoBulkAll {H : Type} : List (DataW H) → Nat
  | [] => 0
  | d :: r => uptoBulk d + uptoBulkAll r
def uptoBulkEntries {H : Type} : List (Lit × DataW H) → Nat
  | [] => 0
  | x :: r => uptoBulkEntry x + uptoBulkEntries r
def uptoBulkEntry {H : Type} : Lit × DataW H → Nat
  | (.string bytes, d) => bytes.length + uptoBulk d + 1
  | (_, d) => uptoBulk d + 1
 end
def uptoSmall : (H : Type) → List (DataW H) → Bool := fun _ ds => decide (uptoBulkAll ds ≤ 1048576)
def OpenSpec.upto (s : _root_.Go.ChangeSpec) : _root_.Go.OpenSpec := { _root_.Go.OpenSpec.ofChange s with cond := some uptoSmall }

/-- 'laws.FnExactPieNew', WHERE WHAT IT READS IS OF BULK AT MOST 1048576: true; the input reads as it did. -/
def fnExactPieNewUptoRow : OpenClaim := { program := "ytgmecbjdiinkian", sum := "bcd7fd2121d10208648f00a809f74022ffc00653320fe5e64046c909a2f6f920", func := "loop.example/g00453/laws.FnExactPieNew", spec := "fnExactPieNew", apart := false, narrowed := true }
def FnExactPieNewUptoSaid : Prop := fnExactPieNewUptoRow.holds Try.pinned (OpenSpec.upto fnExactPieNewSpec)

/-- 'laws.FnExactPieArrive', WHERE WHAT IT READS IS OF BULK AT MOST 1048576: true; the input reads as it did. -/
def fnExactPieArriveUptoRow : OpenClaim := { program := "ytgmecbjdiinkian", sum := "bcd7fd2121d10208648f00a809f74022ffc00653320fe5e64046c909a2f6f920", func := "loop.example/g00453/laws.FnExactPieArrive", spec := "fnExactPieArrive", inPlace := ["sync/atomic.AddInt64", "sync/atomic.LoadInt64"], apart := false, narrowed := true }
def FnExactPieArriveUptoSaid : Prop := fnExactPieArriveUptoRow.holds Try.pinned (OpenSpec.upto fnExactPieArriveSpec)

/-- 'laws.FnExactFairOk', WHERE WHAT IT READS IS OF BULK AT MOST 1048576: true; the input reads as it did. -/
def fnExactFairOkUptoRow : OpenClaim := { program := "ytgmecbjdiinkian", sum := "bcd7fd2121d10208648f00a809f74022ffc00653320fe5e64046c909a2f6f920", func := "loop.example/g00453/laws.FnExactFairOk", spec := "fnExactFairOk", unfollowed := true, recurses := true, apart := false, narrowed := true }
def FnExactFairOkUptoSaid : Prop := fnExactFairOkUptoRow.holds Try.pinned (OpenSpec.upto fnExactFairOkSpec)

/-- 'laws.FnExactFairNew', WHERE WHAT IT READS IS OF BULK AT MOST 1048576: true; the input reads as it did. -/
def fnExactFairNewUptoRow : OpenClaim := { program := "ytgmecbjdiinkian", sum := "bcd7fd2121d10208648f00a809f74022ffc00653320fe5e64046c909a2f6f920", func := "loop.example/g00453/laws.FnExactFairNew", spec := "fnExactFairNew", unfollowed := true, recurses := true, apart := false, narrowed := true }
def FnExactFairNewUptoSaid : Prop := fnExactFairNewUptoRow.holds Try.pinned (OpenSpec.upto fnExactFairNewSpec)

end Rows
end Go.Proofs.Ytgmecbjdiinkian
