/-
  NARROWER THAN 'FOR EVERY INPUT', by the rows' own cells (each row's printed sentence says how): FnExactPieScale: laid · FnExactPieUpdate: laid.
  DERIVED. THE GIVEN ROWS OF THIS SEAT. 2 by the template 'for every input the law returns true; each argument reads behind the call as it read before'; 0 by the template 'total and deterministic' (their statements: YtkeccjomnmpcoanDoorTotals.lean).
  GIVEN WITH THE SEED: the statements are not yours to turn. If you find one false, say at which input.
  Laid BY PROGRAM, IN A SANDBOX (cutbox-rows.mjs): the forced cells as the released guide's own fill.sh prints them over the translation d5a58ff1c2d2a4df… (all of the seat's roots in one cut). By AI agents, Wed Nov 11 2026. No macro, syntax, notation, axiom, sorry.
-/
import Derived.Test.YtkeccjomnmpcoanDoorChecked
import GoSem.Claim
import GoSem.ClaimJoined
import GoSem.ClaimMapViews
import Derived.JoinedTies
import Derived.KernelRfl
namespace Go.Proofs.YtkeccjomnmpcoanDoor
/- THE CELL 'sum', in the pinned program and in every row, IS THE sha256 OF THE DUMP (.gsa) THAT YtkeccjomnmpcoanDoorProg.lean LOADS. Nothing in Lean hashes anything: it is a label: what it is worth is what the hold of that sum in a sandbox is worth. -/
noncomputable def Tryd.pinned : Pinned := { name := "ytkeccjomnmpcoandoor", sum := "d5a58ff1c2d2a4df35e20728cb88a02e20dd237fb4426b79e0b39c7ef8a2e723", checked := Tryd.checked }
namespace Rows
def none {H : Type} : Left H := { results := [], args := [] }

/- WHAT THE LISTED PACKAGE-LEVEL VARIABLES READ AS WHEN THE CALL BEGINS. Each datum BY PROGRAM (the guide's laid-datum.mjs) off the statement by which the dump's own 'gosem.cut.vars' lays the variable. In a bare row this is a premise. The card (YtkeccjomnmpcoanDoorCards.lean) ties it to the program's text. -/
def laid_loop_example_g00453_impl_pieSteps {H : Type} : DataW H := .agg [.agg [.lit (.int .i64 1000000), .lit (.int .i64 2048)], .agg [.lit (.int .i64 100000), .lit (.int .i64 512)], .agg [.lit (.int .i64 10000), .lit (.int .i64 128)], .agg [.lit (.int .i64 1000), .lit (.int .i64 32)], .agg [.lit (.int .i64 100), .lit (.int .i64 8)], .agg [.lit (.int .i64 10), .lit (.int .i64 2)]]

/-- 'laws.FnExactPieScale': WHATEVER THE INPUT: true; the input reads as it did. -/
def fnExactPieScaleSpec : ChangeSpec := { name := "fnExactPieScale", vars := ["loop.example/g00453/impl.pieSteps"], fn := fun _ => fun
  | [d, g1] => { results := [.lit (.bool true)], args := [d], vars := [g1] }
  | _ => none }
def fnExactPieScaleRow : OpenClaim := { program := "ytkeccjomnmpcoandoor", sum := "d5a58ff1c2d2a4df35e20728cb88a02e20dd237fb4426b79e0b39c7ef8a2e723", func := "loop.example/g00453/laws.FnExactPieScale", spec := "fnExactPieScale", named := ["loop.example/g00453/impl.pieSteps"], apart := false, laid := [("loop.example/g00453/impl.pieSteps", laid_loop_example_g00453_impl_pieSteps)] }
def FnExactPieScaleSaid : Prop := fnExactPieScaleRow.holds Tryd.pinned (OpenSpec.ofChange fnExactPieScaleSpec)

/-- ITS FALSE NEIGHBOUR: 'it returns false'. Refute it at one input. -/
def fnExactPieScaleWrong : ChangeSpec := { name := "fnExactPieScale", vars := ["loop.example/g00453/impl.pieSteps"], fn := fun _ => fun
  | [d, g1] => { results := [.lit (.bool false)], args := [d], vars := [g1] }
  | _ => none }
def FnExactPieScaleWrongFalsely : Prop := fnExactPieScaleRow.holds Tryd.pinned (OpenSpec.ofChange fnExactPieScaleWrong)

/-- 'laws.FnExactPieUpdate': WHATEVER THE INPUT: true; the input reads as it did. -/
def fnExactPieUpdateSpec : ChangeSpec := { name := "fnExactPieUpdate", vars := ["loop.example/g00453/impl.pieSteps"], fn := fun _ => fun
  | [d1, d2, g1] => { results := [.lit (.bool true)], args := [d1, d2], vars := [g1] }
  | _ => none }
def fnExactPieUpdateRow : OpenClaim := { program := "ytkeccjomnmpcoandoor", sum := "d5a58ff1c2d2a4df35e20728cb88a02e20dd237fb4426b79e0b39c7ef8a2e723", func := "loop.example/g00453/laws.FnExactPieUpdate", spec := "fnExactPieUpdate", named := ["loop.example/g00453/impl.pieSteps"], apart := false, laid := [("loop.example/g00453/impl.pieSteps", laid_loop_example_g00453_impl_pieSteps)] }
def FnExactPieUpdateSaid : Prop := fnExactPieUpdateRow.holds Tryd.pinned (OpenSpec.ofChange fnExactPieUpdateSpec)

/-- ITS FALSE NEIGHBOUR: 'it returns false'. Refute it at one input. -/
def fnExactPieUpdateWrong : ChangeSpec := { name := "fnExactPieUpdate", vars := ["loop.example/g00453/impl.pieSteps"], fn := fun _ => fun
  | [d1, d2, g1] => { results := [.lit (.bool false)], args := [d1, d2], vars := [g1] }
  | _ => none }
def FnExactPieUpdateWrongFalsely : Prop := fnExactPieUpdateRow.holds Tryd.pinned (OpenSpec.ofChange fnExactPieUpdateWrong)

/- THE SECOND FORM. 'bulk': how many values and letters a reading holds, each counted each time it is reached (what is shared counts as often as it is met; a slice's spare places count too). A statement '..UptoSaid' is the law's where the arguments, and the package variables that the reading takes, are together of bulk at most 1048576: NARROWER than '..Said'. Prove '..Said' where nothing that the law and all that it calls make is longer than what came in: it says more and counts as full. Else prove '..UptoSaid'. A law counts once. -/
mutual
def uptoBulk {H : Type} : DataW H → Nat
  | .lit (.string bytes) => bytes.length + 1
  | .lit _ => 1
  | .nil => 1
  | .ptr d => uptoBulk d + 1
  | .slice elems spare => uptoBulkAll elems + uptoBulkAll spare + 1
  | .agg parts => uptoBulkAll parts + 1
  | .iface _ d => uptoBulk d + 1
  | .map entries => uptoBulkEntries entries + 1
  | .held _ => 1
def uptoBulkAll {H : Type} : List (DataW H) → Nat
  | [] => 0
  | d :: r => uptoBulk d + uptoBulkAll r
def uptoBulkEntries {H : Type} : List (Lit × DataW H) → Nat
  | [] => 0
  | x :: r => uptoBulkEntry x + uptoBulkEntries r
def uptoBulkEntry {H : Type} : Lit × DataW H → Nat
  | (.string bytes, d) => bytes.length + uptoBulk d + 1
  | (_, d) => uptoBulk d + 1
 end
def uptoSmall : (H : Type) → List (DataW H) → Bool := fun _ ds => decide (uptoBulkAll ds ≤ 1048576)
def OpenSpec.upto (s : _root_.Go.ChangeSpec) : _root_.Go.OpenSpec := { _root_.Go.OpenSpec.ofChange s with cond := some uptoSmall }

/-- 'laws.FnExactPieScale', WHERE WHAT IT READS IS OF BULK AT MOST 1048576: true; the input reads as it did. -/
def fnExactPieScaleUptoRow : OpenClaim := { program := "ytkeccjomnmpcoandoor", sum := "d5a58ff1c2d2a4df35e20728cb88a02e20dd237fb4426b79e0b39c7ef8a2e723", func := "loop.example/g00453/laws.FnExactPieScale", spec := "fnExactPieScale", named := ["loop.example/g00453/impl.pieSteps"], apart := false, laid := [("loop.example/g00453/impl.pieSteps", laid_loop_example_g00453_impl_pieSteps)], narrowed := true }
def FnExactPieScaleUptoSaid : Prop := fnExactPieScaleUptoRow.holds Tryd.pinned (OpenSpec.upto fnExactPieScaleSpec)

/-- 'laws.FnExactPieUpdate', WHERE WHAT IT READS IS OF BULK AT MOST 1048576: true; the input reads as it did. -/
def fnExactPieUpdateUptoRow : OpenClaim := { program := "ytkeccjomnmpcoandoor", sum := "d5a58ff1c2d2a4df35e20728cb88a02e20dd237fb4426b79e0b39c7ef8a2e723", func := "loop.example/g00453/laws.FnExactPieUpdate", spec := "fnExactPieUpdate", named := ["loop.example/g00453/impl.pieSteps"], apart := false, laid := [("loop.example/g00453/impl.pieSteps", laid_loop_example_g00453_impl_pieSteps)], narrowed := true }
def FnExactPieUpdateUptoSaid : Prop := fnExactPieUpdateUptoRow.holds Tryd.pinned (OpenSpec.upto fnExactPieUpdateSpec)

end Rows
end Go.Proofs.YtkeccjomnmpcoanDoor
