/-
  NARROWER THAN 'FOR EVERY INPUT', by the rows' own cells (each row's printed sentence says how): FnPies: laid · FnPieScales: laid.
  DERIVED. THE GIVEN ROWS OF THIS SEAT. 2 by the template 'for every input the law returns true; each argument reads behind the call as it read before'; 0 by the template 'total and deterministic' (their statements: YtkeccjomnmpcoacDoorTotals.lean).
  GIVEN WITH THE SEED: the statements are not yours to turn. If you find one false, say at which input.
  Laid BY PROGRAM, IN A SANDBOX (cutbox-rows.mjs): the forced cells as the released guide's own fill.sh prints them over the translation d7ffef3731eb2f0a… (all of the seat's roots in one cut). By AI agents, Wed Nov 11 2026. No macro, syntax, notation, axiom, sorry.
-/
import Derived.Test.YtkeccjomnmpcoacDoorChecked
import GoSem.Claim
import GoSem.ClaimJoined
import GoSem.ClaimMapViews
import Derived.JoinedTies
import Derived.KernelRfl
namespace Go.Proofs.YtkeccjomnmpcoacDoor
/- THE CELL 'sum', in the pinned program and in every row, IS THE sha256 OF THE DUMP (.gsa) THAT YtkeccjomnmpcoacDoorProg.lean LOADS. Nothing in Lean hashes anything: it is a label: what it is worth is what the hold of that sum in a sandbox is worth. -/
noncomputable def Tryd.pinned : Pinned := { name := "ytkeccjomnmpcoacdoor", sum := "d7ffef3731eb2f0a5fd6c8ffd277f62b96a2af6247a2ca4055f5fc8a6882b4ca", checked := Tryd.checked }
namespace Rows
def none {H : Type} : Left H := { results := [], args := [] }

/- WHAT THE LISTED PACKAGE-LEVEL VARIABLES READ AS WHEN THE CALL BEGINS. Each datum BY PROGRAM (the guide's laid-datum.mjs) off the statement by which the dump's own 'gosem.cut.vars' lays the variable. In a bare row this is a premise. The card (YtkeccjomnmpcoacDoorCards.lean) ties it to the program's text. -/
def laid_loop_example_g00453_impl_pieSteps {H : Type} : DataW H := .agg [.agg [.lit (.int .i64 1000000), .lit (.int .i64 2048)], .agg [.lit (.int .i64 100000), .lit (.int .i64 512)], .agg [.lit (.int .i64 10000), .lit (.int .i64 128)], .agg [.lit (.int .i64 1000), .lit (.int .i64 32)], .agg [.lit (.int .i64 100), .lit (.int .i64 8)], .agg [.lit (.int .i64 10), .lit (.int .i64 2)]]

/-- 'laws.FnPies': WHATEVER THE INPUT: true; the input reads as it did. -/
def fnPiesSpec : ChangeSpec := { name := "fnPies", vars := ["loop.example/g00453/impl.pieSteps"], fn := fun _ => fun
  | [d, g1] => { results := [.lit (.bool true)], args := [d], vars := [g1] }
  | _ => none }
def fnPiesRow : OpenClaim := { program := "ytkeccjomnmpcoacdoor", sum := "d7ffef3731eb2f0a5fd6c8ffd277f62b96a2af6247a2ca4055f5fc8a6882b4ca", func := "loop.example/g00453/laws.FnPies", spec := "fnPies", named := ["loop.example/g00453/impl.pieSteps"], apart := false, laid := [("loop.example/g00453/impl.pieSteps", laid_loop_example_g00453_impl_pieSteps)] }
def FnPiesSaid : Prop := fnPiesRow.holds Tryd.pinned (OpenSpec.ofChange fnPiesSpec)

/-- ITS FALSE NEIGHBOUR: 'it returns false'. Refute it at one input. -/
def fnPiesWrong : ChangeSpec := { name := "fnPies", vars := ["loop.example/g00453/impl.pieSteps"], fn := fun _ => fun
  | [d, g1] => { results := [.lit (.bool false)], args := [d], vars := [g1] }
  | _ => none }
def FnPiesWrongFalsely : Prop := fnPiesRow.holds Tryd.pinned (OpenSpec.ofChange fnPiesWrong)

/-- 'laws.FnPieScales': WHATEVER THE INPUT: true; the input reads as it did. -/
def fnPieScalesSpec : ChangeSpec := { name := "fnPieScales", vars := ["loop.example/g00453/impl.pieSteps"], fn := fun _ => fun
  | [d, g1] => { results := [.lit (.bool true)], args := [d], vars := [g1] }
  | _ => none }
def fnPieScalesRow : OpenClaim := { program := "ytkeccjomnmpcoacdoor", sum := "d7ffef3731eb2f0a5fd6c8ffd277f62b96a2af6247a2ca4055f5fc8a6882b4ca", func := "loop.example/g00453/laws.FnPieScales", spec := "fnPieScales", named := ["loop.example/g00453/impl.pieSteps"], apart := false, laid := [("loop.example/g00453/impl.pieSteps", laid_loop_example_g00453_impl_pieSteps)] }
def FnPieScalesSaid : Prop := fnPieScalesRow.holds Tryd.pinned (OpenSpec.ofChange fnPieScalesSpec)

/-- ITS FALSE NEIGHBOUR: 'it returns false'. Refute it at one input. -/
def fnPieScalesWrong : ChangeSpec := { name := "fnPieScales", vars := ["loop.example/g00453/impl.pieSteps"], fn := fun _ => fun
  | [d, g1] => { results := [.lit (.bool false)], args := [d], vars := [g1] }
  | _ => none }
def FnPieScalesWrongFalsely : Prop := fnPieScalesRow.holds Tryd.pinned (OpenSpec.ofChange fnPieScalesWrong)

/- THE SECOND FORM. 'bulk': how many values and letters a reading holds, each counted each time it is reached (what is shared counts as often as it is met; a slice's spare places count too). A statement '..UptoSaid' is the law's where the arguments, and the package variables that the reading takes, are together of bulk at most 1048576: NARROWER than '..Said'. Prove '..Said' where nothing that the law and all that it calls make is longer than what came in: it says more and counts as full. Else prove '..UptoSaid'. A law counts once. -/
mutual
def uptoBulk {H : Type} : DataW H → Nat
  | .lit (.string bytes) => bytes.length + 1
  | .lit _ => 1
  | .nil => 1
  | .ptr d => uptoBulk d + 1
  | .slice elems spare => uptoBulkAll elems + uptoBulkAll spare + 1
  | .agg parts => uptoBulkAll parts + 1
  | .iface _ d => uptoBulk d + 1
  | .map entries => uptoBulkEntries entries + 1
  | .held _ => 1
def uptoBulkAll {H : Type} : List (DataW H) → Nat
  | [] => 0
  | d :: r => uptoBulk d + uptoBulkAll r
def uptoBulkEntries {H : Type} : List (Lit × DataW H) → Nat
  | [] => 0
  | x :: r => uptoBulkEntry x + uptoBulkEntries r
def uptoBulkEntry {H : Type} : Lit × DataW H → Nat
  | (.string bytes, d) => bytes.length + uptoBulk d + 1
  | (_, d) => uptoBulk d + 1
 end
def uptoSmall : (H : Type) → List (DataW H) → Bool := fun _ ds => decide (uptoBulkAll ds ≤ 1048576)
def OpenSpec.upto (s : _root_.Go.ChangeSpec) : _root_.Go.OpenSpec := { _root_.Go.OpenSpec.ofChange s with cond := some uptoSmall }

/-- 'laws.FnPies', WHERE WHAT IT READS IS OF BULK AT MOST 1048576: true; the input reads as it did. -/
def fnPiesUptoRow : OpenClaim := { program := "ytkeccjomnmpcoacdoor", sum := "d7ffef3731eb2f0a5fd6c8ffd277f62b96a2af6247a2ca4055f5fc8a6882b4ca", func := "loop.example/g00453/laws.FnPies", spec := "fnPies", named := ["loop.example/g00453/impl.pieSteps"], apart := false, laid := [("loop.example/g00453/impl.pieSteps", laid_loop_example_g00453_impl_pieSteps)], narrowed := true }
def FnPiesUptoSaid : Prop := fnPiesUptoRow.holds Tryd.pinned (OpenSpec.upto fnPiesSpec)

/-- 'laws.FnPieScales', WHERE WHAT IT READS IS OF BULK AT MOST 1048576: true; the input reads as it did. -/
def fnPieScalesUptoRow : OpenClaim := { program := "ytkeccjomnmpcoacdoor", sum := "d7ffef3731eb2f0a5fd6c8ffd277f62b96a2af6247a2ca4055f5fc8a6882b4ca", func := "loop.example/g00453/laws.FnPieScales", spec := "fnPieScales", named := ["loop.example/g00453/impl.pieSteps"], apart := false, laid := [("loop.example/g00453/impl.pieSteps", laid_loop_example_g00453_impl_pieSteps)], narrowed := true }
def FnPieScalesUptoSaid : Prop := fnPieScalesUptoRow.holds Tryd.pinned (OpenSpec.upto fnPieScalesSpec)

end Rows
end Go.Proofs.YtkeccjomnmpcoacDoor
