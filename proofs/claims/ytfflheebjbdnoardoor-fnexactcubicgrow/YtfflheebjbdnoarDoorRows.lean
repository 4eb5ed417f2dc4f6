/-
  NARROWER THAN 'FOR EVERY INPUT', by the rows' own cells (each row's printed sentence says how): FnExactCubicGrow: ifaces, laid · FnExactCubicLoss: ifaces, laid.
  DERIVED. THE GIVEN ROWS OF THIS SEAT. 2 by the template 'for every input the law returns true; each argument reads behind the call as it read before'; 0 by the template 'total and deterministic' (their statements: YtfflheebjbdnoarDoorTotals.lean).
  GIVEN WITH THE SEED: the statements are not yours to turn. If you find one false, say at which input.
  Laid BY PROGRAM, IN A SANDBOX (cutbox-rows.mjs): the forced cells as the released guide's own fill.sh prints them over the translation e9442cd84b07dacc… (all of the seat's roots in one cut). By AI agents, Wed Nov 11 2026. No macro, syntax, notation, axiom, sorry.
-/
import Derived.Test.YtfflheebjbdnoarDoorChecked
import GoSem.Claim
import GoSem.ClaimJoined
import GoSem.ClaimMapViews
import Derived.JoinedTies
import Derived.KernelRfl
namespace Go.Proofs.YtfflheebjbdnoarDoor
/- THE CELL 'sum', in the pinned program and in every row, IS THE sha256 OF THE DUMP (.gsa) THAT YtfflheebjbdnoarDoorProg.lean LOADS. Nothing in Lean hashes anything: it is a label: what it is worth is what the hold of that sum in a sandbox is worth. -/
noncomputable def Tryd.pinned : Pinned := { name := "ytfflheebjbdnoardoor", sum := "e9442cd84b07dacc9f2813f03344d7e8c685081eb95856e249a798309e079536", checked := Tryd.checked }
namespace Rows
def none {H : Type} : Left H := { results := [], args := [] }

/- WHAT THE LISTED PACKAGE-LEVEL VARIABLES READ AS WHEN THE CALL BEGINS. Each datum BY PROGRAM (the guide's laid-datum.mjs) off the statement by which the dump's own 'gosem.cut.vars' lays the variable. In a bare row this is a premise. The card (YtfflheebjbdnoarDoorCards.lean) ties it to the program's text. -/
def laid_loop_example_g00453_impl_errNoRoom {H : Type} : DataW H := .iface "*errors.errorString" (.ptr (.agg [.lit (.string [116, 104, 101, 32, 119, 105, 110, 100, 111, 119, 32, 104, 97, 115, 32, 110, 111, 32, 114, 111, 111, 109, 32, 116, 111, 32, 103, 114, 111, 119])]))
def laid_loop_example_g00453_impl_errNoStep {H : Type} : DataW H := .iface "*errors.errorString" (.ptr (.agg [.lit (.string [116, 104, 101, 32, 115, 101, 110, 100, 101, 114, 32, 111, 114, 32, 116, 104, 101, 32, 116, 105, 109, 101, 32, 105, 115, 32, 110, 111, 116, 32, 97, 115, 32, 105, 116, 32, 115, 104, 111, 117, 108, 100, 32, 98, 101])]))

/-- 'laws.FnExactCubicGrow': WHATEVER THE INPUT: true; the input reads as it did. -/
def fnExactCubicGrowSpec : ChangeSpec := { name := "fnExactCubicGrow", vars := ["loop.example/g00453/impl.errNoStep", "loop.example/g00453/impl.errNoRoom"], fn := fun _ => fun
  | [d1, d2, g1, g2] => { results := [.lit (.bool true)], args := [d1, d2], vars := [g1, g2] }
  | _ => none }
def fnExactCubicGrowRow : OpenClaim := { program := "ytfflheebjbdnoardoor", sum := "e9442cd84b07dacc9f2813f03344d7e8c685081eb95856e249a798309e079536", func := "loop.example/g00453/laws.FnExactCubicGrow", spec := "fnExactCubicGrow", unfollowed := true, recurses := true, named := ["loop.example/g00453/impl.errNoStep", "loop.example/g00453/impl.errNoRoom"], ifaces := true, apart := false, laid := [("loop.example/g00453/impl.errNoRoom", laid_loop_example_g00453_impl_errNoRoom), ("loop.example/g00453/impl.errNoStep", laid_loop_example_g00453_impl_errNoStep)] }
def FnExactCubicGrowSaid : Prop := fnExactCubicGrowRow.holds Tryd.pinned (OpenSpec.ofChange fnExactCubicGrowSpec)

/-- ITS FALSE NEIGHBOUR: 'it returns false'. Refute it at one input. -/
def fnExactCubicGrowWrong : ChangeSpec := { name := "fnExactCubicGrow", vars := ["loop.example/g00453/impl.errNoStep", "loop.example/g00453/impl.errNoRoom"], fn := fun _ => fun
  | [d1, d2, g1, g2] => { results := [.lit (.bool false)], args := [d1, d2], vars := [g1, g2] }
  | _ => none }
def FnExactCubicGrowWrongFalsely : Prop := fnExactCubicGrowRow.holds Tryd.pinned (OpenSpec.ofChange fnExactCubicGrowWrong)

/-- 'laws.FnExactCubicLoss': WHATEVER THE INPUT: true; the input reads as it did. -/
def fnExactCubicLossSpec : ChangeSpec := { name := "fnExactCubicLoss", vars := ["loop.example/g00453/impl.errNoRoom", "loop.example/g00453/impl.errNoStep"], fn := fun _ => fun
  | [d1, d2, g1, g2] => { results := [.lit (.bool true)], args := [d1, d2], vars := [g1, g2] }
  | _ => none }
def fnExactCubicLossRow : OpenClaim := { program := "ytfflheebjbdnoardoor", sum := "e9442cd84b07dacc9f2813f03344d7e8c685081eb95856e249a798309e079536", func := "loop.example/g00453/laws.FnExactCubicLoss", spec := "fnExactCubicLoss", inPlace := ["internal/reflectlite.TypeOf"], unfollowed := true, recurses := true, named := ["loop.example/g00453/impl.errNoRoom", "loop.example/g00453/impl.errNoStep"], ifaces := true, apart := false, laid := [("loop.example/g00453/impl.errNoRoom", laid_loop_example_g00453_impl_errNoRoom), ("loop.example/g00453/impl.errNoStep", laid_loop_example_g00453_impl_errNoStep)] }
def FnExactCubicLossSaid : Prop := fnExactCubicLossRow.holds Tryd.pinned (OpenSpec.ofChange fnExactCubicLossSpec)

/-- ITS FALSE NEIGHBOUR: 'it returns false'. Refute it at one input. -/
def fnExactCubicLossWrong : ChangeSpec := { name := "fnExactCubicLoss", vars := ["loop.example/g00453/impl.errNoRoom", "loop.example/g00453/impl.errNoStep"], fn := fun _ => fun
  | [d1, d2, g1, g2] => { results := [.lit (.bool false)], args := [d1, d2], vars := [g1, g2] }
  | _ => none }
def FnExactCubicLossWrongFalsely : Prop := fnExactCubicLossRow.holds Tryd.pinned (OpenSpec.ofChange fnExactCubicLossWrong)

/- THE SECOND FORM. 'bulk': how many values and letters a reading holds, each counted each time it is reached (what is shared counts as often as it is met; a slice's spare places count too). A statement '..UptoSaid' is the law's where the arguments, and the package variables that the reading takes, are together of bulk at most 1048576: NARROWER than '..Said'. Prove '..Said' where nothing that the law and all that it calls make is longer than what came in: it says more and counts as full. Else prove '..UptoSaid'. A law counts once. -/
mutual
def uptoBulk {H : Type} : DataW H → Nat
  | .lit (.string bytes) => bytes.length + 1
  | .lit _ => 1
  | .nil => 1
  | .ptr d => uptoBulk d + 1
  | .slice elems spare => uptoBulkAll elems + uptoBulkAll spare + 1
  | .agg parts => uptoBulkAll parts + 1
  | .iface _ d => uptoBulk d + 1
  | .map entries => uptoBulkEntries entries + 1
  | .held _ => 1
def uptoBulkAll {H : Type} : List (DataW H) → Nat
  | [] => 0
  | d :: r => uptoBulk d + uptoBulkAll r
def uptoBulkEntries {H : Type} : List (Lit × DataW H) → Nat
  | [] => 0
  | x :: r => uptoBulkEntry x + uptoBulkEntries r
def uptoBulkEntry {H : Type} : Lit × DataW H → Nat
  | (.string bytes, d) => bytes.length + uptoBulk d + 1
  | (_, d) => uptoBulk d + 1
 end
def uptoSmall : (H : Type) → List (DataW H) → Bool := fun _ ds => decide (uptoBulkAll ds ≤ 1048576)
def OpenSpec.upto (s : _root_.Go.ChangeSpec) : _root_.Go.OpenSpec := { _root_.Go.OpenSpec.ofChange s with cond := some uptoSmall }

/-- 'laws.FnExactCubicGrow', WHERE WHAT IT READS IS OF BULK AT MOST 1048576: true; the input reads as it did. -/
def fnExactCubicGrowUptoRow : OpenClaim := { program := "ytfflheebjbdnoardoor", sum := "e9442cd84b07dacc9f2813f03344d7e8c685081eb95856e249a798309e079536", func := "loop.example/g00453/laws.FnExactCubicGrow", spec := "fnExactCubicGrow", unfollowed := true, recurses := true, named := ["loop.example/g00453/impl.errNoStep", "loop.example/g00453/impl.errNoRoom"], ifaces := true, apart := false, laid := [("loop.example/g00453/impl.errNoRoom", laid_loop_example_g00453_impl_errNoRoom), ("loop.example/g00453/impl.errNoStep", laid_loop_example_g00453_impl_errNoStep)], narrowed := true }
def FnExactCubicGrowUptoSaid : Prop := fnExactCubicGrowUptoRow.holds Tryd.pinned (OpenSpec.upto fnExactCubicGrowSpec)

/-- 'laws.FnExactCubicLoss', WHERE WHAT IT READS IS OF BULK AT MOST 1048576: true; the input reads as it did. -/
def fnExactCubicLossUptoRow : OpenClaim := { program := "ytfflheebjbdnoardoor", sum := "e9442cd84b07dacc9f2813f03344d7e8c685081eb95856e249a798309e079536", func := "loop.example/g00453/laws.FnExactCubicLoss", spec := "fnExactCubicLoss", inPlace := ["internal/reflectlite.TypeOf"], unfollowed := true, recurses := true, named := ["loop.example/g00453/impl.errNoRoom", "loop.example/g00453/impl.errNoStep"], ifaces := true, apart := false, laid := [("loop.example/g00453/impl.errNoRoom", laid_loop_example_g00453_impl_errNoRoom), ("loop.example/g00453/impl.errNoStep", laid_loop_example_g00453_impl_errNoStep)], narrowed := true }
def FnExactCubicLossUptoSaid : Prop := fnExactCubicLossUptoRow.holds Tryd.pinned (OpenSpec.upto fnExactCubicLossSpec)

end Rows
end Go.Proofs.YtfflheebjbdnoarDoor
