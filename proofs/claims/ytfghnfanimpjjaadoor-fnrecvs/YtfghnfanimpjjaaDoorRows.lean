/-
  NARROWER THAN 'FOR EVERY INPUT', by the rows' own cells (each row's printed sentence says how): FnRecvs: ifaces, laid.
  DERIVED. THE GIVEN ROWS OF THIS SEAT. 1 by the template 'for every input the law returns true; each argument reads behind the call as it read before'; 0 by the template 'total and deterministic' (their statements: YtfghnfanimpjjaaDoorTotals.lean).
  GIVEN WITH THE SEED: the statements are not yours to turn. If you find one false, say at which input.
  Laid BY PROGRAM, IN A SANDBOX (cutbox-rows.mjs): the forced cells as the released guide's own fill.sh prints them over the translation 59cc21f379556d41… (all of the seat's roots in one cut). By AI agents, Wed Nov 11 2026. No macro, syntax, notation, axiom, sorry.
-/
import Derived.Test.YtfghnfanimpjjaaDoorChecked
import GoSem.Claim
import GoSem.ClaimJoined
import GoSem.ClaimMapViews
import Derived.JoinedTies
import Derived.KernelRfl
namespace Go.Proofs.YtfghnfanimpjjaaDoor
/- THE CELL 'sum', in the pinned program and in every row, IS THE sha256 OF THE DUMP (.gsa) THAT YtfghnfanimpjjaaDoorProg.lean LOADS. Nothing in Lean hashes anything: it is a label: what it is worth is what the hold of that sum in a sandbox is worth. -/
noncomputable def Tryd.pinned : Pinned := { name := "ytfghnfanimpjjaadoor", sum := "59cc21f379556d41015a0d681c6d4e1e3424cdf455bb4993c936cdd3c3112d67", checked := Tryd.checked }
namespace Rows
def none {H : Type} : Left H := { results := [], args := [] }

/- WHAT THE LISTED PACKAGE-LEVEL VARIABLES READ AS WHEN THE CALL BEGINS. Each datum BY PROGRAM (the guide's laid-datum.mjs) off the statement by which the dump's own 'gosem.cut.vars' lays the variable. In a bare row this is a premise. The card (YtfghnfanimpjjaaDoorCards.lean) ties it to the program's text. -/
def laid_loop_example_g00453_impl_errNoSpan {H : Type} : DataW H := .iface "*errors.errorString" (.ptr (.agg [.lit (.string [105, 116, 32, 105, 115, 32, 110, 111, 32, 115, 112, 97, 110, 32, 98, 101, 104, 105, 110, 100, 32, 119, 104, 97, 116, 32, 105, 115, 32, 97, 104, 101, 97, 100, 32, 111, 102, 32, 105, 116])]))

/-- 'laws.FnRecvs': WHATEVER THE INPUT: true; the input reads as it did. -/
def fnRecvsSpec : ChangeSpec := { name := "fnRecvs", vars := ["loop.example/g00453/impl.errNoSpan"], fn := fun _ => fun
  | [d, g1] => { results := [.lit (.bool true)], args := [d], vars := [g1] }
  | _ => none }
def fnRecvsRow : OpenClaim := { program := "ytfghnfanimpjjaadoor", sum := "59cc21f379556d41015a0d681c6d4e1e3424cdf455bb4993c936cdd3c3112d67", func := "loop.example/g00453/laws.FnRecvs", spec := "fnRecvs", unfollowed := true, recurses := true, named := ["loop.example/g00453/impl.errNoSpan"], ifaces := true, apart := false, laid := [("loop.example/g00453/impl.errNoSpan", laid_loop_example_g00453_impl_errNoSpan)] }
def FnRecvsSaid : Prop := fnRecvsRow.holds Tryd.pinned (OpenSpec.ofChange fnRecvsSpec)

/-- ITS FALSE NEIGHBOUR: 'it returns false'. Refute it at one input. -/
def fnRecvsWrong : ChangeSpec := { name := "fnRecvs", vars := ["loop.example/g00453/impl.errNoSpan"], fn := fun _ => fun
  | [d, g1] => { results := [.lit (.bool false)], args := [d], vars := [g1] }
  | _ => none }
def FnRecvsWrongFalsely : Prop := fnRecvsRow.holds Tryd.pinned (OpenSpec.ofChange fnRecvsWrong)

/- THE SECOND FORM. 'bulk': how many values and letters a reading holds, each counted each time it is reached (what is shared counts as often as it is met; a slice's spare places count too). A statement '..UptoSaid' is the law's where the arguments, and the package variables that the reading takes, are together of bulk at most 1048576: NARROWER than '..Said'. Prove '..Said' where nothing that the law and all that it calls make is longer than what came in: it says more and counts as full. Else prove '..UptoSaid'. A law counts once. -/
mutual
def uptoBulk {H : Type} : DataW H → Nat
  | .lit (.string bytes) => bytes.length + 1
  | .lit _ => 1
  | .nil => 1
  | .ptr d => uptoBulk d + 1
  | .slice elems spare => uptoBulkAll elems + uptoBulkAll spare + 1
  | .agg parts => uptoBulkAll parts + 1
  | .iface _ d => uptoBulk d + 1
  | .map entries => uptoBulkEntries entries + 1
  | .held _ => 1
def uptoBulkAll {H : Type} : List (DataW H) → Nat
  | [] => 0
  | d :: r => uptoBulk d + uptoBulkAll r
def uptoBulkEntries {H : Type} : List (Lit × DataW H) → Nat
  | [] => 0
  | x :: r => uptoBulkEntry x + uptoBulkEntries r
def uptoBulkEntry {H : Type} : Lit × DataW H → Nat
  | (.string bytes, d) => bytes.length + uptoBulk d + 1
  | (_, d) => uptoBulk d + 1
 end
def uptoSmall : (H : Type) → List (DataW H) → Bool := fun _ ds => decide (uptoBulkAll ds ≤ 1048576)
def OpenSpec.upto (s : _root_.Go.ChangeSpec) : _root_.Go.OpenSpec := { _root_.Go.OpenSpec.ofChange s with cond := some uptoSmall }

/-- 'laws.FnRecvs', WHERE WHAT IT READS IS OF BULK AT MOST 1048576: true; the input reads as it did. -/
def fnRecvsUptoRow : OpenClaim := { program := "ytfghnfanimpjjaadoor", sum := "59cc21f379556d41015a0d681c6d4e1e3424cdf455bb4993c936cdd3c3112d67", func := "loop.example/g00453/laws.FnRecvs", spec := "fnRecvs", unfollowed := true, recurses := true, named := ["loop.example/g00453/impl.errNoSpan"], ifaces := true, apart := false, laid := [("loop.example/g00453/impl.errNoSpan", laid_loop_example_g00453_impl_errNoSpan)], narrowed := true }
def FnRecvsUptoSaid : Prop := fnRecvsUptoRow.holds Tryd.pinned (OpenSpec.upto fnRecvsSpec)

end Rows
end Go.Proofs.YtfghnfanimpjjaaDoor
