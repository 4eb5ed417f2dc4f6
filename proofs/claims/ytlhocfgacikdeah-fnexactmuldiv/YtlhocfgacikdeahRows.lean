/-
  No cell of these rows narrows 'for every input' (looked for: loops, veiled, ifaces, maps, wideKeys, modest, calm, conditions, laid).
  DERIVED. THE GIVEN ROWS OF THIS SEAT. 6 by the template 'for every input the law returns true; each argument reads behind the call as it read before'; 0 by the template 'total and deterministic' (their statements: YtlhocfgacikdeahTotals.lean).
  GIVEN WITH THE SEED: the statements are not yours to turn. If you find one false, say at which input.
  Laid BY PROGRAM, IN A SANDBOX (cutbox-rows.mjs): the forced cells as the released guide's own fill.sh prints them over the translation 20ce02e8f0e78263… (all of the seat's roots in one cut). By AI agents, Wed Nov 11 2026. No macro, syntax, notation, axiom, sorry.
-/
import Derived.Test.YtlhocfgacikdeahChecked
import GoSem.Claim
import GoSem.ClaimJoined
import GoSem.ClaimMapViews
import Derived.JoinedTies
import Derived.KernelRfl
namespace Go.Proofs.Ytlhocfgacikdeah
/- THE CELL 'sum', in the pinned program and in every row, IS THE sha256 OF THE DUMP (.gsa) THAT YtlhocfgacikdeahProg.lean LOADS. Nothing in Lean hashes anything: it is a label: what it is worth is what the hold of that sum in a sandbox is worth. -/
noncomputable def Try.pinned : Pinned := { name := "ytlhocfgacikdeah", sum := "20ce02e8f0e782633266638cdb26e97631ef31f931cfaa60d692d3b9970df5a8", checked := Try.checked }
namespace Rows
def none {H : Type} : Left H := { results := [], args := [] }

/-- 'laws.FnExactMulDiv': WHATEVER THE INPUT: true; the input reads as it did. -/
def fnExactMulDivSpec : ChangeSpec := { name := "fnExactMulDiv", fn := fun _ => fun
  | [d1, d2, d3] => { results := [.lit (.bool true)], args := [d1, d2, d3] }
  | _ => none }
def fnExactMulDivRow : OpenClaim := { program := "ytlhocfgacikdeah", sum := "20ce02e8f0e782633266638cdb26e97631ef31f931cfaa60d692d3b9970df5a8", func := "loop.example/g00453/laws.FnExactMulDiv", spec := "fnExactMulDiv", named := ["math/bits.divideError", "math/bits.overflowError"], apart := false }
def FnExactMulDivSaid : Prop := fnExactMulDivRow.holds Try.pinned (OpenSpec.ofChange fnExactMulDivSpec)

/-- ITS FALSE NEIGHBOUR: 'it returns false'. Refute it at one input. -/
def fnExactMulDivWrong : ChangeSpec := { name := "fnExactMulDiv", fn := fun _ => fun
  | [d1, d2, d3] => { results := [.lit (.bool false)], args := [d1, d2, d3] }
  | _ => none }
def FnExactMulDivWrongFalsely : Prop := fnExactMulDivRow.holds Try.pinned (OpenSpec.ofChange fnExactMulDivWrong)

/-- 'laws.FnExactRoot2': WHATEVER THE INPUT: true; the input reads as it did. -/
def fnExactRoot2Spec : ChangeSpec := { name := "fnExactRoot2", fn := fun _ => fun
  | [d] => { results := [.lit (.bool true)], args := [d] }
  | _ => none }
def fnExactRoot2Row : OpenClaim := { program := "ytlhocfgacikdeah", sum := "20ce02e8f0e782633266638cdb26e97631ef31f931cfaa60d692d3b9970df5a8", func := "loop.example/g00453/laws.FnExactRoot2", spec := "fnExactRoot2", unfollowed := true, recurses := true, apart := false }
def FnExactRoot2Said : Prop := fnExactRoot2Row.holds Try.pinned (OpenSpec.ofChange fnExactRoot2Spec)

/-- ITS FALSE NEIGHBOUR: 'it returns false'. Refute it at one input. -/
def fnExactRoot2Wrong : ChangeSpec := { name := "fnExactRoot2", fn := fun _ => fun
  | [d] => { results := [.lit (.bool false)], args := [d] }
  | _ => none }
def FnExactRoot2WrongFalsely : Prop := fnExactRoot2Row.holds Try.pinned (OpenSpec.ofChange fnExactRoot2Wrong)

/-- 'laws.FnExactRoot3': WHATEVER THE INPUT: true; the input reads as it did. -/
def fnExactRoot3Spec : ChangeSpec := { name := "fnExactRoot3", fn := fun _ => fun
  | [d] => { results := [.lit (.bool true)], args := [d] }
  | _ => none }
def fnExactRoot3Row : OpenClaim := { program := "ytlhocfgacikdeah", sum := "20ce02e8f0e782633266638cdb26e97631ef31f931cfaa60d692d3b9970df5a8", func := "loop.example/g00453/laws.FnExactRoot3", spec := "fnExactRoot3", unfollowed := true, recurses := true, apart := false }
def FnExactRoot3Said : Prop := fnExactRoot3Row.holds Try.pinned (OpenSpec.ofChange fnExactRoot3Spec)

/-- ITS FALSE NEIGHBOUR: 'it returns false'. Refute it at one input. -/
def fnExactRoot3Wrong : ChangeSpec := { name := "fnExactRoot3", fn := fun _ => fun
  | [d] => { results := [.lit (.bool false)], args := [d] }
  | _ => none }
def FnExactRoot3WrongFalsely : Prop := fnExactRoot3Row.holds Try.pinned (OpenSpec.ofChange fnExactRoot3Wrong)

/-- 'laws.FnExactInvRoot': WHATEVER THE INPUT: true; the input reads as it did. -/
def fnExactInvRootSpec : ChangeSpec := { name := "fnExactInvRoot", fn := fun _ => fun
  | [d] => { results := [.lit (.bool true)], args := [d] }
  | _ => none }
def fnExactInvRootRow : OpenClaim := { program := "ytlhocfgacikdeah", sum := "20ce02e8f0e782633266638cdb26e97631ef31f931cfaa60d692d3b9970df5a8", func := "loop.example/g00453/laws.FnExactInvRoot", spec := "fnExactInvRoot", unfollowed := true, recurses := true, apart := false }
def FnExactInvRootSaid : Prop := fnExactInvRootRow.holds Try.pinned (OpenSpec.ofChange fnExactInvRootSpec)

/-- ITS FALSE NEIGHBOUR: 'it returns false'. Refute it at one input. -/
def fnExactInvRootWrong : ChangeSpec := { name := "fnExactInvRoot", fn := fun _ => fun
  | [d] => { results := [.lit (.bool false)], args := [d] }
  | _ => none }
def FnExactInvRootWrongFalsely : Prop := fnExactInvRootRow.holds Try.pinned (OpenSpec.ofChange fnExactInvRootWrong)

/-- 'laws.FnExactBefore': WHATEVER THE INPUT: true; the input reads as it did. -/
def fnExactBeforeSpec : ChangeSpec := { name := "fnExactBefore", fn := fun _ => fun
  | [d1, d2] => { results := [.lit (.bool true)], args := [d1, d2] }
  | _ => none }
def fnExactBeforeRow : OpenClaim := { program := "ytlhocfgacikdeah", sum := "20ce02e8f0e782633266638cdb26e97631ef31f931cfaa60d692d3b9970df5a8", func := "loop.example/g00453/laws.FnExactBefore", spec := "fnExactBefore", apart := false }
def FnExactBeforeSaid : Prop := fnExactBeforeRow.holds Try.pinned (OpenSpec.ofChange fnExactBeforeSpec)

/-- ITS FALSE NEIGHBOUR: 'it returns false'. Refute it at one input. -/
def fnExactBeforeWrong : ChangeSpec := { name := "fnExactBefore", fn := fun _ => fun
  | [d1, d2] => { results := [.lit (.bool false)], args := [d1, d2] }
  | _ => none }
def FnExactBeforeWrongFalsely : Prop := fnExactBeforeRow.holds Try.pinned (OpenSpec.ofChange fnExactBeforeWrong)

/-- 'laws.FnExactApart': WHATEVER THE INPUT: true; the input reads as it did. -/
def fnExactApartSpec : ChangeSpec := { name := "fnExactApart", fn := fun _ => fun
  | [d1, d2] => { results := [.lit (.bool true)], args := [d1, d2] }
  | _ => none }
def fnExactApartRow : OpenClaim := { program := "ytlhocfgacikdeah", sum := "20ce02e8f0e782633266638cdb26e97631ef31f931cfaa60d692d3b9970df5a8", func := "loop.example/g00453/laws.FnExactApart", spec := "fnExactApart", apart := false }
def FnExactApartSaid : Prop := fnExactApartRow.holds Try.pinned (OpenSpec.ofChange fnExactApartSpec)

/-- ITS FALSE NEIGHBOUR: 'it returns false'. Refute it at one input. -/
def fnExactApartWrong : ChangeSpec := { name := "fnExactApart", fn := fun _ => fun
  | [d1, d2] => { results := [.lit (.bool false)], args := [d1, d2] }
  | _ => none }
def FnExactApartWrongFalsely : Prop := fnExactApartRow.holds Try.pinned (OpenSpec.ofChange fnExactApartWrong)

/- THE SECOND FORM. 'bulk': how many values and letters a reading holds, each counted each time it is reached (what is shared counts as often as it is met; a slice's spare places count too). A statement '..UptoSaid' is the law's where the arguments, and the package variables that the reading takes, are together of bulk at most 1048576: NARROWER than '..Said'. Prove '..Said' where nothing that the law and all that it calls make is longer than what came in: it says more and counts as full. Else prove '..UptoSaid'. A law counts once. -/
mutual
def uptoBulk {H : Type} : DataW H → Nat
  | .lit (.string bytes) => bytes.length + 1
  | .lit _ => 1
  | .nil => 1
  | .ptr d => uptoBulk d + 1
  | .slice elems spare => uptoBulkAll elems + uptoBulkAll spare + 1
  | .agg parts => uptoBulkAll parts + 1
  | .iface _ d => uptoBulk d + 1
  | .map entries => uptoBulkEntries entries + 1
  | .held _ => 1
def uptoBulkAll {H : Type} : List (DataW H) → Nat
  | [] => 0
  | d :: r => uptoBulk d + uptoBulkAll r
def uptoBulkEntries {H : Type} : List (Lit × DataW H) → Nat
  | [] => 0
  | x :: r => uptoBulkEntry x + uptoBulkEntries r
def uptoBulkEntry {H : Type} : Lit × DataW H → Nat
  | (.string bytes, d) => bytes.length + uptoBulk d + 1
  | (_, d) => uptoBulk d + 1
 end
def uptoSmall : (H : Type) → List (DataW H) → Bool := fun _ ds => decide (uptoBulkAll ds ≤ 1048576)
def OpenSpec.upto (s : _root_.Go.ChangeSpec) : _root_.Go.OpenSpec := { _root_.Go.OpenSpec.ofChange s with cond := some uptoSmall }

/-- 'laws.FnExactMulDiv', WHERE WHAT IT READS IS OF BULK AT MOST 1048576: true; the input reads as it did. -/
def fnExactMulDivUptoRow : OpenClaim := { program := "ytlhocfgacikdeah", sum := "20ce02e8f0e782633266638cdb26e97631ef31f931cfaa60d692d3b9970df5a8", func := "loop.example/g00453/laws.FnExactMulDiv", spec := "fnExactMulDiv", named := ["math/bits.divideError", "math/bits.overflowError"], apart := false, narrowed := true }
def FnExactMulDivUptoSaid : Prop := fnExactMulDivUptoRow.holds Try.pinned (OpenSpec.upto fnExactMulDivSpec)

/-- 'laws.FnExactRoot2', WHERE WHAT IT READS IS OF BULK AT MOST 1048576: true; the input reads as it did. -/
def fnExactRoot2UptoRow : OpenClaim := { program := "ytlhocfgacikdeah", sum := "20ce02e8f0e782633266638cdb26e97631ef31f931cfaa60d692d3b9970df5a8", func := "loop.example/g00453/laws.FnExactRoot2", spec := "fnExactRoot2", unfollowed := true, recurses := true, apart := false, narrowed := true }
def FnExactRoot2UptoSaid : Prop := fnExactRoot2UptoRow.holds Try.pinned (OpenSpec.upto fnExactRoot2Spec)

/-- 'laws.FnExactRoot3', WHERE WHAT IT READS IS OF BULK AT MOST 1048576: true; the input reads as it did. -/
def fnExactRoot3UptoRow : OpenClaim := { program := "ytlhocfgacikdeah", sum := "20ce02e8f0e782633266638cdb26e97631ef31f931cfaa60d692d3b9970df5a8", func := "loop.example/g00453/laws.FnExactRoot3", spec := "fnExactRoot3", unfollowed := true, recurses := true, apart := false, narrowed := true }
def FnExactRoot3UptoSaid : Prop := fnExactRoot3UptoRow.holds Try.pinned (OpenSpec.upto fnExactRoot3Spec)

/-- 'laws.FnExactInvRoot', WHERE WHAT IT READS IS OF BULK AT MOST 1048576: true; the input reads as it did. -/
def fnExactInvRootUptoRow : OpenClaim := { program := "ytlhocfgacikdeah", sum := "20ce02e8f0e782633266638cdb26e97631ef31f931cfaa60d692d3b9970df5a8", func := "loop.example/g00453/laws.FnExactInvRoot", spec := "fnExactInvRoot", unfollowed := true, recurses := true, apart := false, narrowed := true }
def FnExactInvRootUptoSaid : Prop := fnExactInvRootUptoRow.holds Try.pinned (OpenSpec.upto fnExactInvRootSpec)

/-- 'laws.FnExactBefore', WHERE WHAT IT READS IS OF BULK AT MOST 1048576: true; the input reads as it did. -/
def fnExactBeforeUptoRow : OpenClaim := { program := "ytlhocfgacikdeah", sum := "20ce02e8f0e782633266638cdb26e97631ef31f931cfaa60d692d3b9970df5a8", func := "loop.example/g00453/laws.FnExactBefore", spec := "fnExactBefore", apart := false, narrowed := true }
def FnExactBeforeUptoSaid : Prop := fnExactBeforeUptoRow.holds Try.pinned (OpenSpec.upto fnExactBeforeSpec)

/-- 'laws.FnExactApart', WHERE WHAT IT READS IS OF BULK AT MOST 1048576: true; the input reads as it did. -/
def fnExactApartUptoRow : OpenClaim := { program := "ytlhocfgacikdeah", sum := "20ce02e8f0e782633266638cdb26e97631ef31f931cfaa60d692d3b9970df5a8", func := "loop.example/g00453/laws.FnExactApart", spec := "fnExactApart", apart := false, narrowed := true }
def FnExactApartUptoSaid : Prop := fnExactApartUptoRow.holds Try.pinned (OpenSpec.upto fnExactApartSpec)

end Rows
end Go.Proofs.Ytlhocfgacikdeah
