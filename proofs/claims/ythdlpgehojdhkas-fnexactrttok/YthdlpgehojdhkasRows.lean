/-
  No cell of these rows narrows 'for every input' (looked for: loops, veiled, ifaces, maps, wideKeys, modest, calm, conditions, laid).
  DERIVED. THE GIVEN ROWS OF THIS SEAT. 4 by the template 'for every input the law returns true; each argument reads behind the call as it read before'; 0 by the template 'total and deterministic' (their statements: YthdlpgehojdhkasTotals.lean).
  GIVEN WITH THE SEED: the statements are not yours to turn. If you find one false, say at which input.
  Laid BY PROGRAM, IN A SANDBOX (cutbox-rows.mjs): the forced cells as the released guide's own fill.sh prints them over the translation ea8dc01a33654ac2… (all of the seat's roots in one cut). By AI agents, Wed Nov 11 2026. No macro, syntax, notation, axiom, sorry.
-/
import Derived.Test.YthdlpgehojdhkasChecked
import GoSem.Claim
import GoSem.ClaimJoined
import GoSem.ClaimMapViews
import Derived.JoinedTies
import Derived.KernelRfl
namespace Go.Proofs.Ythdlpgehojdhkas
/- THE CELL 'sum', in the pinned program and in every row, IS THE sha256 OF THE DUMP (.gsa) THAT YthdlpgehojdhkasProg.lean LOADS. Nothing in Lean hashes anything: it is a label: what it is worth is what the hold of that sum in a sandbox is worth. -/
noncomputable def Try.pinned : Pinned := { name := "ythdlpgehojdhkas", sum := "ea8dc01a33654ac28c2fb6b630875d02523b51181b7d2862855fa8b6bd2227e2", checked := Try.checked }
namespace Rows
def none {H : Type} : Left H := { results := [], args := [] }

/-- 'laws.FnExactRttOk': WHATEVER THE INPUT: true; the input reads as it did. -/
def fnExactRttOkSpec : ChangeSpec := { name := "fnExactRttOk", fn := fun _ => fun
  | [d] => { results := [.lit (.bool true)], args := [d] }
  | _ => none }
def fnExactRttOkRow : OpenClaim := { program := "ythdlpgehojdhkas", sum := "ea8dc01a33654ac28c2fb6b630875d02523b51181b7d2862855fa8b6bd2227e2", func := "loop.example/g00453/laws.FnExactRttOk", spec := "fnExactRttOk", apart := false }
def FnExactRttOkSaid : Prop := fnExactRttOkRow.holds Try.pinned (OpenSpec.ofChange fnExactRttOkSpec)

/-- ITS FALSE NEIGHBOUR: 'it returns false'. Refute it at one input. -/
def fnExactRttOkWrong : ChangeSpec := { name := "fnExactRttOk", fn := fun _ => fun
  | [d] => { results := [.lit (.bool false)], args := [d] }
  | _ => none }
def FnExactRttOkWrongFalsely : Prop := fnExactRttOkRow.holds Try.pinned (OpenSpec.ofChange fnExactRttOkWrong)

/-- 'laws.FnExactRttNew': WHATEVER THE INPUT: true; the input reads as it did. -/
def fnExactRttNewSpec : ChangeSpec := { name := "fnExactRttNew", fn := fun _ => fun
  | [] => { results := [.lit (.bool true)], args := [] }
  | _ => none }
def fnExactRttNewRow : OpenClaim := { program := "ythdlpgehojdhkas", sum := "ea8dc01a33654ac28c2fb6b630875d02523b51181b7d2862855fa8b6bd2227e2", func := "loop.example/g00453/laws.FnExactRttNew", spec := "fnExactRttNew", apart := false }
def FnExactRttNewSaid : Prop := fnExactRttNewRow.holds Try.pinned (OpenSpec.ofChange fnExactRttNewSpec)

/-- ITS FALSE NEIGHBOUR: 'it returns false'. Refute it at one input. -/
def fnExactRttNewWrong : ChangeSpec := { name := "fnExactRttNew", fn := fun _ => fun
  | [] => { results := [.lit (.bool false)], args := [] }
  | _ => none }
def FnExactRttNewWrongFalsely : Prop := fnExactRttNewRow.holds Try.pinned (OpenSpec.ofChange fnExactRttNewWrong)

/-- 'laws.FnExactRttSample': WHATEVER THE INPUT: true; the input reads as it did. -/
def fnExactRttSampleSpec : ChangeSpec := { name := "fnExactRttSample", fn := fun _ => fun
  | [d1, d2] => { results := [.lit (.bool true)], args := [d1, d2] }
  | _ => none }
def fnExactRttSampleRow : OpenClaim := { program := "ythdlpgehojdhkas", sum := "ea8dc01a33654ac28c2fb6b630875d02523b51181b7d2862855fa8b6bd2227e2", func := "loop.example/g00453/laws.FnExactRttSample", spec := "fnExactRttSample", apart := false }
def FnExactRttSampleSaid : Prop := fnExactRttSampleRow.holds Try.pinned (OpenSpec.ofChange fnExactRttSampleSpec)

/-- ITS FALSE NEIGHBOUR: 'it returns false'. Refute it at one input. -/
def fnExactRttSampleWrong : ChangeSpec := { name := "fnExactRttSample", fn := fun _ => fun
  | [d1, d2] => { results := [.lit (.bool false)], args := [d1, d2] }
  | _ => none }
def FnExactRttSampleWrongFalsely : Prop := fnExactRttSampleRow.holds Try.pinned (OpenSpec.ofChange fnExactRttSampleWrong)

/-- 'laws.FnExactRttBackoff': WHATEVER THE INPUT: true; the input reads as it did. -/
def fnExactRttBackoffSpec : ChangeSpec := { name := "fnExactRttBackoff", fn := fun _ => fun
  | [d] => { results := [.lit (.bool true)], args := [d] }
  | _ => none }
def fnExactRttBackoffRow : OpenClaim := { program := "ythdlpgehojdhkas", sum := "ea8dc01a33654ac28c2fb6b630875d02523b51181b7d2862855fa8b6bd2227e2", func := "loop.example/g00453/laws.FnExactRttBackoff", spec := "fnExactRttBackoff", apart := false }
def FnExactRttBackoffSaid : Prop := fnExactRttBackoffRow.holds Try.pinned (OpenSpec.ofChange fnExactRttBackoffSpec)

/-- ITS FALSE NEIGHBOUR: 'it returns false'. Refute it at one input. -/
def fnExactRttBackoffWrong : ChangeSpec := { name := "fnExactRttBackoff", fn := fun _ => fun
  | [d] => { results := [.lit (.bool false)], args := [d] }
  | _ => none }
def FnExactRttBackoffWrongFalsely : Prop := fnExactRttBackoffRow.holds Try.pinned (OpenSpec.ofChange fnExactRttBackoffWrong)

/- THE SECOND FORM. 'bulk': how many values and letters a reading holds, each counted each time it is reached (what is shared counts as often as it is met; a slice's spare places count too). A statement '..UptoSaid' is the law's where the arguments, and the package variables that the reading takes, are together of bulk at most 1048576: NARROWER than '..Said'. Prove '..Said' where nothing that the law and all that it calls make is longer than what came in: it says more and counts as full. Else prove '..UptoSaid'. A law counts once. -/
mutual
def uptoBulk {H : Type} : DataW H → Nat
  | .lit (.string bytes) => bytes.length + 1
  | .lit _ => 1
  | .nil => 1
  | .ptr d => uptoBulk d + 1
  | .slice elems spare => uptoBulkAll elems + uptoBulkAll spare + 1
  | .agg parts => uptoBulkAll parts + 1
  | .iface _ d => uptoBulk d + 1
  | .map entries => uptoBulkEntries entries + 1
  | .held _ => 1
def uptoBulkAll {H : Type} : List (DataW H) → Nat
  | [] => 0
  | d :: r => uptoBulk d + uptoBulkAll r
def uptoBulkEntries {H : Type} : List (Lit × DataW H) → Nat
  | [] => 0
  | x :: r => uptoBulkEntry x + uptoBulkEntries r
def uptoBulkEntry {H : Type} : Lit × DataW H → Nat
  | (.string bytes, d) => bytes.length + uptoBulk d + 1
  | (_, d) => uptoBulk d + 1
 end
def uptoSmall : (H : Type) → List (DataW H) → Bool := fun _ ds => decide (uptoBulkAll ds ≤ 1048576)
def OpenSpec.upto (s : _root_.Go.ChangeSpec) : _root_.Go.OpenSpec := { _root_.Go.OpenSpec.ofChange s with cond := some uptoSmall }

/-- 'laws.FnExactRttOk', WHERE WHAT IT READS IS OF BULK AT MOST 1048576: true; the input reads as it did. -/
def fnExactRttOkUptoRow : OpenClaim := { program := "ythdlpgehojdhkas", sum := "ea8dc01a33654ac28c2fb6b630875d02523b51181b7d2862855fa8b6bd2227e2", func := "loop.example/g00453/laws.FnExactRttOk", spec := "fnExactRttOk", apart := false, narrowed := true }
def FnExactRttOkUptoSaid : Prop := fnExactRttOkUptoRow.holds Try.pinned (OpenSpec.upto fnExactRttOkSpec)

/-- 'laws.FnExactRttNew', WHERE WHAT IT READS IS OF BULK AT MOST 1048576: true; the input reads as it did. -/
def fnExactRttNewUptoRow : OpenClaim := { program := "ythdlpgehojdhkas", sum := "ea8dc01a33654ac28c2fb6b630875d02523b51181b7d2862855fa8b6bd2227e2", func := "loop.example/g00453/laws.FnExactRttNew", spec := "fnExactRttNew", apart := false, narrowed := true }
def FnExactRttNewUptoSaid : Prop := fnExactRttNewUptoRow.holds Try.pinned (OpenSpec.upto fnExactRttNewSpec)

/-- 'laws.FnExactRttSample', WHERE WHAT IT READS IS OF BULK AT MOST 1048576: true; the input reads as it did. -/
def fnExactRttSampleUptoRow : OpenClaim := { program := "ythdlpgehojdhkas", sum := "ea8dc01a33654ac28c2fb6b630875d02523b51181b7d2862855fa8b6bd2227e2", func := "loop.example/g00453/laws.FnExactRttSample", spec := "fnExactRttSample", apart := false, narrowed := true }
def FnExactRttSampleUptoSaid : Prop := fnExactRttSampleUptoRow.holds Try.pinned (OpenSpec.upto fnExactRttSampleSpec)

/-- 'laws.FnExactRttBackoff', WHERE WHAT IT READS IS OF BULK AT MOST 1048576: true; the input reads as it did. -/
def fnExactRttBackoffUptoRow : OpenClaim := { program := "ythdlpgehojdhkas", sum := "ea8dc01a33654ac28c2fb6b630875d02523b51181b7d2862855fa8b6bd2227e2", func := "loop.example/g00453/laws.FnExactRttBackoff", spec := "fnExactRttBackoff", apart := false, narrowed := true }
def FnExactRttBackoffUptoSaid : Prop := fnExactRttBackoffUptoRow.holds Try.pinned (OpenSpec.upto fnExactRttBackoffSpec)

end Rows
end Go.Proofs.Ythdlpgehojdhkas
