/-
  No cell of these rows narrows 'for every input' (looked for: loops, veiled, ifaces, maps, wideKeys, modest, calm, conditions, laid).
  DERIVED. THE GIVEN ROWS OF THIS SEAT. 6 by the template 'for every input the law returns true; each argument reads behind the call as it read before'; 0 by the template 'total and deterministic' (their statements: YtgmecbjdiinkiamTotals.lean).
  GIVEN WITH THE SEED: the statements are not yours to turn. If you find one false, say at which input.
  Laid BY PROGRAM, IN A SANDBOX (cutbox-rows.mjs): the forced cells as the released guide's own fill.sh prints them over the translation d8dfc2e28dd3c099… (all of the seat's roots in one cut). By AI agents, Wed Nov 11 2026. No macro, syntax, notation, axiom, sorry.
-/
import Derived.Test.YtgmecbjdiinkiamChecked
import GoSem.Claim
import GoSem.ClaimJoined
import GoSem.ClaimMapViews
import Derived.JoinedTies
import Derived.KernelRfl
namespace Go.Proofs.Ytgmecbjdiinkiam
/- THE CELL 'sum', in the pinned program and in every row, IS THE sha256 OF THE DUMP (.gsa) THAT YtgmecbjdiinkiamProg.lean LOADS. Nothing in Lean hashes anything: it is a label: what it is worth is what the hold of that sum in a sandbox is worth. -/
noncomputable def Try.pinned : Pinned := { name := "ytgmecbjdiinkiam", sum := "d8dfc2e28dd3c099d27d78b4792975311daa46a935bd46ee1df77dee36a2cc19", checked := Try.checked }
namespace Rows
def none {H : Type} : Left H := { results := [], args := [] }

/-- 'laws.FnExactCodelOk': WHATEVER THE INPUT: true; the input reads as it did. -/
def fnExactCodelOkSpec : ChangeSpec := { name := "fnExactCodelOk", fn := fun _ => fun
  | [d] => { results := [.lit (.bool true)], args := [d] }
  | _ => none }
def fnExactCodelOkRow : OpenClaim := { program := "ytgmecbjdiinkiam", sum := "d8dfc2e28dd3c099d27d78b4792975311daa46a935bd46ee1df77dee36a2cc19", func := "loop.example/g00453/laws.FnExactCodelOk", spec := "fnExactCodelOk", apart := false }
def FnExactCodelOkSaid : Prop := fnExactCodelOkRow.holds Try.pinned (OpenSpec.ofChange fnExactCodelOkSpec)

/-- ITS FALSE NEIGHBOUR: 'it returns false'. Refute it at one input. -/
def fnExactCodelOkWrong : ChangeSpec := { name := "fnExactCodelOk", fn := fun _ => fun
  | [d] => { results := [.lit (.bool false)], args := [d] }
  | _ => none }
def FnExactCodelOkWrongFalsely : Prop := fnExactCodelOkRow.holds Try.pinned (OpenSpec.ofChange fnExactCodelOkWrong)

/-- 'laws.FnExactCodelNew': WHATEVER THE INPUT: true; the input reads as it did. -/
def fnExactCodelNewSpec : ChangeSpec := { name := "fnExactCodelNew", fn := fun _ => fun
  | [d1, d2] => { results := [.lit (.bool true)], args := [d1, d2] }
  | _ => none }
def fnExactCodelNewRow : OpenClaim := { program := "ytgmecbjdiinkiam", sum := "d8dfc2e28dd3c099d27d78b4792975311daa46a935bd46ee1df77dee36a2cc19", func := "loop.example/g00453/laws.FnExactCodelNew", spec := "fnExactCodelNew", apart := false }
def FnExactCodelNewSaid : Prop := fnExactCodelNewRow.holds Try.pinned (OpenSpec.ofChange fnExactCodelNewSpec)

/-- ITS FALSE NEIGHBOUR: 'it returns false'. Refute it at one input. -/
def fnExactCodelNewWrong : ChangeSpec := { name := "fnExactCodelNew", fn := fun _ => fun
  | [d1, d2] => { results := [.lit (.bool false)], args := [d1, d2] }
  | _ => none }
def FnExactCodelNewWrongFalsely : Prop := fnExactCodelNewRow.holds Try.pinned (OpenSpec.ofChange fnExactCodelNewWrong)

/-- 'laws.FnExactControl': WHATEVER THE INPUT: true; the input reads as it did. -/
def fnExactControlSpec : ChangeSpec := { name := "fnExactControl", fn := fun _ => fun
  | [d1, d2, d3] => { results := [.lit (.bool true)], args := [d1, d2, d3] }
  | _ => none }
def fnExactControlRow : OpenClaim := { program := "ytgmecbjdiinkiam", sum := "d8dfc2e28dd3c099d27d78b4792975311daa46a935bd46ee1df77dee36a2cc19", func := "loop.example/g00453/laws.FnExactControl", spec := "fnExactControl", unfollowed := true, recurses := true, apart := false }
def FnExactControlSaid : Prop := fnExactControlRow.holds Try.pinned (OpenSpec.ofChange fnExactControlSpec)

/-- ITS FALSE NEIGHBOUR: 'it returns false'. Refute it at one input. -/
def fnExactControlWrong : ChangeSpec := { name := "fnExactControl", fn := fun _ => fun
  | [d1, d2, d3] => { results := [.lit (.bool false)], args := [d1, d2, d3] }
  | _ => none }
def FnExactControlWrongFalsely : Prop := fnExactControlRow.holds Try.pinned (OpenSpec.ofChange fnExactControlWrong)

/-- 'laws.FnExactLate': WHATEVER THE INPUT: true; the input reads as it did. -/
def fnExactLateSpec : ChangeSpec := { name := "fnExactLate", fn := fun _ => fun
  | [d1, d2, d3] => { results := [.lit (.bool true)], args := [d1, d2, d3] }
  | _ => none }
def fnExactLateRow : OpenClaim := { program := "ytgmecbjdiinkiam", sum := "d8dfc2e28dd3c099d27d78b4792975311daa46a935bd46ee1df77dee36a2cc19", func := "loop.example/g00453/laws.FnExactLate", spec := "fnExactLate", unfollowed := true, recurses := true, apart := false }
def FnExactLateSaid : Prop := fnExactLateRow.holds Try.pinned (OpenSpec.ofChange fnExactLateSpec)

/-- ITS FALSE NEIGHBOUR: 'it returns false'. Refute it at one input. -/
def fnExactLateWrong : ChangeSpec := { name := "fnExactLate", fn := fun _ => fun
  | [d1, d2, d3] => { results := [.lit (.bool false)], args := [d1, d2, d3] }
  | _ => none }
def FnExactLateWrongFalsely : Prop := fnExactLateRow.holds Try.pinned (OpenSpec.ofChange fnExactLateWrong)

/-- 'laws.FnExactCodelPop': WHATEVER THE INPUT: true; the input reads as it did. -/
def fnExactCodelPopSpec : ChangeSpec := { name := "fnExactCodelPop", fn := fun _ => fun
  | [d1, d2, d3] => { results := [.lit (.bool true)], args := [d1, d2, d3] }
  | _ => none }
def fnExactCodelPopRow : OpenClaim := { program := "ytgmecbjdiinkiam", sum := "d8dfc2e28dd3c099d27d78b4792975311daa46a935bd46ee1df77dee36a2cc19", func := "loop.example/g00453/laws.FnExactCodelPop", spec := "fnExactCodelPop", unfollowed := true, recurses := true, apart := false }
def FnExactCodelPopSaid : Prop := fnExactCodelPopRow.holds Try.pinned (OpenSpec.ofChange fnExactCodelPopSpec)

/-- ITS FALSE NEIGHBOUR: 'it returns false'. Refute it at one input. -/
def fnExactCodelPopWrong : ChangeSpec := { name := "fnExactCodelPop", fn := fun _ => fun
  | [d1, d2, d3] => { results := [.lit (.bool false)], args := [d1, d2, d3] }
  | _ => none }
def FnExactCodelPopWrongFalsely : Prop := fnExactCodelPopRow.holds Try.pinned (OpenSpec.ofChange fnExactCodelPopWrong)

/-- 'laws.FnExactPieOk': WHATEVER THE INPUT: true; the input reads as it did. -/
def fnExactPieOkSpec : ChangeSpec := { name := "fnExactPieOk", fn := fun _ => fun
  | [d] => { results := [.lit (.bool true)], args := [d] }
  | _ => none }
def fnExactPieOkRow : OpenClaim := { program := "ytgmecbjdiinkiam", sum := "d8dfc2e28dd3c099d27d78b4792975311daa46a935bd46ee1df77dee36a2cc19", func := "loop.example/g00453/laws.FnExactPieOk", spec := "fnExactPieOk", apart := false }
def FnExactPieOkSaid : Prop := fnExactPieOkRow.holds Try.pinned (OpenSpec.ofChange fnExactPieOkSpec)

/-- ITS FALSE NEIGHBOUR: 'it returns false'. Refute it at one input. -/
def fnExactPieOkWrong : ChangeSpec := { name := "fnExactPieOk", fn := fun _ => fun
  | [d] => { results := [.lit (.bool false)], args := [d] }
  | _ => none }
def FnExactPieOkWrongFalsely : Prop := fnExactPieOkRow.holds Try.pinned (OpenSpec.ofChange fnExactPieOkWrong)

/- THE SECOND FORM. 'bulk': how many values and letters a reading holds, each counted each time it is reached (what is shared counts as often as it is met; a slice's spare places count too). A statement '..UptoSaid' is the law's where the arguments, and the package variables that the reading takes, are together of bulk at most 1048576: NARROWER than '..Said'. Prove '..Said' where nothing that the law and all that it calls make is longer than what came in: it says more and counts as full. Else prove '..UptoSaid'. A law counts once. -/
mutual
def uptoBulk {H : Type} : DataW H → Nat
  | .lit (.string bytes) => bytes.length + 1
  | .lit _ => 1
  | .nil => 1
  | .ptr d => uptoBulk d + 1
  | .slice elems spare => uptoBulkAll elems + uptoBulkAll spare + 1
  | .agg parts => uptoBulkAll parts + 1
  | .iface _ d => uptoBulk d + 1
  | .map entries => uptoBulkEntries entries + 1
  | .held _ => 1
def uptoBulkAll {H : Type} : List (DataW H) → Nat
  | [] => 0
  | d :: r => uptoBulk d + uptoBulkAll r
def uptoBulkEntries {H : Type} : List (Lit × DataW H) → Nat
  | [] => 0
  | x :: r => uptoBulkEntry x + uptoBulkEntries r
def uptoBulkEntry {H : Type} : Lit × DataW H → Nat
  | (.string bytes, d) => bytes.length + uptoBulk d + 1
  | (_, d) => uptoBulk d + 1
 end
def uptoSmall : (H : Type) → List (DataW H) → Bool := fun _ ds => decide (uptoBulkAll ds ≤ 1048576)
def OpenSpec.upto (s : _root_.Go.ChangeSpec) : _root_.Go.OpenSpec := { _root_.Go.OpenSpec.ofChange s with cond := some uptoSmall }

/-- 'laws.FnExactCodelOk', WHERE WHAT IT READS IS OF BULK AT MOST 1048576: true; the input reads as it did. -/
def fnExactCodelOkUptoRow : OpenClaim := { program := "ytgmecbjdiinkiam", sum := "d8dfc2e28dd3c099d27d78b4792975311daa46a935bd46ee1df77dee36a2cc19", func := "loop.example/g00453/laws.FnExactCodelOk", spec := "fnExactCodelOk", apart := false, narrowed := true }
def FnExactCodelOkUptoSaid : Prop := fnExactCodelOkUptoRow.holds Try.pinned (OpenSpec.upto fnExactCodelOkSpec)

/-- 'laws.FnExactCodelNew', WHERE WHAT IT READS IS OF BULK AT MOST 1048576: true; the input reads as it did. -/
def fnExactCodelNewUptoRow : OpenClaim := { program := "ytgmecbjdiinkiam", sum := "d8dfc2e28dd3c099d27d78b4792975311daa46a935bd46ee1df77dee36a2cc19", func := "loop.example/g00453/laws.FnExactCodelNew", spec := "fnExactCodelNew", apart := false, narrowed := true }
def FnExactCodelNewUptoSaid : Prop := fnExactCodelNewUptoRow.holds Try.pinned (OpenSpec.upto fnExactCodelNewSpec)

/-- 'laws.FnExactControl', WHERE WHAT IT READS IS OF BULK AT MOST 1048576: true; the input reads as it did. -/
def fnExactControlUptoRow : OpenClaim := { program := "ytgmecbjdiinkiam", sum := "d8dfc2e28dd3c099d27d78b4792975311daa46a935bd46ee1df77dee36a2cc19", func := "loop.example/g00453/laws.FnExactControl", spec := "fnExactControl", unfollowed := true, recurses := true, apart := false, narrowed := true }
def FnExactControlUptoSaid : Prop := fnExactControlUptoRow.holds Try.pinned (OpenSpec.upto fnExactControlSpec)

/-- 'laws.FnExactLate', WHERE WHAT IT READS IS OF BULK AT MOST 1048576: true; the input reads as it did. -/
def fnExactLateUptoRow : OpenClaim := { program := "ytgmecbjdiinkiam", sum := "d8dfc2e28dd3c099d27d78b4792975311daa46a935bd46ee1df77dee36a2cc19", func := "loop.example/g00453/laws.FnExactLate", spec := "fnExactLate", unfollowed := true, recurses := true, apart := false, narrowed := true }
def FnExactLateUptoSaid : Prop := fnExactLateUptoRow.holds Try.pinned (OpenSpec.upto fnExactLateSpec)

/-- 'laws.FnExactCodelPop', WHERE WHAT IT READS IS OF BULK AT MOST 1048576: true; the input reads as it did. -/
def fnExactCodelPopUptoRow : OpenClaim := { program := "ytgmecbjdiinkiam", sum := "d8dfc2e28dd3c099d27d78b4792975311daa46a935bd46ee1df77dee36a2cc19", func := "loop.example/g00453/laws.FnExactCodelPop", spec := "fnExactCodelPop", unfollowed := true, recurses := true, apart := false, narrowed := true }
def FnExactCodelPopUptoSaid : Prop := fnExactCodelPopUptoRow.holds Try.pinned (OpenSpec.upto fnExactCodelPopSpec)

/-- 'laws.FnExactPieOk', WHERE WHAT IT READS IS OF BULK AT MOST 1048576: true; the input reads as it did. -/
def fnExactPieOkUptoRow : OpenClaim := { program := "ytgmecbjdiinkiam", sum := "d8dfc2e28dd3c099d27d78b4792975311daa46a935bd46ee1df77dee36a2cc19", func := "loop.example/g00453/laws.FnExactPieOk", spec := "fnExactPieOk", apart := false, narrowed := true }
def FnExactPieOkUptoSaid : Prop := fnExactPieOkUptoRow.holds Try.pinned (OpenSpec.upto fnExactPieOkSpec)

end Rows
end Go.Proofs.Ytgmecbjdiinkiam
