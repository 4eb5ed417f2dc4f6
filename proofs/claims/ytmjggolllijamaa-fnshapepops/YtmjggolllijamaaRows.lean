/-
  No cell of these rows narrows 'for every input' (looked for: loops, veiled, ifaces, maps, wideKeys, modest, calm, conditions, laid).
  DERIVED. THE GIVEN ROWS OF THIS SEAT. 3 by the template 'for every input the law returns true; each argument reads behind the call as it read before'; 0 by the template 'total and deterministic' (their statements: YtmjggolllijamaaTotals.lean).
  GIVEN WITH THE SEED: the statements are not yours to turn. If you find one false, say at which input.
  Laid BY PROGRAM, IN A SANDBOX (cutbox-rows.mjs): the forced cells as the released guide's own fill.sh prints them over the translation c78faa7211bc4cb2… (all of the seat's roots in one cut). By AI agents, Wed Nov 11 2026. No macro, syntax, notation, axiom, sorry.
-/
import Derived.Test.YtmjggolllijamaaChecked
import GoSem.Claim
import GoSem.ClaimJoined
import GoSem.ClaimMapViews
import Derived.JoinedTies
import Derived.KernelRfl
namespace Go.Proofs.Ytmjggolllijamaa
/- THE CELL 'sum', in the pinned program and in every row, IS THE sha256 OF THE DUMP (.gsa) THAT YtmjggolllijamaaProg.lean LOADS. Nothing in Lean hashes anything: it is a label: what it is worth is what the hold of that sum in a sandbox is worth. -/
noncomputable def Try.pinned : Pinned := { name := "ytmjggolllijamaa", sum := "c78faa7211bc4cb2922ca58087872532a1aa4bb2573eb6f999d2e58cc4c126b0", checked := Try.checked }
namespace Rows
def none {H : Type} : Left H := { results := [], args := [] }

/-- 'laws.FnExactShapePop': WHATEVER THE INPUT: true; the input reads as it did. -/
def fnExactShapePopSpec : ChangeSpec := { name := "fnExactShapePop", fn := fun _ => fun
  | [d1, d2] => { results := [.lit (.bool true)], args := [d1, d2] }
  | _ => none }
def fnExactShapePopRow : OpenClaim := { program := "ytmjggolllijamaa", sum := "c78faa7211bc4cb2922ca58087872532a1aa4bb2573eb6f999d2e58cc4c126b0", func := "loop.example/g00453/laws.FnExactShapePop", spec := "fnExactShapePop", unfollowed := true, recurses := true, named := ["math/bits.divideError", "math/bits.overflowError"], apart := false }
def FnExactShapePopSaid : Prop := fnExactShapePopRow.holds Try.pinned (OpenSpec.ofChange fnExactShapePopSpec)

/-- ITS FALSE NEIGHBOUR: 'it returns false'. Refute it at one input. -/
def fnExactShapePopWrong : ChangeSpec := { name := "fnExactShapePop", fn := fun _ => fun
  | [d1, d2] => { results := [.lit (.bool false)], args := [d1, d2] }
  | _ => none }
def FnExactShapePopWrongFalsely : Prop := fnExactShapePopRow.holds Try.pinned (OpenSpec.ofChange fnExactShapePopWrong)

/-- 'laws.FnShapePushes': WHATEVER THE INPUT: true; the input reads as it did. -/
def fnShapePushesSpec : ChangeSpec := { name := "fnShapePushes", fn := fun _ => fun
  | [d] => { results := [.lit (.bool true)], args := [d] }
  | _ => none }
def fnShapePushesRow : OpenClaim := { program := "ytmjggolllijamaa", sum := "c78faa7211bc4cb2922ca58087872532a1aa4bb2573eb6f999d2e58cc4c126b0", func := "loop.example/g00453/laws.FnShapePushes", spec := "fnShapePushes", unfollowed := true, recurses := true, named := ["math/bits.divideError", "math/bits.overflowError"], apart := false }
def FnShapePushesSaid : Prop := fnShapePushesRow.holds Try.pinned (OpenSpec.ofChange fnShapePushesSpec)

/-- ITS FALSE NEIGHBOUR: 'it returns false'. Refute it at one input. -/
def fnShapePushesWrong : ChangeSpec := { name := "fnShapePushes", fn := fun _ => fun
  | [d] => { results := [.lit (.bool false)], args := [d] }
  | _ => none }
def FnShapePushesWrongFalsely : Prop := fnShapePushesRow.holds Try.pinned (OpenSpec.ofChange fnShapePushesWrong)

/-- 'laws.FnShapePops': WHATEVER THE INPUT: true; the input reads as it did. -/
def fnShapePopsSpec : ChangeSpec := { name := "fnShapePops", fn := fun _ => fun
  | [d] => { results := [.lit (.bool true)], args := [d] }
  | _ => none }
def fnShapePopsRow : OpenClaim := { program := "ytmjggolllijamaa", sum := "c78faa7211bc4cb2922ca58087872532a1aa4bb2573eb6f999d2e58cc4c126b0", func := "loop.example/g00453/laws.FnShapePops", spec := "fnShapePops", unfollowed := true, recurses := true, named := ["math/bits.divideError", "math/bits.overflowError"], apart := false }
def FnShapePopsSaid : Prop := fnShapePopsRow.holds Try.pinned (OpenSpec.ofChange fnShapePopsSpec)

/-- ITS FALSE NEIGHBOUR: 'it returns false'. Refute it at one input. -/
def fnShapePopsWrong : ChangeSpec := { name := "fnShapePops", fn := fun _ => fun
  | [d] => { results := [.lit (.bool false)], args := [d] }
  | _ => none }
def FnShapePopsWrongFalsely : Prop := fnShapePopsRow.holds Try.pinned (OpenSpec.ofChange fnShapePopsWrong)

/- THE SECOND FORM. 'bulk': how many values and letters a reading holds, each counted each time it is reached (what is shared counts as often as it is met; a slice's spare places count too). A statement '..UptoSaid' is the law's where the arguments, and the package variables that the reading takes, are together of bulk at most 1048576: NARROWER than '..Said'. Prove '..Said' where nothing that the law and all that it calls make is longer than what came in: it says more and counts as full. Else prove '..UptoSaid'. A law counts once. -/
mutual
def uptoBulk {H : Type} : DataW H → Nat
  | .lit (.string bytes) => bytes.length + 1
  | .lit _ => 1
  | .nil => 1
  | .ptr d => uptoBulk d + 1
  | .slice elems spare => uptoBulkAll elems + uptoBulkAll spare + 1
  | .agg parts => uptoBulkAll parts + 1
  | .iface _ d => uptoBulk d + 1
  | .map entries => uptoBulkEntries entries + 1
  | .held _ => 1
def uptoBulkAll {H : Type} : List (DataW H) → Nat
  | [] => 0
  | d :: r => uptoBulk d + uptoBulkAll r
def uptoBulkEntries {H : Type} : List (Lit × DataW H) → Nat
  | [] => 0
  | x :: r => uptoBulkEntry x + uptoBulkEntries r
def uptoBulkEntry {H : Type} : Lit × DataW H → Nat
  | (.string bytes, d) => bytes.length + uptoBulk d + 1
  | (_, d) => uptoBulk d + 1
 end
def uptoSmall : (H : Type) → List (DataW H) → Bool := fun _ ds => decide (uptoBulkAll ds ≤ 1048576)
def OpenSpec.upto (s : _root_.Go.ChangeSpec) : _root_.Go.OpenSpec := { _root_.Go.OpenSpec.ofChange s with cond := some uptoSmall }

/-- 'laws.FnExactShapePop', WHERE WHAT IT READS IS OF BULK AT MOST 1048576: true; the input reads as it did. -/
def fnExactShapePopUptoRow : OpenClaim := { program := "ytmjggolllijamaa", sum := "c78faa7211bc4cb2922ca58087872532a1aa4bb2573eb6f999d2e58cc4c126b0", func := "loop.example/g00453/laws.FnExactShapePop", spec := "fnExactShapePop", unfollowed := true, recurses := true, named := ["math/bits.divideError", "math/bits.overflowError"], apart := false, narrowed := true }
def FnExactShapePopUptoSaid : Prop := fnExactShapePopUptoRow.holds Try.pinned (OpenSpec.upto fnExactShapePopSpec)

/-- 'laws.FnShapePushes', WHERE WHAT IT READS IS OF BULK AT MOST 1048576: true; the input reads as it did. -/
def fnShapePushesUptoRow : OpenClaim := { program := "ytmjggolllijamaa", sum := "c78faa7211bc4cb2922ca58087872532a1aa4bb2573eb6f999d2e58cc4c126b0", func := "loop.example/g00453/laws.FnShapePushes", spec := "fnShapePushes", unfollowed := true, recurses := true, named := ["math/bits.divideError", "math/bits.overflowError"], apart := false, narrowed := true }
def FnShapePushesUptoSaid : Prop := fnShapePushesUptoRow.holds Try.pinned (OpenSpec.upto fnShapePushesSpec)

/-- 'laws.FnShapePops', WHERE WHAT IT READS IS OF BULK AT MOST 1048576: true; the input reads as it did. -/
def fnShapePopsUptoRow : OpenClaim := { program := "ytmjggolllijamaa", sum := "c78faa7211bc4cb2922ca58087872532a1aa4bb2573eb6f999d2e58cc4c126b0", func := "loop.example/g00453/laws.FnShapePops", spec := "fnShapePops", unfollowed := true, recurses := true, named := ["math/bits.divideError", "math/bits.overflowError"], apart := false, narrowed := true }
def FnShapePopsUptoSaid : Prop := fnShapePopsUptoRow.holds Try.pinned (OpenSpec.upto fnShapePopsSpec)

end Rows
end Go.Proofs.Ytmjggolllijamaa
