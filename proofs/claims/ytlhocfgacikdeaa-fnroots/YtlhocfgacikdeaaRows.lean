/-
  No cell of these rows narrows 'for every input' (looked for: loops, veiled, ifaces, maps, wideKeys, modest, calm, conditions, laid).
  DERIVED. THE GIVEN ROWS OF THIS SEAT. 5 by the template 'for every input the law returns true; each argument reads behind the call as it read before'; 0 by the template 'total and deterministic' (their statements: YtlhocfgacikdeaaTotals.lean).
  GIVEN WITH THE SEED: the statements are not yours to turn. If you find one false, say at which input.
  Laid BY PROGRAM, IN A SANDBOX (cutbox-rows.mjs): the forced cells as the released guide's own fill.sh prints them over the translation d9487b411c02a349… (all of the seat's roots in one cut). By AI agents, Wed Nov 11 2026. No macro, syntax, notation, axiom, sorry.
-/
import Derived.Test.YtlhocfgacikdeaaChecked
import GoSem.Claim
import GoSem.ClaimJoined
import GoSem.ClaimMapViews
import Derived.JoinedTies
import Derived.KernelRfl
namespace Go.Proofs.Ytlhocfgacikdeaa
/- THE CELL 'sum', in the pinned program and in every row, IS THE sha256 OF THE DUMP (.gsa) THAT YtlhocfgacikdeaaProg.lean LOADS. Nothing in Lean hashes anything: it is a label: what it is worth is what the hold of that sum in a sandbox is worth. -/
noncomputable def Try.pinned : Pinned := { name := "ytlhocfgacikdeaa", sum := "d9487b411c02a34925c448d8a097b0c4ca89e51fa78064eb502a1bf0367991c2", checked := Try.checked }
namespace Rows
def none {H : Type} : Left H := { results := [], args := [] }

/-- 'laws.FnSats': WHATEVER THE INPUT: true; the input reads as it did. -/
def fnSatsSpec : ChangeSpec := { name := "fnSats", fn := fun _ => fun
  | [d] => { results := [.lit (.bool true)], args := [d] }
  | _ => none }
def fnSatsRow : OpenClaim := { program := "ytlhocfgacikdeaa", sum := "d9487b411c02a34925c448d8a097b0c4ca89e51fa78064eb502a1bf0367991c2", func := "loop.example/g00453/laws.FnSats", spec := "fnSats", apart := false }
def FnSatsSaid : Prop := fnSatsRow.holds Try.pinned (OpenSpec.ofChange fnSatsSpec)

/-- ITS FALSE NEIGHBOUR: 'it returns false'. Refute it at one input. -/
def fnSatsWrong : ChangeSpec := { name := "fnSats", fn := fun _ => fun
  | [d] => { results := [.lit (.bool false)], args := [d] }
  | _ => none }
def FnSatsWrongFalsely : Prop := fnSatsRow.holds Try.pinned (OpenSpec.ofChange fnSatsWrong)

/-- 'laws.FnMulDivs': WHATEVER THE INPUT: true; the input reads as it did. -/
def fnMulDivsSpec : ChangeSpec := { name := "fnMulDivs", fn := fun _ => fun
  | [d] => { results := [.lit (.bool true)], args := [d] }
  | _ => none }
def fnMulDivsRow : OpenClaim := { program := "ytlhocfgacikdeaa", sum := "d9487b411c02a34925c448d8a097b0c4ca89e51fa78064eb502a1bf0367991c2", func := "loop.example/g00453/laws.FnMulDivs", spec := "fnMulDivs", unfollowed := true, recurses := true, named := ["math/bits.divideError", "math/bits.overflowError"], apart := false }
def FnMulDivsSaid : Prop := fnMulDivsRow.holds Try.pinned (OpenSpec.ofChange fnMulDivsSpec)

/-- ITS FALSE NEIGHBOUR: 'it returns false'. Refute it at one input. -/
def fnMulDivsWrong : ChangeSpec := { name := "fnMulDivs", fn := fun _ => fun
  | [d] => { results := [.lit (.bool false)], args := [d] }
  | _ => none }
def FnMulDivsWrongFalsely : Prop := fnMulDivsRow.holds Try.pinned (OpenSpec.ofChange fnMulDivsWrong)

/-- 'laws.FnRoots': WHATEVER THE INPUT: true; the input reads as it did. -/
def fnRootsSpec : ChangeSpec := { name := "fnRoots", fn := fun _ => fun
  | [d] => { results := [.lit (.bool true)], args := [d] }
  | _ => none }
def fnRootsRow : OpenClaim := { program := "ytlhocfgacikdeaa", sum := "d9487b411c02a34925c448d8a097b0c4ca89e51fa78064eb502a1bf0367991c2", func := "loop.example/g00453/laws.FnRoots", spec := "fnRoots", unfollowed := true, recurses := true, apart := false }
def FnRootsSaid : Prop := fnRootsRow.holds Try.pinned (OpenSpec.ofChange fnRootsSpec)

/-- ITS FALSE NEIGHBOUR: 'it returns false'. Refute it at one input. -/
def fnRootsWrong : ChangeSpec := { name := "fnRoots", fn := fun _ => fun
  | [d] => { results := [.lit (.bool false)], args := [d] }
  | _ => none }
def FnRootsWrongFalsely : Prop := fnRootsRow.holds Try.pinned (OpenSpec.ofChange fnRootsWrong)

/-- 'laws.FnWraps': WHATEVER THE INPUT: true; the input reads as it did. -/
def fnWrapsSpec : ChangeSpec := { name := "fnWraps", fn := fun _ => fun
  | [d] => { results := [.lit (.bool true)], args := [d] }
  | _ => none }
def fnWrapsRow : OpenClaim := { program := "ytlhocfgacikdeaa", sum := "d9487b411c02a34925c448d8a097b0c4ca89e51fa78064eb502a1bf0367991c2", func := "loop.example/g00453/laws.FnWraps", spec := "fnWraps", apart := false }
def FnWrapsSaid : Prop := fnWrapsRow.holds Try.pinned (OpenSpec.ofChange fnWrapsSpec)

/-- ITS FALSE NEIGHBOUR: 'it returns false'. Refute it at one input. -/
def fnWrapsWrong : ChangeSpec := { name := "fnWraps", fn := fun _ => fun
  | [d] => { results := [.lit (.bool false)], args := [d] }
  | _ => none }
def FnWrapsWrongFalsely : Prop := fnWrapsRow.holds Try.pinned (OpenSpec.ofChange fnWrapsWrong)

/-- 'laws.FnTimes': WHATEVER THE INPUT: true; the input reads as it did. -/
def fnTimesSpec : ChangeSpec := { name := "fnTimes", fn := fun _ => fun
  | [d] => { results := [.lit (.bool true)], args := [d] }
  | _ => none }
def fnTimesRow : OpenClaim := { program := "ytlhocfgacikdeaa", sum := "d9487b411c02a34925c448d8a097b0c4ca89e51fa78064eb502a1bf0367991c2", func := "loop.example/g00453/laws.FnTimes", spec := "fnTimes", unfollowed := true, recurses := true, named := ["math/bits.divideError", "math/bits.overflowError"], apart := false }
def FnTimesSaid : Prop := fnTimesRow.holds Try.pinned (OpenSpec.ofChange fnTimesSpec)

/-- ITS FALSE NEIGHBOUR: 'it returns false'. Refute it at one input. -/
def fnTimesWrong : ChangeSpec := { name := "fnTimes", fn := fun _ => fun
  | [d] => { results := [.lit (.bool false)], args := [d] }
  | _ => none }
def FnTimesWrongFalsely : Prop := fnTimesRow.holds Try.pinned (OpenSpec.ofChange fnTimesWrong)

/- THE SECOND FORM. 'bulk': how many values and letters a reading holds, each counted each time it is reached (what is shared counts as often as it is met; a slice's spare places count too). A statement '..UptoSaid' is the law's where the arguments, and the package variables that the reading takes, are together of bulk at most 1048576: NARROWER than '..Said'. Prove '..Said' where nothing that the law and all that it calls make is longer than what came in: it says more and counts as full. Else prove '..UptoSaid'. A law counts once. -/
mutual
def uptoBulk {H : Type} : DataW H → Nat
  | .lit (.string bytes) => bytes.length + 1
  | .lit _ => 1
  | .nil => 1
  | .ptr d => uptoBulk d + 1
  | .slice elems spare => uptoBulkAll elems + uptoBulkAll spare + 1
  | .agg parts => uptoBulkAll parts + 1
  | .iface _ d => uptoBulk d + 1
  | .map entries => uptoBulkEntries entries + 1
  | .held _ => 1
def uptoBulkAll {H : Type} : List (DataW H) → Nat
  | [] => 0
  | d :: r => uptoBulk d + uptoBulkAll r
def uptoBulkEntries {H : Type} : List (Lit × DataW H) → Nat
  | [] => 0
  | x :: r => uptoBulkEntry x + uptoBulkEntries r
def uptoBulkEntry {H : Type} : Lit × DataW H → Nat
  | (.string bytes, d) => bytes.length + uptoBulk d + 1
  | (_, d) => uptoBulk d + 1
 end
def uptoSmall : (H : Type) → List (DataW H) → Bool := fun _ ds => decide (uptoBulkAll ds ≤ 1048576)
def OpenSpec.upto (s : _root_.Go.ChangeSpec) : _root_.Go.OpenSpec := { _root_.Go.OpenSpec.ofChange s with cond := some uptoSmall }

/-- 'laws.FnSats', WHERE WHAT IT READS IS OF BULK AT MOST 1048576: true; the input reads as it did. -/
def fnSatsUptoRow : OpenClaim := { program := "ytlhocfgacikdeaa", sum := "d9487b411c02a34925c448d8a097b0c4ca89e51fa78064eb502a1bf0367991c2", func := "loop.example/g00453/laws.FnSats", spec := "fnSats", apart := false, narrowed := true }
def FnSatsUptoSaid : Prop := fnSatsUptoRow.holds Try.pinned (OpenSpec.upto fnSatsSpec)

/-- 'laws.FnMulDivs', WHERE WHAT IT READS IS OF BULK AT MOST 1048576: true; the input reads as it did. -/
def fnMulDivsUptoRow : OpenClaim := { program := "ytlhocfgacikdeaa", sum := "d9487b411c02a34925c448d8a097b0c4ca89e51fa78064eb502a1bf0367991c2", func := "loop.example/g00453/laws.FnMulDivs", spec := "fnMulDivs", unfollowed := true, recurses := true, named := ["math/bits.divideError", "math/bits.overflowError"], apart := false, narrowed := true }
def FnMulDivsUptoSaid : Prop := fnMulDivsUptoRow.holds Try.pinned (OpenSpec.upto fnMulDivsSpec)

/-- 'laws.FnRoots', WHERE WHAT IT READS IS OF BULK AT MOST 1048576: true; the input reads as it did. -/
def fnRootsUptoRow : OpenClaim := { program := "ytlhocfgacikdeaa", sum := "d9487b411c02a34925c448d8a097b0c4ca89e51fa78064eb502a1bf0367991c2", func := "loop.example/g00453/laws.FnRoots", spec := "fnRoots", unfollowed := true, recurses := true, apart := false, narrowed := true }
def FnRootsUptoSaid : Prop := fnRootsUptoRow.holds Try.pinned (OpenSpec.upto fnRootsSpec)

/-- 'laws.FnWraps', WHERE WHAT IT READS IS OF BULK AT MOST 1048576: true; the input reads as it did. -/
def fnWrapsUptoRow : OpenClaim := { program := "ytlhocfgacikdeaa", sum := "d9487b411c02a34925c448d8a097b0c4ca89e51fa78064eb502a1bf0367991c2", func := "loop.example/g00453/laws.FnWraps", spec := "fnWraps", apart := false, narrowed := true }
def FnWrapsUptoSaid : Prop := fnWrapsUptoRow.holds Try.pinned (OpenSpec.upto fnWrapsSpec)

/-- 'laws.FnTimes', WHERE WHAT IT READS IS OF BULK AT MOST 1048576: true; the input reads as it did. -/
def fnTimesUptoRow : OpenClaim := { program := "ytlhocfgacikdeaa", sum := "d9487b411c02a34925c448d8a097b0c4ca89e51fa78064eb502a1bf0367991c2", func := "loop.example/g00453/laws.FnTimes", spec := "fnTimes", unfollowed := true, recurses := true, named := ["math/bits.divideError", "math/bits.overflowError"], apart := false, narrowed := true }
def FnTimesUptoSaid : Prop := fnTimesUptoRow.holds Try.pinned (OpenSpec.upto fnTimesSpec)

end Rows
end Go.Proofs.Ytlhocfgacikdeaa
