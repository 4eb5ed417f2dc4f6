/-
  No cell of these rows narrows 'for every input' (looked for: loops, veiled, ifaces, maps, wideKeys, modest, calm, conditions, laid).
  DERIVED. THE GIVEN ROWS OF THIS SEAT. 6 by the template 'for every input the law returns true; each argument reads behind the call as it read before'; 0 by the template 'total and deterministic' (their statements: YtfflheebjbdnoaqTotals.lean).
  GIVEN WITH THE SEED: the statements are not yours to turn. If you find one false, say at which input.
  Laid BY PROGRAM, IN A SANDBOX (cutbox-rows.mjs): the forced cells as the released guide's own fill.sh prints them over the translation a39b3d20ace35789… (all of the seat's roots in one cut). By AI agents, Wed Nov 11 2026. No macro, syntax, notation, axiom, sorry.
-/
import Derived.Test.YtfflheebjbdnoaqChecked
import GoSem.Claim
import GoSem.ClaimJoined
import GoSem.ClaimMapViews
import Derived.JoinedTies
import Derived.KernelRfl
namespace Go.Proofs.Ytfflheebjbdnoaq
/- THE CELL 'sum', in the pinned program and in every row, IS THE sha256 OF THE DUMP (.gsa) THAT YtfflheebjbdnoaqProg.lean LOADS. Nothing in Lean hashes anything: it is a label: what it is worth is what the hold of that sum in a sandbox is worth. -/
noncomputable def Try.pinned : Pinned := { name := "ytfflheebjbdnoaq", sum := "a39b3d20ace357890b208547eab4f2ffcd24cd78779fe26a81dfe73bdb59daba", checked := Try.checked }
namespace Rows
def none {H : Type} : Left H := { results := [], args := [] }

/-- 'laws.FnExactFlight': WHATEVER THE INPUT: true; the input reads as it did. -/
def fnExactFlightSpec : ChangeSpec := { name := "fnExactFlight", fn := fun _ => fun
  | [d] => { results := [.lit (.bool true)], args := [d] }
  | _ => none }
def fnExactFlightRow : OpenClaim := { program := "ytfflheebjbdnoaq", sum := "a39b3d20ace357890b208547eab4f2ffcd24cd78779fe26a81dfe73bdb59daba", func := "loop.example/g00453/laws.FnExactFlight", spec := "fnExactFlight", apart := false }
def FnExactFlightSaid : Prop := fnExactFlightRow.holds Try.pinned (OpenSpec.ofChange fnExactFlightSpec)

/-- ITS FALSE NEIGHBOUR: 'it returns false'. Refute it at one input. -/
def fnExactFlightWrong : ChangeSpec := { name := "fnExactFlight", fn := fun _ => fun
  | [d] => { results := [.lit (.bool false)], args := [d] }
  | _ => none }
def FnExactFlightWrongFalsely : Prop := fnExactFlightRow.holds Try.pinned (OpenSpec.ofChange fnExactFlightWrong)

/-- 'laws.FnExactMaySend': WHATEVER THE INPUT: true; the input reads as it did. -/
def fnExactMaySendSpec : ChangeSpec := { name := "fnExactMaySend", fn := fun _ => fun
  | [d1, d2] => { results := [.lit (.bool true)], args := [d1, d2] }
  | _ => none }
def fnExactMaySendRow : OpenClaim := { program := "ytfflheebjbdnoaq", sum := "a39b3d20ace357890b208547eab4f2ffcd24cd78779fe26a81dfe73bdb59daba", func := "loop.example/g00453/laws.FnExactMaySend", spec := "fnExactMaySend", apart := false }
def FnExactMaySendSaid : Prop := fnExactMaySendRow.holds Try.pinned (OpenSpec.ofChange fnExactMaySendSpec)

/-- ITS FALSE NEIGHBOUR: 'it returns false'. Refute it at one input. -/
def fnExactMaySendWrong : ChangeSpec := { name := "fnExactMaySend", fn := fun _ => fun
  | [d1, d2] => { results := [.lit (.bool false)], args := [d1, d2] }
  | _ => none }
def FnExactMaySendWrongFalsely : Prop := fnExactMaySendRow.holds Try.pinned (OpenSpec.ofChange fnExactMaySendWrong)

/-- 'laws.FnExactSent': WHATEVER THE INPUT: true; the input reads as it did. -/
def fnExactSentSpec : ChangeSpec := { name := "fnExactSent", fn := fun _ => fun
  | [d1, d2] => { results := [.lit (.bool true)], args := [d1, d2] }
  | _ => none }
def fnExactSentRow : OpenClaim := { program := "ytfflheebjbdnoaq", sum := "a39b3d20ace357890b208547eab4f2ffcd24cd78779fe26a81dfe73bdb59daba", func := "loop.example/g00453/laws.FnExactSent", spec := "fnExactSent", apart := false }
def FnExactSentSaid : Prop := fnExactSentRow.holds Try.pinned (OpenSpec.ofChange fnExactSentSpec)

/-- ITS FALSE NEIGHBOUR: 'it returns false'. Refute it at one input. -/
def fnExactSentWrong : ChangeSpec := { name := "fnExactSent", fn := fun _ => fun
  | [d1, d2] => { results := [.lit (.bool false)], args := [d1, d2] }
  | _ => none }
def FnExactSentWrongFalsely : Prop := fnExactSentRow.holds Try.pinned (OpenSpec.ofChange fnExactSentWrong)

/-- 'laws.FnExactAcked': WHATEVER THE INPUT: true; the input reads as it did. -/
def fnExactAckedSpec : ChangeSpec := { name := "fnExactAcked", fn := fun _ => fun
  | [d1, d2, d3] => { results := [.lit (.bool true)], args := [d1, d2, d3] }
  | _ => none }
def fnExactAckedRow : OpenClaim := { program := "ytfflheebjbdnoaq", sum := "a39b3d20ace357890b208547eab4f2ffcd24cd78779fe26a81dfe73bdb59daba", func := "loop.example/g00453/laws.FnExactAcked", spec := "fnExactAcked", unfollowed := true, recurses := true, apart := false }
def FnExactAckedSaid : Prop := fnExactAckedRow.holds Try.pinned (OpenSpec.ofChange fnExactAckedSpec)

/-- ITS FALSE NEIGHBOUR: 'it returns false'. Refute it at one input. -/
def fnExactAckedWrong : ChangeSpec := { name := "fnExactAcked", fn := fun _ => fun
  | [d1, d2, d3] => { results := [.lit (.bool false)], args := [d1, d2, d3] }
  | _ => none }
def FnExactAckedWrongFalsely : Prop := fnExactAckedRow.holds Try.pinned (OpenSpec.ofChange fnExactAckedWrong)

/-- 'laws.FnExactTimedOut': WHATEVER THE INPUT: true; the input reads as it did. -/
def fnExactTimedOutSpec : ChangeSpec := { name := "fnExactTimedOut", fn := fun _ => fun
  | [d] => { results := [.lit (.bool true)], args := [d] }
  | _ => none }
def fnExactTimedOutRow : OpenClaim := { program := "ytfflheebjbdnoaq", sum := "a39b3d20ace357890b208547eab4f2ffcd24cd78779fe26a81dfe73bdb59daba", func := "loop.example/g00453/laws.FnExactTimedOut", spec := "fnExactTimedOut", unfollowed := true, recurses := true, apart := false }
def FnExactTimedOutSaid : Prop := fnExactTimedOutRow.holds Try.pinned (OpenSpec.ofChange fnExactTimedOutSpec)

/-- ITS FALSE NEIGHBOUR: 'it returns false'. Refute it at one input. -/
def fnExactTimedOutWrong : ChangeSpec := { name := "fnExactTimedOut", fn := fun _ => fun
  | [d] => { results := [.lit (.bool false)], args := [d] }
  | _ => none }
def FnExactTimedOutWrongFalsely : Prop := fnExactTimedOutRow.holds Try.pinned (OpenSpec.ofChange fnExactTimedOutWrong)

/-- 'laws.FnExactCubicOk': WHATEVER THE INPUT: true; the input reads as it did. -/
def fnExactCubicOkSpec : ChangeSpec := { name := "fnExactCubicOk", fn := fun _ => fun
  | [d] => { results := [.lit (.bool true)], args := [d] }
  | _ => none }
def fnExactCubicOkRow : OpenClaim := { program := "ytfflheebjbdnoaq", sum := "a39b3d20ace357890b208547eab4f2ffcd24cd78779fe26a81dfe73bdb59daba", func := "loop.example/g00453/laws.FnExactCubicOk", spec := "fnExactCubicOk", apart := false }
def FnExactCubicOkSaid : Prop := fnExactCubicOkRow.holds Try.pinned (OpenSpec.ofChange fnExactCubicOkSpec)

/-- ITS FALSE NEIGHBOUR: 'it returns false'. Refute it at one input. -/
def fnExactCubicOkWrong : ChangeSpec := { name := "fnExactCubicOk", fn := fun _ => fun
  | [d] => { results := [.lit (.bool false)], args := [d] }
  | _ => none }
def FnExactCubicOkWrongFalsely : Prop := fnExactCubicOkRow.holds Try.pinned (OpenSpec.ofChange fnExactCubicOkWrong)

/- THE SECOND FORM. 'bulk': how many values and letters a reading holds, each counted each time it is reached (what is shared counts as often as it is met; a slice's spare places count too). A statement '..UptoSaid' is the law's where the arguments, and the package variables that the reading takes, are together of bulk at most 1048576: NARROWER than '..Said'. Prove '..Said' where nothing that the law and all that it calls make is longer than what came in: it says more and counts as full. Else prove '..UptoSaid'. A law counts once. -/
mutual
def uptoBulk {H : Type} : DataW H → Nat
  | .lit (.string bytes) => bytes.length + 1
  | .lit _ => 1
  | .nil => 1
  | .ptr d => uptoBulk d + 1
  | .slice elems spare => uptoBulkAll elems + uptoBulkAll spare + 1
  | .agg parts => uptoBulkAll parts + 1
  | .iface _ d => uptoBulk d + 1
  | .map entries => uptoBulkEntries entries + 1
  | .held _ => 1
def uptoBulkAll {H : Type} : List (DataW H) → Nat
  | [] => 0
  | d :: r => uptoBulk d + uptoBulkAll r
def uptoBulkEntries {H : Type} : List (Lit × DataW H) → Nat
  | [] => 0
  | x :: r => uptoBulkEntry x + uptoBulkEntries r
def uptoBulkEntry {H : Type} : Lit × DataW H → Nat
  | (.string bytes, d) => bytes.length + uptoBulk d + 1
  | (_, d) => uptoBulk d + 1
 end
def uptoSmall : (H : Type) → List (DataW H) → Bool := fun _ ds => decide (uptoBulkAll ds ≤ 1048576)
def OpenSpec.upto (s : _root_.Go.ChangeSpec) : _root_.Go.OpenSpec := { _root_.Go.OpenSpec.ofChange s with cond := some uptoSmall }

/-- 'laws.FnExactFlight', WHERE WHAT IT READS IS OF BULK AT MOST 1048576: true; the input reads as it did. -/
def fnExactFlightUptoRow : OpenClaim := { program := "ytfflheebjbdnoaq", sum := "a39b3d20ace357890b208547eab4f2ffcd24cd78779fe26a81dfe73bdb59daba", func := "loop.example/g00453/laws.FnExactFlight", spec := "fnExactFlight", apart := false, narrowed := true }
def FnExactFlightUptoSaid : Prop := fnExactFlightUptoRow.holds Try.pinned (OpenSpec.upto fnExactFlightSpec)

/-- 'laws.FnExactMaySend', WHERE WHAT IT READS IS OF BULK AT MOST 1048576: true; the input reads as it did. -/
def fnExactMaySendUptoRow : OpenClaim := { program := "ytfflheebjbdnoaq", sum := "a39b3d20ace357890b208547eab4f2ffcd24cd78779fe26a81dfe73bdb59daba", func := "loop.example/g00453/laws.FnExactMaySend", spec := "fnExactMaySend", apart := false, narrowed := true }
def FnExactMaySendUptoSaid : Prop := fnExactMaySendUptoRow.holds Try.pinned (OpenSpec.upto fnExactMaySendSpec)

/-- 'laws.FnExactSent', WHERE WHAT IT READS IS OF BULK AT MOST 1048576: true; the input reads as it did. -/
def fnExactSentUptoRow : OpenClaim := { program := "ytfflheebjbdnoaq", sum := "a39b3d20ace357890b208547eab4f2ffcd24cd78779fe26a81dfe73bdb59daba", func := "loop.example/g00453/laws.FnExactSent", spec := "fnExactSent", apart := false, narrowed := true }
def FnExactSentUptoSaid : Prop := fnExactSentUptoRow.holds Try.pinned (OpenSpec.upto fnExactSentSpec)

/-- 'laws.FnExactAcked', WHERE WHAT IT READS IS OF BULK AT MOST 1048576: true; the input reads as it did. -/
def fnExactAckedUptoRow : OpenClaim := { program := "ytfflheebjbdnoaq", sum := "a39b3d20ace357890b208547eab4f2ffcd24cd78779fe26a81dfe73bdb59daba", func := "loop.example/g00453/laws.FnExactAcked", spec := "fnExactAcked", unfollowed := true, recurses := true, apart := false, narrowed := true }
def FnExactAckedUptoSaid : Prop := fnExactAckedUptoRow.holds Try.pinned (OpenSpec.upto fnExactAckedSpec)

/-- 'laws.FnExactTimedOut', WHERE WHAT IT READS IS OF BULK AT MOST 1048576: true; the input reads as it did. -/
def fnExactTimedOutUptoRow : OpenClaim := { program := "ytfflheebjbdnoaq", sum := "a39b3d20ace357890b208547eab4f2ffcd24cd78779fe26a81dfe73bdb59daba", func := "loop.example/g00453/laws.FnExactTimedOut", spec := "fnExactTimedOut", unfollowed := true, recurses := true, apart := false, narrowed := true }
def FnExactTimedOutUptoSaid : Prop := fnExactTimedOutUptoRow.holds Try.pinned (OpenSpec.upto fnExactTimedOutSpec)

/-- 'laws.FnExactCubicOk', WHERE WHAT IT READS IS OF BULK AT MOST 1048576: true; the input reads as it did. -/
def fnExactCubicOkUptoRow : OpenClaim := { program := "ytfflheebjbdnoaq", sum := "a39b3d20ace357890b208547eab4f2ffcd24cd78779fe26a81dfe73bdb59daba", func := "loop.example/g00453/laws.FnExactCubicOk", spec := "fnExactCubicOk", apart := false, narrowed := true }
def FnExactCubicOkUptoSaid : Prop := fnExactCubicOkUptoRow.holds Try.pinned (OpenSpec.upto fnExactCubicOkSpec)

end Rows
end Go.Proofs.Ytfflheebjbdnoaq
