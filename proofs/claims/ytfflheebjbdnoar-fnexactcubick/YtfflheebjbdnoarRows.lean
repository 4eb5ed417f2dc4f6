/-
  No cell of these rows narrows 'for every input' (looked for: loops, veiled, ifaces, maps, wideKeys, modest, calm, conditions, laid).
  DERIVED. THE GIVEN ROWS OF THIS SEAT. 4 by the template 'for every input the law returns true; each argument reads behind the call as it read before'; 0 by the template 'total and deterministic' (their statements: YtfflheebjbdnoarTotals.lean).
  GIVEN WITH THE SEED: the statements are not yours to turn. If you find one false, say at which input.
  Laid BY PROGRAM, IN A SANDBOX (cutbox-rows.mjs): the forced cells as the released guide's own fill.sh prints them over the translation 92c8a575b78ad752… (all of the seat's roots in one cut). By AI agents, Wed Nov 11 2026. No macro, syntax, notation, axiom, sorry.
-/
import Derived.Test.YtfflheebjbdnoarChecked
import GoSem.Claim
import GoSem.ClaimJoined
import GoSem.ClaimMapViews
import Derived.JoinedTies
import Derived.KernelRfl
namespace Go.Proofs.Ytfflheebjbdnoar
/- THE CELL 'sum', in the pinned program and in every row, IS THE sha256 OF THE DUMP (.gsa) THAT YtfflheebjbdnoarProg.lean LOADS. Nothing in Lean hashes anything: it is a label: what it is worth is what the hold of that sum in a sandbox is worth. -/
noncomputable def Try.pinned : Pinned := { name := "ytfflheebjbdnoar", sum := "92c8a575b78ad75285ef070b7d4b0b539157d6b140c31eef8ffa90ba7742f689", checked := Try.checked }
namespace Rows
def none {H : Type} : Left H := { results := [], args := [] }

/-- 'laws.FnExactCubicNew': WHATEVER THE INPUT: true; the input reads as it did. -/
def fnExactCubicNewSpec : ChangeSpec := { name := "fnExactCubicNew", fn := fun _ => fun
  | [d] => { results := [.lit (.bool true)], args := [d] }
  | _ => none }
def fnExactCubicNewRow : OpenClaim := { program := "ytfflheebjbdnoar", sum := "92c8a575b78ad75285ef070b7d4b0b539157d6b140c31eef8ffa90ba7742f689", func := "loop.example/g00453/laws.FnExactCubicNew", spec := "fnExactCubicNew", apart := false }
def FnExactCubicNewSaid : Prop := fnExactCubicNewRow.holds Try.pinned (OpenSpec.ofChange fnExactCubicNewSpec)

/-- ITS FALSE NEIGHBOUR: 'it returns false'. Refute it at one input. -/
def fnExactCubicNewWrong : ChangeSpec := { name := "fnExactCubicNew", fn := fun _ => fun
  | [d] => { results := [.lit (.bool false)], args := [d] }
  | _ => none }
def FnExactCubicNewWrongFalsely : Prop := fnExactCubicNewRow.holds Try.pinned (OpenSpec.ofChange fnExactCubicNewWrong)

/-- 'laws.FnExactCubicK': WHATEVER THE INPUT: true; the input reads as it did. -/
def fnExactCubicKSpec : ChangeSpec := { name := "fnExactCubicK", fn := fun _ => fun
  | [d1, d2] => { results := [.lit (.bool true)], args := [d1, d2] }
  | _ => none }
def fnExactCubicKRow : OpenClaim := { program := "ytfflheebjbdnoar", sum := "92c8a575b78ad75285ef070b7d4b0b539157d6b140c31eef8ffa90ba7742f689", func := "loop.example/g00453/laws.FnExactCubicK", spec := "fnExactCubicK", unfollowed := true, recurses := true, apart := false }
def FnExactCubicKSaid : Prop := fnExactCubicKRow.holds Try.pinned (OpenSpec.ofChange fnExactCubicKSpec)

/-- ITS FALSE NEIGHBOUR: 'it returns false'. Refute it at one input. -/
def fnExactCubicKWrong : ChangeSpec := { name := "fnExactCubicK", fn := fun _ => fun
  | [d1, d2] => { results := [.lit (.bool false)], args := [d1, d2] }
  | _ => none }
def FnExactCubicKWrongFalsely : Prop := fnExactCubicKRow.holds Try.pinned (OpenSpec.ofChange fnExactCubicKWrong)

/-- 'laws.FnExactCubicW': WHATEVER THE INPUT: true; the input reads as it did. -/
def fnExactCubicWSpec : ChangeSpec := { name := "fnExactCubicW", fn := fun _ => fun
  | [d1, d2, d3] => { results := [.lit (.bool true)], args := [d1, d2, d3] }
  | _ => none }
def fnExactCubicWRow : OpenClaim := { program := "ytfflheebjbdnoar", sum := "92c8a575b78ad75285ef070b7d4b0b539157d6b140c31eef8ffa90ba7742f689", func := "loop.example/g00453/laws.FnExactCubicW", spec := "fnExactCubicW", apart := false }
def FnExactCubicWSaid : Prop := fnExactCubicWRow.holds Try.pinned (OpenSpec.ofChange fnExactCubicWSpec)

/-- ITS FALSE NEIGHBOUR: 'it returns false'. Refute it at one input. -/
def fnExactCubicWWrong : ChangeSpec := { name := "fnExactCubicW", fn := fun _ => fun
  | [d1, d2, d3] => { results := [.lit (.bool false)], args := [d1, d2, d3] }
  | _ => none }
def FnExactCubicWWrongFalsely : Prop := fnExactCubicWRow.holds Try.pinned (OpenSpec.ofChange fnExactCubicWWrong)

/-- 'laws.FnExactFriendly': WHATEVER THE INPUT: true; the input reads as it did. -/
def fnExactFriendlySpec : ChangeSpec := { name := "fnExactFriendly", fn := fun _ => fun
  | [d1, d2] => { results := [.lit (.bool true)], args := [d1, d2] }
  | _ => none }
def fnExactFriendlyRow : OpenClaim := { program := "ytfflheebjbdnoar", sum := "92c8a575b78ad75285ef070b7d4b0b539157d6b140c31eef8ffa90ba7742f689", func := "loop.example/g00453/laws.FnExactFriendly", spec := "fnExactFriendly", apart := false }
def FnExactFriendlySaid : Prop := fnExactFriendlyRow.holds Try.pinned (OpenSpec.ofChange fnExactFriendlySpec)

/-- ITS FALSE NEIGHBOUR: 'it returns false'. Refute it at one input. -/
def fnExactFriendlyWrong : ChangeSpec := { name := "fnExactFriendly", fn := fun _ => fun
  | [d1, d2] => { results := [.lit (.bool false)], args := [d1, d2] }
  | _ => none }
def FnExactFriendlyWrongFalsely : Prop := fnExactFriendlyRow.holds Try.pinned (OpenSpec.ofChange fnExactFriendlyWrong)

/- THE SECOND FORM. 'bulk': how many values and letters a reading holds, each counted each time it is reached (what is shared counts as often as it is met; a slice's spare places count too). A statement '..UptoSaid' is the law's where the arguments, and the package variables that the reading takes, are together of bulk at most 1048576: NARROWER than '..Said'. Prove '..Said' where nothing that the law and all that it calls make is longer than what came in: it says more and counts as full. Else prove '..UptoSaid'. A law counts once. -/
mutual
def uptoBulk {H : Type} : DataW H → Nat
  | .lit (.string bytes) => bytes.length + 1
  | .lit _ => 1
  | .nil => 1
  | .ptr d => uptoBulk d + 1
  | .slice elems spare => uptoBulkAll elems + uptoBulkAll spare + 1
  | .agg parts => uptoBulkAll parts + 1
  | .iface _ d => uptoBulk d + 1
  | .map entries => uptoBulkEntries entries + 1
  | .held _ => 1
def uptoBulkAll {H : Type} : List (DataW H) → Nat
  | [] => 0
  | d :: r => uptoBulk d + uptoBulkAll r
def uptoBulkEntries {H : Type} : List (Lit × DataW H) → Nat
  | [] => 0
  | x :: r => uptoBulkEntry x + uptoBulkEntries r
def uptoBulkEntry {H : Type} : Lit × DataW H → Nat
  | (.string bytes, d) => bytes.length + uptoBulk d + 1
  | (_, d) => uptoBulk d + 1
 end
def uptoSmall : (H : Type) → List (DataW H) → Bool := fun _ ds => decide (uptoBulkAll ds ≤ 1048576)
def OpenSpec.upto (s : _root_.Go.ChangeSpec) : _root_.Go.OpenSpec := { _root_.Go.OpenSpec.ofChange s with cond := some uptoSmall }

/-- 'laws.FnExactCubicNew', WHERE WHAT IT READS IS OF BULK AT MOST 1048576: true; the input reads as it did. -/
def fnExactCubicNewUptoRow : OpenClaim := { program := "ytfflheebjbdnoar", sum := "92c8a575b78ad75285ef070b7d4b0b539157d6b140c31eef8ffa90ba7742f689", func := "loop.example/g00453/laws.FnExactCubicNew", spec := "fnExactCubicNew", apart := false, narrowed := true }
def FnExactCubicNewUptoSaid : Prop := fnExactCubicNewUptoRow.holds Try.pinned (OpenSpec.upto fnExactCubicNewSpec)

/-- 'laws.FnExactCubicK', WHERE WHAT IT READS IS OF BULK AT MOST 1048576: true; the input reads as it did. -/
def fnExactCubicKUptoRow : OpenClaim := { program := "ytfflheebjbdnoar", sum := "92c8a575b78ad75285ef070b7d4b0b539157d6b140c31eef8ffa90ba7742f689", func := "loop.example/g00453/laws.FnExactCubicK", spec := "fnExactCubicK", unfollowed := true, recurses := true, apart := false, narrowed := true }
def FnExactCubicKUptoSaid : Prop := fnExactCubicKUptoRow.holds Try.pinned (OpenSpec.upto fnExactCubicKSpec)

/-- 'laws.FnExactCubicW', WHERE WHAT IT READS IS OF BULK AT MOST 1048576: true; the input reads as it did. -/
def fnExactCubicWUptoRow : OpenClaim := { program := "ytfflheebjbdnoar", sum := "92c8a575b78ad75285ef070b7d4b0b539157d6b140c31eef8ffa90ba7742f689", func := "loop.example/g00453/laws.FnExactCubicW", spec := "fnExactCubicW", apart := false, narrowed := true }
def FnExactCubicWUptoSaid : Prop := fnExactCubicWUptoRow.holds Try.pinned (OpenSpec.upto fnExactCubicWSpec)

/-- 'laws.FnExactFriendly', WHERE WHAT IT READS IS OF BULK AT MOST 1048576: true; the input reads as it did. -/
def fnExactFriendlyUptoRow : OpenClaim := { program := "ytfflheebjbdnoar", sum := "92c8a575b78ad75285ef070b7d4b0b539157d6b140c31eef8ffa90ba7742f689", func := "loop.example/g00453/laws.FnExactFriendly", spec := "fnExactFriendly", apart := false, narrowed := true }
def FnExactFriendlyUptoSaid : Prop := fnExactFriendlyUptoRow.holds Try.pinned (OpenSpec.upto fnExactFriendlySpec)

end Rows
end Go.Proofs.Ytfflheebjbdnoar
