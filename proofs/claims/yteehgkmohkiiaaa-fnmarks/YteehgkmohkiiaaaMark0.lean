/-
  WHAT IS MARKED: the bytes, by numbers.
-/
import Derived.Test.YteehgkmohkiiaaaBuildI
namespace Go.Proofs.Yteehgkmohkiiaaa
open Go.RowKit
set_option linter.unusedVariables false

def Fr.ce (r : Fr) : Fr := ⟨r.dscp, 3, r.id, r.ttl, r.proto, r.src, r.dst, r.srcP, r.dstP⟩
/-- The marked byte. -/
def or3 (x : Int) : Int := x - x % 4 + 3
/-- The new sum, by RFC 1624. -/
def msumF (f : Nat → Int) : Int := 65535 - foldF (65535 - get16F f 10 + 65535 - get16F f 0 + (f 0 * 256 + or3 (f 1)))
def markF (f : Nat → Int) (i : Nat) : Int := if i = 11 then msumF f % 256 else if i = 10 then msumF f / 256 % 256 else if i = 1 then or3 (f 1) else f i

end Go.Proofs.Yteehgkmohkiiaaa
