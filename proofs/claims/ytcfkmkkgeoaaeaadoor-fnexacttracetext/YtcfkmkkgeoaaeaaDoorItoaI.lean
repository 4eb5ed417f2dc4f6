/-
  strconv.Itoa, OFF THE SHELF.
-/
import Derived.Test.YtcfkmkkgeoaaeaaDoorProg
import Derived.Shelf.Strconv.Itoa3
import Derived.Shelf.Lay
import Derived.Ground.NamesProg
namespace Go.Proofs.YtcfkmkkgeoaaeaaDoor
open Go.Shelf

shelf_lay LaysM.n171 Nm 171 at Tryd as laysItoa

theorem itoa_laid (n : Int) (h0 : -9223372036854775808 ≤ n) (h1 : n ≤ 9223372036854775807) (w : World) (htab : Lib.TabIs Tryd.prog w "internal/strconv.uint64pow10" .u64 Lib.pow10Tab) :
    Calls Tryd.prog 31 #[.int .i64 n] w fun e w' => e = .returned (.string ⟨(Lib.itoa n).toArray⟩) ∧ ∃ k os, w' = Sort.grow (w.drewN k) os := Any.strconv_Itoa laysItoa n h0 h1 w htab

end Go.Proofs.YtcfkmkkgeoaaeaaDoor
