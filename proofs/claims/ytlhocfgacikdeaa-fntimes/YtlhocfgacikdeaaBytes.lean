/-
  WHAT BytesOf ANSWERS, the program's and the specification's: MulDiv of time, rate and 1000000000.
-/
import Derived.Test.YtlhocfgacikdeaaWide
import Derived.Test.YtlhocfgacikdeaaMulDiv
namespace Go.Proofs.Ytlhocfgacikdeaa
open Go.RowKit
set_option linter.unusedVariables false


theorem bytesOf_impl_ok (t r : Int) (t1 : t ≤ 9223372036854775807) (r1 : r ≤ 9223372036854775807) (t0 : 0 ≤ t) (r0 : 0 ≤ r) (h : t * r / 1000000000 ≤ 9223372036854775807) (w : World) :
    Calls Try.prog 25 #[.int .i64 t, .int .i64 r] w fun e w' => e = .returned (.tuple #[.int .i64 (t * r / 1000000000), .bool true]) ∧ Kept w w' := by
  have H : Hid _ := h
  clear h
  go_enter Try.func25, Try.ntmps25
  go_wp2_with (go_at_call 13; refine (mulDiv_ok _ _ _ (by omega) (by omega) (by omega) (by omega) (by omega) (by omega) H.out _).mono ?_; rintro e w' ⟨rfl, hk⟩)
  go_ret2
  exact ⟨rfl, hk⟩

theorem bytesOf_impl_big (t r : Int) (t1 : t ≤ 9223372036854775807) (r1 : r ≤ 9223372036854775807) (t0 : 0 ≤ t) (r0 : 0 ≤ r) (h : ¬ t * r / 1000000000 ≤ 9223372036854775807) (w : World) :
    Calls Try.prog 25 #[.int .i64 t, .int .i64 r] w fun e w' => e = .returned (.tuple #[.int .i64 0, .bool false]) ∧ Kept w w' := by
  have H : Hid _ := h
  clear h
  go_enter Try.func25, Try.ntmps25
  go_wp2_with (go_at_call 13; refine (mulDiv_big _ _ _ (by omega) (by omega) (by omega) (by omega) (by omega) (by omega) H.out _).mono ?_; rintro e w' ⟨rfl, hk⟩)
  go_ret2
  exact ⟨rfl, hk⟩

theorem bytesOf_impl_no (t r : Int) (h : t < 0 ∨ r < 0) (w : World) :
    Calls Try.prog 25 #[.int .i64 t, .int .i64 r] w fun e w' => e = .returned (.tuple #[.int .i64 0, .bool false]) ∧ Kept w w' := by
  have H : Hid _ := h
  clear h
  go_enter Try.func25, Try.ntmps25
  go_wp2_with (go_at_call 13; refine (mulDiv_no _ _ _ (by have := H.out; omega) _).mono ?_; rintro e w' ⟨rfl, hk⟩)
  go_ret2
  exact ⟨rfl, hk⟩

end Go.Proofs.Ytlhocfgacikdeaa
