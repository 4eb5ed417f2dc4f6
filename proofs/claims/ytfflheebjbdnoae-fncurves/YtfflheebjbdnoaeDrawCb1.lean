/-
  WHAT DrawCubicW AND DrawCubicK ANSWER: ints of their lists; nothing that was there turns.
-/
import Derived.Test.YtfflheebjbdnoaeDraw1
import Derived.Test.YtfflheebjbdnoaeDrawR1
namespace Go.Proofs.Ytfflheebjbdnoae
open Go.RowKit
set_option linter.unusedVariables false

set_option maxHeartbeats 1000000 in
theorem drawCubicW (a : Option Addr) (len cap : Nat) (w : World) (hl : len ≤ 9223372036854775807) (hcode : Code w w.heap.size a len) :
    Calls Try.prog 20 #[.slice a len cap] w fun e w' => ∃ x y z : Int, e = .returned (.tuple #[.int .i64 x, .int .i64 y, .int .i64 z]) ∧ In64 x ∧ In64 y ∧ In64 z ∧ Below w.heap.size w w' := by
  have HC : Hid (Code w w.heap.size a len) := hcode
  clear hcode
  go_enter Try.func20, Try.ntmps20
  go_wp2_with (first | (go_at_call 24; refine (new_any a len cap _ hl HC.out).mono ?_; rintro e w1 ⟨rfl, hc, hb⟩; have hon := Only.refl w.heap.size w1))
  refine Calls.mono (pick_lit In64 _ a len cap _ hc _ _ 5 ?n1 ?n2 ?n3 ?q) ?_
  case n1 => rfl
  case n2 => omega
  case n3 => omega
  case q =>
    intro v hv
    simp only [List.mem_cons, List.not_mem_nil, or_false] at hv
    rcases hv with rfl | rfl | rfl | rfl | rfl
    all_goals exact ⟨_, rfl, by (unfold In64; omega)⟩
  clear hc
  rintro e w3 ⟨x, rfl, hx, hc, ho⟩
  replace hon := hon.trans ho
  clear ho
  go_wp2_with (fail)
  refine Calls.mono (pick_lit In64 _ a len cap _ hc _ _ 6 ?n1 ?n2 ?n3 ?q) ?_
  case n1 => rfl
  case n2 => omega
  case n3 => omega
  case q =>
    intro v hv
    simp only [List.mem_cons, List.not_mem_nil, or_false] at hv
    rcases hv with rfl | rfl | rfl | rfl | rfl | rfl
    all_goals exact ⟨_, rfl, by (unfold In64; omega)⟩
  clear hc
  rintro e w3 ⟨y, rfl, hy, hc, ho⟩
  replace hon := hon.trans ho
  clear ho
  go_wp2_with (fail)
  refine Calls.mono (pick_lit In64 _ a len cap _ hc _ _ 7 ?n1 ?n2 ?n3 ?q) ?_
  case n1 => rfl
  case n2 => omega
  case n3 => omega
  case q =>
    intro v hv
    simp only [List.mem_cons, List.not_mem_nil, or_false] at hv
    rcases hv with rfl | rfl | rfl | rfl | rfl | rfl | rfl
    all_goals exact ⟨_, rfl, by (unfold In64; omega)⟩
  clear hc
  rintro e w3 ⟨z, rfl, hz, hc, ho⟩
  replace hon := hon.trans ho
  clear ho
  go_wp2
  go_ret3
  exact ⟨x, y, z, rfl, hx, hy, hz, hb.trans (hon.below (Nat.le_refl _) hb.size)⟩

set_option maxHeartbeats 1000000 in
theorem drawCubicK (a : Option Addr) (len cap : Nat) (w : World) (hl : len ≤ 9223372036854775807) (hcode : Code w w.heap.size a len) :
    Calls Try.prog 22 #[.slice a len cap] w fun e w' => ∃ x y : Int, e = .returned (.tuple #[.int .i64 x, .int .i64 y]) ∧ In64 x ∧ In64 y ∧ Below w.heap.size w w' := by
  have HC : Hid (Code w w.heap.size a len) := hcode
  clear hcode
  go_enter Try.func22, Try.ntmps22
  go_wp2_with (first | (go_at_call 24; refine (new_any a len cap _ hl HC.out).mono ?_; rintro e w1 ⟨rfl, hc, hb⟩; have hon := Only.refl w.heap.size w1) | (go_at_call 34; refine (below_any _ a len cap _ hc 1048576 (by omega) (by omega)).mono ?_; clear hc; rintro e w2 ⟨u, rfl, u0, u1, hc, ho⟩; replace hon := hon.trans ho; clear ho))
  refine Calls.mono (pick_lit In64 _ a len cap _ hc _ _ 7 ?n1 ?n2 ?n3 ?q) ?_
  case n1 => rfl
  case n2 => omega
  case n3 => omega
  case q =>
    intro v hv
    simp only [List.mem_cons, List.not_mem_nil, or_false] at hv
    rcases hv with rfl | rfl | rfl | rfl | rfl | rfl | rfl
    all_goals exact ⟨_, rfl, by (unfold In64; omega)⟩
  clear hc
  rintro e w3 ⟨x, rfl, hx, hc, ho⟩
  replace hon := hon.trans ho
  clear ho
  go_wp2_with (fail)
  refine Calls.mono (pick_lit In64 _ a len cap _ hc _ _ 5 ?n1 ?n2 ?n3 ?q) ?_
  case n1 => rfl
  case n2 => omega
  case n3 => omega
  case q =>
    intro v hv
    simp only [List.mem_cons, List.not_mem_nil, or_false] at hv
    rcases hv with rfl | rfl | rfl | rfl | rfl
    all_goals exact ⟨_, rfl, by (unfold In64; omega)⟩
  clear hc
  rintro e w3 ⟨y, rfl, hy, hc, ho⟩
  replace hon := hon.trans ho
  clear ho
  go_wp2
  go_ret2
  exact ⟨x, y, rfl, hx, hy, hb.trans (hon.below (Nat.le_refl _) hb.size)⟩

end Go.Proofs.Ytfflheebjbdnoae
