/-
  WHAT DrawBefore AND DrawTimeOf ANSWER: whatever the bytes are, two ints; nothing that was there turns.
-/
import Derived.Test.YtlhocfgacikdeaaDraw1
import Derived.Test.YtlhocfgacikdeaaSats
namespace Go.Proofs.Ytlhocfgacikdeaa
open Go.RowKit
set_option linter.unusedVariables false

theorem half_in {x : Int} (h0 : -9223372036854775807 ≤ x) (h1 : x ≤ 9223372036854775807) : In64 (x.tdiv 2) := by
  unfold In64
  rcases Int.le_total 0 x with h | h
  · rw [Int.tdiv_eq_ediv_of_nonneg h]; omega
  · have e : x.tdiv 2 = -((-x) / 2) := by
      rw [← Int.tdiv_eq_ediv_of_nonneg (show 0 ≤ -x by omega), Int.neg_tdiv, Int.neg_neg]
    rw [e]; omega

set_option maxHeartbeats 400000 in
theorem drawBefore (a : Option Addr) (len cap : Nat) (w : World) (hl : len ≤ 9223372036854775807) (hcode : Code w w.heap.size a len) :
    Calls Try.prog 20 #[.slice a len cap] w fun e w' => ∃ x y : Int, e = .returned (.tuple #[.int .i64 x, .int .i64 y]) ∧ In64 x ∧ In64 y ∧ Below w.heap.size w w' := by
  have HC : Hid (Code w w.heap.size a len) := hcode
  clear hcode
  have tok1 : True := trivial
  go_enter Try.func20, Try.ntmps20
  go_wp2_with (first | (go_at_call 26; refine (new_any a len cap _ hl HC.out).mono ?_; rintro e w1 ⟨rfl, hc, hb⟩; have hon := Only.refl w.heap.size w1) | (go_at_call 27; have _t := tok1; refine (draw_any _ a len cap _ hc).mono ?_; clear hc tok1; rintro e w2 ⟨y, rfl, hy, hc, ho⟩; replace hon := hon.trans ho; clear ho; have hh := heldF_bd hy.2; have hi := half_in hh.1 hh.2) | (go_at_call 27; refine (draw_any _ a len cap _ hc).mono ?_; clear hc; rintro e w2 ⟨x, rfl, hx, hc, ho⟩; replace hon := hon.trans ho; clear ho) | (go_at_call 38; refine (l1in_any _ hy.1 hy.2 _).mono ?_; rintro e w3 ⟨rfl, rfl⟩))
  refine Calls.mono (pick_lit In64 _ a len cap _ hc _ _ 5 ?n1 ?n2 ?n3 ?q) ?_
  case n1 => rfl
  case n2 => omega
  case n3 => omega
  case q =>
    intro v hv
    simp only [List.mem_cons, List.not_mem_nil, or_false] at hv
    rcases hv with rfl | rfl | rfl | rfl | rfl
    all_goals exact ⟨_, rfl, by first | assumption | exact in_wrap _ | (unfold In64; omega)⟩
  clear hc
  rintro e w3 ⟨z, rfl, hz, hc, ho⟩
  replace hon := hon.trans ho
  go_wp2
  go_ret2
  exact ⟨y, z, rfl, hy, hz, hb.trans (hon.below (Nat.le_refl _) hb.size)⟩

set_option maxHeartbeats 600000 in
theorem drawTimeOf (a : Option Addr) (len cap : Nat) (w : World) (hl : len ≤ 9223372036854775807) (hcode : Code w w.heap.size a len) :
    Calls Try.prog 23 #[.slice a len cap] w fun e w' => ∃ x y : Int, e = .returned (.tuple #[.int .i64 x, .int .i64 y]) ∧ In64 x ∧ In64 y ∧ Below w.heap.size w w' := by
  have HC : Hid (Code w w.heap.size a len) := hcode
  clear hcode
  go_enter Try.func23, Try.ntmps23
  go_wp2_with (first | (go_at_call 26; refine (new_any a len cap _ hl HC.out).mono ?_; rintro e w1 ⟨rfl, hc, hb⟩; have hon := Only.refl w.heap.size w1) | (go_at_call 34; refine (below_any _ a len cap _ hc _ (by omega) (by omega)).mono ?_; clear hc; rintro e w2 ⟨n, rfl, n0, n1, hc, ho⟩; replace hon := hon.trans ho; clear ho))
  refine Calls.mono (pick_lit In64 _ a len cap _ hc _ _ 7 ?n1 ?n2 ?n3 ?q) ?_
  case n1 => rfl
  case n2 => omega
  case n3 => omega
  case q =>
    intro v hv
    simp only [List.mem_cons, List.not_mem_nil, or_false] at hv
    rcases hv with rfl | rfl | rfl | rfl | rfl | rfl | rfl
    all_goals exact ⟨_, rfl, by first | assumption | exact in_wrap _ | (unfold In64; omega)⟩
  clear hc
  rintro e w3 ⟨y, rfl, hy, hc, ho⟩
  replace hon := hon.trans ho
  clear ho
  go_wp2_with (first | (go_at_call 34; refine (below_any _ a len cap _ hc _ (by omega) (by omega)).mono ?_; clear hc; rintro e w2 ⟨n, rfl, n0, n1, hc, ho⟩; replace hon := hon.trans ho; clear ho))
  refine Calls.mono (pick_lit In64 _ a len cap _ hc _ _ 8 ?n1 ?n2 ?n3 ?q) ?_
  case n1 => rfl
  case n2 => omega
  case n3 => omega
  case q =>
    intro v hv
    simp only [List.mem_cons, List.not_mem_nil, or_false] at hv
    rcases hv with rfl | rfl | rfl | rfl | rfl | rfl | rfl | rfl
    all_goals exact ⟨_, rfl, by first | assumption | exact in_wrap _ | (unfold In64; omega)⟩
  clear hc
  rintro e w3 ⟨z, rfl, hz, hc, ho⟩
  replace hon := hon.trans ho
  go_wp2
  go_ret2
  exact ⟨y, z, rfl, hy, hz, hb.trans (hon.below (Nat.le_refl _) hb.size)⟩

end Go.Proofs.Ytlhocfgacikdeaa
