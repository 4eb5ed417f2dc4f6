/-
  WHAT THE DRAWS OF CHAPTER 1 ANSWER: whatever the bytes are, ints; nothing that was there turns.
-/
import Derived.Test.YtlhocfgacikdeaaDraw
namespace Go.Proofs.Ytlhocfgacikdeaa
open Go.RowKit
set_option linter.unusedVariables false

/-- An int. -/
def In64 (x : Int) : Prop := -9223372036854775808 ≤ x ∧ x ≤ 9223372036854775807
theorem in_wrap (x : Int) : In64 (wrap64 x) := by unfold In64 wrap64; omega

/-- A list that is written out: each of its numbers has what is asked. -/
theorem cells_all {w : World} {Q : Int → Prop} (c : Array Value) (t : TypeId) (hc : ∀ v ∈ c.toList, ∃ x : Int, v = .int .i64 x ∧ Q x) : ∀ k, k < c.size → ∃ x : Int, (w.alloc (.cells c t)).cell? ⟨w.heap.size, k, none⟩ = some (.int .i64 x) ∧ Q x := by
  intro k hk
  obtain ⟨x, hx, hq⟩ := hc c[k] (by simp)
  refine ⟨x, ?_, hq⟩
  rw [World.cell?_alloc_new, getElem?_pos c k hk, hx]

theorem pick_lit (Q : Int → Prop) (B : Nat) (a : Option Addr) (len cap : Nat) (w : World) (hc : Cur w B a len cap) (c : Array Value) (t : TypeId) (n : Nat) (hn : c.size = n) (n0 : 1 ≤ n) (n1 : n ≤ 256) (hq : ∀ v ∈ c.toList, ∃ x : Int, v = .int .i64 x ∧ Q x) :
    Calls Try.prog 35 #[.pointer (some ⟨B, 0, none⟩), .slice (some ⟨w.heap.size, 0, none⟩) n n] (w.alloc (.cells c t)) fun e w' => ∃ x : Int, e = .returned (.int .i64 x) ∧ Q x ∧ Cur w' B a len cap ∧ Only B w w' := by
  have hB := hc.1
  refine (pick_any Q B a len cap _ (hc.alloc c t) w.heap.size n n0 n1 (by simp) (by omega) (by subst hn; exact cells_all c t hq)).mono ?_
  rintro e w' ⟨x, rfl, hx, hc', ho⟩
  exact ⟨x, rfl, hx, hc', ((Only.refl _ _).alloc _).trans ho⟩

set_option maxHeartbeats 400000 in
theorem draw_any (B : Nat) (a : Option Addr) (len cap : Nat) (w : World) (hc : Cur w B a len cap) :
    Calls Try.prog 27 #[.pointer (some ⟨B, 0, none⟩)] w fun e w' => ∃ x : Int, e = .returned (.int .i64 x) ∧ In64 x ∧ Cur w' B a len cap ∧ Only B w w' := by
  have hon : Only B w w := Only.refl _ _
  go_enter Try.func27, Try.ntmps27
  go_wp2_with (first | (go_at_call 34; refine (below_any B a len cap _ hc _ (by omega) (by omega)).mono ?_; clear hc; rintro e w' ⟨x, rfl, x0, x1, hc, ho⟩; replace hon := hon.trans ho; clear ho))
  refine Calls.mono (pick_lit In64 B a len cap _ hc _ _ 18 ?n1 ?n2 ?n3 ?q) ?_
  case n1 => rfl
  case n2 => omega
  case n3 => omega
  case q =>
    intro v hv
    simp only [List.mem_cons, List.not_mem_nil, or_false] at hv
    rcases hv with rfl | rfl | rfl | rfl | rfl | rfl | rfl | rfl | rfl | rfl | rfl | rfl | rfl | rfl | rfl | rfl | rfl | rfl
    all_goals exact ⟨_, rfl, by first | exact in_wrap _ | (unfold In64; omega)⟩
  clear hc
  rintro e w' ⟨x, rfl, hx, hc, ho⟩
  replace hon := hon.trans ho
  clear ho
  go_wp2
  go_ret
  exact ⟨_, rfl, hx, hc, hon⟩

set_option maxHeartbeats 400000 in
theorem drawSatAdd (a : Option Addr) (len cap : Nat) (w : World) (hl : len ≤ 9223372036854775807) (hcode : Code w w.heap.size a len) :
    Calls Try.prog 8 #[.slice a len cap] w fun e w' => ∃ x y : Int, e = .returned (.tuple #[.int .i64 x, .int .i64 y]) ∧ In64 x ∧ In64 y ∧ Below w.heap.size w w' := by
  have HC : Hid (Code w w.heap.size a len) := hcode
  clear hcode
  have tok1 : True := trivial
  go_enter Try.func8, Try.ntmps8
  go_wp2_with (first | (go_at_call 26; refine (new_any a len cap _ hl HC.out).mono ?_; rintro e w1 ⟨rfl, hc, hb⟩; have hon := Only.refl w.heap.size w1) | (go_at_call 27; have _t := tok1; refine (draw_any _ a len cap _ hc).mono ?_; clear hc tok1; rintro e w2 ⟨y, rfl, hy, hc, ho⟩; replace hon := hon.trans ho; clear ho) | (go_at_call 27; refine (draw_any _ a len cap _ hc).mono ?_; clear hc; rintro e w2 ⟨x, rfl, hx, hc, ho⟩; replace hon := hon.trans ho; clear ho))
  go_ret2
  exact ⟨y, x, rfl, hy, hx, hb.trans (hon.below (Nat.le_refl _) hb.size)⟩

set_option maxHeartbeats 400000 in
theorem drawMulDiv (a : Option Addr) (len cap : Nat) (w : World) (hl : len ≤ 9223372036854775807) (hcode : Code w w.heap.size a len) :
    Calls Try.prog 12 #[.slice a len cap] w fun e w' => ∃ x y z : Int, e = .returned (.tuple #[.int .i64 x, .int .i64 y, .int .i64 z]) ∧ In64 x ∧ In64 y ∧ In64 z ∧ Below w.heap.size w w' := by
  have HC : Hid (Code w w.heap.size a len) := hcode
  clear hcode
  have tok1 : True := trivial
  have tok2 : True := trivial
  go_enter Try.func12, Try.ntmps12
  go_wp2_with (first | (go_at_call 26; refine (new_any a len cap _ hl HC.out).mono ?_; rintro e w1 ⟨rfl, hc, hb⟩; have hon := Only.refl w.heap.size w1) | (go_at_call 27; have _t := tok1; refine (draw_any _ a len cap _ hc).mono ?_; clear hc tok1; rintro e w2 ⟨z, rfl, hz, hc, ho⟩; replace hon := hon.trans ho; clear ho) | (go_at_call 27; have _t := tok2; refine (draw_any _ a len cap _ hc).mono ?_; clear hc tok2; rintro e w2 ⟨y, rfl, hy, hc, ho⟩; replace hon := hon.trans ho; clear ho) | (go_at_call 27; refine (draw_any _ a len cap _ hc).mono ?_; clear hc; rintro e w2 ⟨x, rfl, hx, hc, ho⟩; replace hon := hon.trans ho; clear ho))
  go_ret3
  exact ⟨z, y, x, rfl, hz, hy, hx, hb.trans (hon.below (Nat.le_refl _) hb.size)⟩

set_option maxHeartbeats 400000 in
theorem drawRoot2 (a : Option Addr) (len cap : Nat) (w : World) (hl : len ≤ 9223372036854775807) (hcode : Code w w.heap.size a len) :
    Calls Try.prog 15 #[.slice a len cap] w fun e w' => ∃ x : Int, e = .returned (.int .i64 x) ∧ In64 x ∧ Below w.heap.size w w' := by
  have HC : Hid (Code w w.heap.size a len) := hcode
  clear hcode
  go_enter Try.func15, Try.ntmps15
  go_wp2_with (first | (go_at_call 26; refine (new_any a len cap _ hl HC.out).mono ?_; rintro e w1 ⟨rfl, hc, hb⟩; have hon := Only.refl w.heap.size w1) | (go_at_call 34; refine (below_any _ a len cap _ hc _ (by omega) (by omega)).mono ?_; clear hc; rintro e w2 ⟨n, rfl, n0, n1, hc, ho⟩; replace hon := hon.trans ho; clear ho) | (go_at_call 27; refine (draw_any _ a len cap _ hc).mono ?_; clear hc; rintro e w2 ⟨x, rfl, hx, hc, ho⟩; replace hon := hon.trans ho; clear ho))
  refine Calls.mono (pick_lit In64 _ a len cap _ hc _ _ 4 ?n1 ?n2 ?n3 ?q) ?_
  case n1 => rfl
  case n2 => omega
  case n3 => omega
  case q =>
    intro v hv
    simp only [List.mem_cons, List.not_mem_nil, or_false] at hv
    rcases hv with rfl | rfl | rfl | rfl
    all_goals exact ⟨_, rfl, by first | assumption | exact in_wrap _ | (unfold In64; omega)⟩
  clear hc
  rintro e w3 ⟨z, rfl, hz, hc, ho⟩
  replace hon := hon.trans ho
  go_wp2
  go_ret
  exact ⟨z, rfl, hz, hb.trans (hon.below (Nat.le_refl _) hb.size)⟩

set_option maxHeartbeats 400000 in
theorem drawRoot3 (a : Option Addr) (len cap : Nat) (w : World) (hl : len ≤ 9223372036854775807) (hcode : Code w w.heap.size a len) :
    Calls Try.prog 16 #[.slice a len cap] w fun e w' => ∃ x : Int, e = .returned (.int .i64 x) ∧ In64 x ∧ Below w.heap.size w w' := by
  have HC : Hid (Code w w.heap.size a len) := hcode
  clear hcode
  go_enter Try.func16, Try.ntmps16
  go_wp2_with (first | (go_at_call 26; refine (new_any a len cap _ hl HC.out).mono ?_; rintro e w1 ⟨rfl, hc, hb⟩; have hon := Only.refl w.heap.size w1) | (go_at_call 34; refine (below_any _ a len cap _ hc _ (by omega) (by omega)).mono ?_; clear hc; rintro e w2 ⟨n, rfl, n0, n1, hc, ho⟩; replace hon := hon.trans ho; clear ho) | (go_at_call 27; refine (draw_any _ a len cap _ hc).mono ?_; clear hc; rintro e w2 ⟨x, rfl, hx, hc, ho⟩; replace hon := hon.trans ho; clear ho))
  refine Calls.mono (pick_lit In64 _ a len cap _ hc _ _ 4 ?n1 ?n2 ?n3 ?q) ?_
  case n1 => rfl
  case n2 => omega
  case n3 => omega
  case q =>
    intro v hv
    simp only [List.mem_cons, List.not_mem_nil, or_false] at hv
    rcases hv with rfl | rfl | rfl | rfl
    all_goals exact ⟨_, rfl, by first | assumption | exact in_wrap _ | (unfold In64; omega)⟩
  clear hc
  rintro e w3 ⟨z, rfl, hz, hc, ho⟩
  replace hon := hon.trans ho
  go_wp2
  go_ret
  exact ⟨z, rfl, hz, hb.trans (hon.below (Nat.le_refl _) hb.size)⟩

set_option maxHeartbeats 400000 in
theorem drawInvRoot (a : Option Addr) (len cap : Nat) (w : World) (hl : len ≤ 9223372036854775807) (hcode : Code w w.heap.size a len) :
    Calls Try.prog 18 #[.slice a len cap] w fun e w' => ∃ x : Int, e = .returned (.int .i64 x) ∧ In64 x ∧ Below w.heap.size w w' := by
  have HC : Hid (Code w w.heap.size a len) := hcode
  clear hcode
  go_enter Try.func18, Try.ntmps18
  go_wp2_with (first | (go_at_call 26; refine (new_any a len cap _ hl HC.out).mono ?_; rintro e w1 ⟨rfl, hc, hb⟩; have hon := Only.refl w.heap.size w1) | (go_at_call 34; refine (below_any _ a len cap _ hc _ (by omega) (by omega)).mono ?_; clear hc; rintro e w2 ⟨n, rfl, n0, n1, hc, ho⟩; replace hon := hon.trans ho; clear ho))
  refine Calls.mono (pick_lit In64 _ a len cap _ hc _ _ 11 ?n1 ?n2 ?n3 ?q) ?_
  case n1 => rfl
  case n2 => omega
  case n3 => omega
  case q =>
    intro v hv
    simp only [List.mem_cons, List.not_mem_nil, or_false] at hv
    rcases hv with rfl | rfl | rfl | rfl | rfl | rfl | rfl | rfl | rfl | rfl | rfl
    all_goals exact ⟨_, rfl, by first | assumption | exact in_wrap _ | (unfold In64; omega)⟩
  clear hc
  rintro e w3 ⟨z, rfl, hz, hc, ho⟩
  replace hon := hon.trans ho
  go_wp2
  go_ret
  exact ⟨z, rfl, hz, hb.trans (hon.below (Nat.le_refl _) hb.size)⟩

end Go.Proofs.Ytlhocfgacikdeaa
