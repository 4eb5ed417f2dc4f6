/-
  WHAT DrawRedArrive ANSWERS: whatever the bytes are, a Red of ints, and two ints.
-/
import Derived.Test.YtboomccnfnaboacDrawRed2
namespace Go.Proofs.Ytboomccnfnaboac
open Go.RowKit
set_option linter.unusedVariables false

/-- A Red and two numbers, handed back. -/
theorem ret_rii {fn : Func} {tmps : Array Value} {W : World} {i j k B : Nat} {q : Rd} {b c : Int} {t : TypeId} (hr : fn.results = #[.cell i 24, .tmp j, .tmp k]) (hi : tmps[i]?.getD undef = .pointer (some ⟨B, 0, none⟩)) (hj : tmps[j]?.getD undef = .int .i64 b) (hk : tmps[k]?.getD undef = .int .i64 c) (hs : Sits W B (rdCells q) t) : (results fn tmps).run Try.prog W = .ok (.tuple #[q.val, .int .i64 b, .int .i64 c]) W := by
  obtain ⟨c0, c1, c2, c3, c4⟩ := rd_cells hs
  simp [results, hr, hi, hj, hk, go_sem, c0, c1, c2, c3, c4]

set_option maxHeartbeats 1000000 in
theorem drawRedArrive (a : Option Addr) (len cap : Nat) (w : World) (hl : len ≤ 9223372036854775807) (hcode : Code w w.heap.size a len) :
    Calls Try.prog 4 #[.slice a len cap] w fun e w' => ∃ (r : Rd) (n d : Int), e = .returned (.tuple #[r.val, .int .i64 n, .int .i64 d]) ∧ r.In ∧ In64' n ∧ In64' d ∧ Below w.heap.size w w' := by
  obtain ⟨W, hW⟩ : ∃ x, w.alloc (.cells (rdCells Rd.zero) 24) = x := ⟨_, rfl⟩
  have hsz : W.heap.size = w.heap.size + 1 := by rw [← hW]; simp
  have z0 : Sits W w.heap.size (rdCells Rd.zero) 24 := by rw [← hW]; exact Sits.new _ _ _
  have b0 : Below w.heap.size w W := by rw [← hW]; exact (Below.refl _ _).alloc (Nat.le_refl _) _
  have hcd : Code W W.heap.size a len := by
    rw [hsz, ← hW]
    rcases hcode with h | ⟨b, off, ha, hb, hk⟩
    · exact .inl h
    · refine .inr ⟨b, off, ha, by omega, fun k hk' => ?_⟩
      obtain ⟨v, v0, v1, hv⟩ := hk k hk'
      exact ⟨v, v0, v1, (World.cell?_alloc_old w _ ⟨b, off + k, none⟩ (by show b ≠ _; omega)).trans hv⟩
  clear hcode
  go_enter Try.func4, Try.ntmps4
  go_wp2_with fail
  rw [show w.alloc (.cells #[.int .i64 0, .int .i64 0, .int .i64 0, .int .i64 0, .int .i64 0] 24) = W from hW]
  refine (new_any a len cap W hl hcd).mono ?_
  rintro e w1 ⟨rfl, c1, b1⟩
  obtain ⟨B, hB⟩ : ∃ B, W.heap.size = B := ⟨_, rfl⟩
  rw [hB] at c1 ⊢
  have z1 := z0.below b1 z0.lt
  replace b1 := b0.trans (b1.mono b0.size)
  have lB : w.heap.size < B := by omega
  clear hcd hW z0 b0 hB
  go_wp2_with fail
  refine (l4bent_any B a len cap _ c1).mono ?_
  rintro e w2 ⟨r, rfl, hr, c2, o2⟩
  have z2 := z1.only o2 (by omega)
  replace b1 := b1.trans (o2.below (by omega) b1.size)
  clear z1 c1 o2
  have l2 := z2.lt
  have hl2 := c2.1
  go_wp2_with fail
  refine Calls.mono (pick_sits In64' B a len cap _ (Cur.alloc c2 _ _) _ 6 _ _ (Sits.new' rfl) ?ne ?n1 ?n2 ?n3 ?q) ?_
  case ne => omega
  case n1 => rfl
  case n2 => omega
  case n3 => omega
  case q =>
    intro v hv
    simp only [List.mem_cons, List.not_mem_nil, or_false] at hv
    rcases hv with rfl | rfl | rfl | rfl | rfl | rfl
    all_goals exact ⟨_, rfl, by unfold In64'; omega⟩
  rintro e w3 ⟨n, rfl, hn, c3, o3⟩
  have z3 := (z2.alloc _).only o3 (by omega)
  replace b1 := (b1.alloc b1.size _).trans (o3.below (by omega) (by have := b1.size; simp; omega))
  clear z2 c2 o3
  go_wp2_with fail
  refine (below_any B a len cap _ c3 65536 (by omega) (by omega)).mono ?_
  rintro e w4 ⟨k, rfl, k0, k1, c4, o4⟩
  have z4 := z3.only o4 (by omega)
  replace b1 := b1.trans (o4.below (by omega) b1.size)
  clear z3 c3 o4
  have l4 := z4.lt
  have hl4 := c4.1
  go_wp2_with fail
  refine Calls.mono (pick_sits In64' B a len cap _ (Cur.alloc c4 _ _) _ 6 _ _ (Sits.new' rfl) ?ne ?n1 ?n2 ?n3 ?q) ?_
  case ne => omega
  case n1 => rfl
  case n2 => omega
  case n3 => omega
  case q =>
    intro v hv
    simp only [List.mem_cons, List.not_mem_nil, or_false] at hv
    rcases hv with rfl | rfl | rfl | rfl | rfl | rfl
    all_goals exact ⟨_, rfl, by unfold In64'; omega⟩
  rintro e w5 ⟨d, rfl, hd, c5, o5⟩
  have z5 := (z4.alloc _).only o5 (by omega)
  replace b1 := (b1.alloc b1.size _).trans (o5.below (by omega) (by have := b1.size; simp; omega))
  clear z4 c4 o5
  obtain ⟨e0, e1, e2, e3, e4⟩ := rd_cells z5
  have ez := z5.frozen
  dsimp only [Rd.zero] at e0 e1 e2 e3 e4
  have ZZ : Hid (Sits w5 w.heap.size (rdCells Rd.zero) 24) := z5
  clear z5 c5
  go_wp2_with fail
  refine bodyPost_ret (ret_rii (q := r) (b := n) (c := d) (t := 24) (B := w.heap.size) Try.results4 rfl rfl rfl ?_) rfl ⟨_, _, _, rfl, hr, hn, hd, ?_⟩
  · exact (((((Sits.set ZZ.out 0 _).set 1 _).set 2 _).set 3 _).set 4 _)
  · exact (((((b1.setCell (Nat.le_refl _) _).setCell (Nat.le_refl _) _).setCell (Nat.le_refl _) _).setCell (Nat.le_refl _) _).setCell (Nat.le_refl _) _)

end Go.Proofs.Ytboomccnfnaboac
