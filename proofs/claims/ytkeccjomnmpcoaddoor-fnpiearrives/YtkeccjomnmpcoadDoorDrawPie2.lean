/-
  WHAT THE DRAWS OF CHAPTER 6 ANSWER: whatever the bytes are, a Pie and numbers of an int.
-/
import Derived.Test.YtkeccjomnmpcoadDoorDrawPie
namespace Go.Proofs.YtkeccjomnmpcoadDoor
open Go.RowKit
set_option linter.unusedVariables false

/-- A Pie and a number, handed back. -/
theorem ret_pi {fn : Func} {tmps : Array Value} {W : World} {i j B : Nat} {q : Pe} {b : Int} {t : TypeId} (hr : fn.results = #[.cell i 24, .tmp j]) (hi : tmps[i]?.getD undef = .pointer (some ⟨B, 0, none⟩)) (hj : tmps[j]?.getD undef = .int .i64 b) (hs : Sits W B (peCells q) t) : (results fn tmps).run Tryd.prog W = .ok (.tuple #[q.val, .int .i64 b]) W := by
  obtain ⟨c0, c1, c2, c3⟩ := pe_cells hs
  simp [results, hr, hi, hj, go_sem, c0, c1, c2, c3]
/-- A Pie and three numbers, handed back. -/
theorem ret_piii {fn : Func} {tmps : Array Value} {W : World} {i j k l B : Nat} {q : Pe} {b c d : Int} {t : TypeId} (hr : fn.results = #[.cell i 24, .tmp j, .tmp k, .tmp l]) (hi : tmps[i]?.getD undef = .pointer (some ⟨B, 0, none⟩)) (hj : tmps[j]?.getD undef = .int .i64 b) (hk : tmps[k]?.getD undef = .int .i64 c) (hl : tmps[l]?.getD undef = .int .i64 d) (hs : Sits W B (peCells q) t) : (results fn tmps).run Tryd.prog W = .ok (.tuple #[q.val, .int .i64 b, .int .i64 c, .int .i64 d]) W := by
  obtain ⟨c0, c1, c2, c3⟩ := pe_cells hs
  simp [results, hr, hi, hj, hk, hl, go_sem, c0, c1, c2, c3]

theorem pick9q (Q : Int → Prop) (B : Nat) (a : Option Addr) (len cap : Nat) (w : World) (hc : Cur w B a len cap) (L : Nat) (t : TypeId) (x1 x2 x3 x4 x5 x6 x7 x8 x9 : Int) (hs : Sits w L #[.int .i64 x1, .int .i64 x2, .int .i64 x3, .int .i64 x4, .int .i64 x5, .int .i64 x6, .int .i64 x7, .int .i64 x8, .int .i64 x9] t) (hne : L ≠ B) (h : Q x1 ∧ Q x2 ∧ Q x3 ∧ Q x4 ∧ Q x5 ∧ Q x6 ∧ Q x7 ∧ Q x8 ∧ Q x9) :
    Calls Tryd.prog 10 #[.pointer (some ⟨B, 0, none⟩), .slice (some ⟨L, 0, none⟩) 9 9] w fun e w' => ∃ x : Int, e = .returned (.int .i64 x) ∧ Q x ∧ Cur w' B a len cap ∧ Only B w w' := by
  refine pick_sits Q B a len cap w hc L 9 _ t hs hne rfl (by omega) (by omega) ?_
  intro k hk
  simp only [List.mem_cons, List.not_mem_nil, or_false] at hk
  obtain ⟨h1, h2, h3, h4, h5, h6, h7, h8, h9⟩ := h
  rcases hk with rfl | rfl | rfl | rfl | rfl | rfl | rfl | rfl | rfl
  · exact ⟨_, rfl, h1⟩
  · exact ⟨_, rfl, h2⟩
  · exact ⟨_, rfl, h3⟩
  · exact ⟨_, rfl, h4⟩
  · exact ⟨_, rfl, h5⟩
  · exact ⟨_, rfl, h6⟩
  · exact ⟨_, rfl, h7⟩
  · exact ⟨_, rfl, h8⟩
  · exact ⟨_, rfl, h9⟩

set_option maxRecDepth 20000 in
set_option maxHeartbeats 1000000 in
theorem drawPieArrive (a : Option Addr) (len cap : Nat) (w : World) (hl : len ≤ 9223372036854775807) (hcode : Code w w.heap.size a len) :
    Calls Tryd.prog 4 #[.slice a len cap] w fun e w' => ∃ (r : Pe) (n m k : Int), e = .returned (.tuple #[r.val, .int .i64 n, .int .i64 m, .int .i64 k]) ∧ r.In ∧ inP64 n ∧ inP64 m ∧ inP64 k ∧ Below w.heap.size w w' := by
  obtain ⟨W, hW⟩ : ∃ x, w.alloc (.cells (peCells Pe.zero) 24) = x := ⟨_, rfl⟩
  have hsz : W.heap.size = w.heap.size + 1 := by rw [← hW]; simp
  have z0 : Sits W w.heap.size (peCells Pe.zero) 24 := by rw [← hW]; exact Sits.new _ _ _
  have b0 : Below w.heap.size w W := by rw [← hW]; exact (Below.refl _ _).alloc (Nat.le_refl _) _
  have hcd : Code W W.heap.size a len := by
    rw [hsz, ← hW]
    rcases hcode with h | ⟨b, off, ha, hb, hk⟩
    · exact .inl h
    · refine .inr ⟨b, off, ha, by omega, fun k hk' => ?_⟩
      obtain ⟨v, v0, v1, hv⟩ := hk k hk'
      exact ⟨v, v0, v1, (World.cell?_alloc_old w _ ⟨b, off + k, none⟩ (by show b ≠ _; omega)).trans hv⟩
  clear hcode
  go_enter Tryd.func4, Tryd.ntmps4
  go_wp2_with fail
  rw [show w.alloc (.cells #[.int .i64 0, .int .i64 0, .int .i64 0, .int .i64 0] 24) = W from hW]
  refine (new_any a len cap W hl hcd).mono ?_
  rintro e w1 ⟨rfl, c1, b1⟩
  obtain ⟨B, hB⟩ : ∃ B, W.heap.size = B := ⟨_, rfl⟩
  rw [hB] at c1 ⊢
  have z1 := z0.below b1 z0.lt
  replace b1 := b0.trans (b1.mono b0.size)
  have lB : w.heap.size < B := by omega
  clear hcd hW z0 b0 hB
  go_wp2_with fail
  refine (l6bent_any B a len cap _ c1).mono ?_
  rintro e w2 ⟨r, rfl, hr, c2, o2⟩
  have z2 := z1.only o2 (by omega)
  replace b1 := b1.trans (o2.below (by omega) b1.size)
  clear z1 c1 o2
  have l2 := z2.lt
  have hl2 := c2.1
  go_wp2_with fail
  refine (below_any B a len cap _ c2 1073741824 (by omega) (by omega)).mono ?_
  rintro e w3 ⟨y, rfl, y0, y1, c3, o3⟩
  have z3 := z2.only o3 (by omega)
  replace b1 := b1.trans (o3.below (by omega) b1.size)
  clear z2 c2 o3
  have hl3 := c3.1
  have l3 := z3.lt
  go_wp2_with fail
  refine Calls.mono (pick6q inP64 B a len cap _ (Cur.alloc c3 _ _) _ _ 0 5000 2147483647 2147483648 (-1) y (Sits.new' rfl) ?ne ?q1 ?q2 ?q3 ?q4 ?q5 ?q6) ?_
  case ne => omega
  case q1 => unfold inP64; omega
  case q2 => unfold inP64; omega
  case q3 => unfold inP64; omega
  case q4 => unfold inP64; omega
  case q5 => unfold inP64; omega
  case q6 => unfold inP64; omega
  rintro e w4 ⟨n, rfl, hn, c4, o4⟩
  have z4 := (z3.alloc _).only o4 (by omega)
  replace b1 := (b1.alloc b1.size _).trans (o4.below (by omega) (by have := b1.size; simp; omega))
  clear z3 c3 o4
  have hl4 := c4.1
  have l4 := z4.lt
  go_wp2_with fail
  refine Calls.mono (pick5q inP64 B a len cap _ (Cur.alloc c4 _ _) _ _ 0 3000 3001 90000 (-1) (Sits.new' rfl) ?ne ?q1 ?q2 ?q3 ?q4 ?q5) ?_
  case ne => omega
  case q1 => unfold inP64; omega
  case q2 => unfold inP64; omega
  case q3 => unfold inP64; omega
  case q4 => unfold inP64; omega
  case q5 => unfold inP64; omega
  rintro e w5 ⟨m, rfl, hm, c5, o5⟩
  have z5 := (z4.alloc _).only o5 (by omega)
  replace b1 := (b1.alloc b1.size _).trans (o5.below (by omega) (by have := b1.size; simp; omega))
  clear z4 c4 o5
  have hl5 := c5.1
  have l5 := z5.lt
  go_wp2_with fail
  refine (below_any B a len cap _ c5 6 (by omega) (by omega)).mono ?_
  rintro e w6 ⟨k, rfl, k0, k1, c6, o6⟩
  have z6 := z5.only o6 (by omega)
  replace b1 := b1.trans (o6.below (by omega) b1.size)
  clear z5 c5 o6
  obtain ⟨e0, e1, e2, e3⟩ := pe_cells z6
  have ez := z6.frozen
  dsimp only [Pe.zero] at e0 e1 e2 e3
  have ZZ : Hid (Sits w6 w.heap.size (peCells Pe.zero) 24) := z6
  clear z6 c6
  go_wp2_with fail
  refine bodyPost_ret (ret_piii (q := r) (b := n) (c := m) (d := k - 1) (t := 24) (B := w.heap.size) Tryd.results4 rfl rfl rfl rfl ?_) rfl ⟨_, _, _, _, rfl, hr, hn, hm, by unfold inP64; omega, ?_⟩
  · exact ((((Sits.set ZZ.out 0 _).set 1 _).set 2 _).set 3 _)
  · exact ((((b1.setCell (Nat.le_refl _) _).setCell (Nat.le_refl _) _).setCell (Nat.le_refl _) _).setCell (Nat.le_refl _) _)

theorem pick_scale (B : Nat) (a : Option Addr) (len cap : Nat) (w : World) (hc : Cur w B a len cap) (L : Nat) (t : TypeId) (q : Int) (h0 : 0 ≤ q + 2147483648) (h1 : q ≤ 2147483648) (hs : Sits w L #[.int .i64 0, .int .i64 q, .int .i64 (q - 1), .int .i64 2147483648, .int .i64 2147483649, .int .i64 (-1)] t) (hne : L ≠ B) :
    Calls Tryd.prog 10 #[.pointer (some ⟨B, 0, none⟩), .slice (some ⟨L, 0, none⟩) 6 6] w fun e w' => ∃ x : Int, e = .returned (.int .i64 x) ∧ inP64 x ∧ Cur w' B a len cap ∧ Only B w w' := by
  refine pick6q inP64 B a len cap w hc L t _ _ _ _ _ _ hs hne ?_ ?_ ?_ ?_ ?_ ?_
  all_goals unfold inP64; omega

end Go.Proofs.YtkeccjomnmpcoadDoor
