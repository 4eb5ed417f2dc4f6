/-
  WHAT THE DRAWS OF CHAPTER 6 ANSWER: whatever the bytes are, a Pie and numbers of an int.
-/
import Derived.Test.YtkeccjomnmpcoacDoorDrawPie
namespace Go.Proofs.YtkeccjomnmpcoacDoor
open Go.RowKit
set_option linter.unusedVariables false

/-- A Pie and a number, handed back. -/
theorem ret_pi {fn : Func} {tmps : Array Value} {W : World} {i j B : Nat} {q : Pe} {b : Int} {t : TypeId} (hr : fn.results = #[.cell i 24, .tmp j]) (hi : tmps[i]?.getD undef = .pointer (some ⟨B, 0, none⟩)) (hj : tmps[j]?.getD undef = .int .i64 b) (hs : Sits W B (peCells q) t) : (results fn tmps).run Tryd.prog W = .ok (.tuple #[q.val, .int .i64 b]) W := by
  obtain ⟨c0, c1, c2, c3⟩ := pe_cells hs
  simp [results, hr, hi, hj, go_sem, c0, c1, c2, c3]
/-- A Pie and three numbers, handed back. -/
theorem ret_piii {fn : Func} {tmps : Array Value} {W : World} {i j k l B : Nat} {q : Pe} {b c d : Int} {t : TypeId} (hr : fn.results = #[.cell i 24, .tmp j, .tmp k, .tmp l]) (hi : tmps[i]?.getD undef = .pointer (some ⟨B, 0, none⟩)) (hj : tmps[j]?.getD undef = .int .i64 b) (hk : tmps[k]?.getD undef = .int .i64 c) (hl : tmps[l]?.getD undef = .int .i64 d) (hs : Sits W B (peCells q) t) : (results fn tmps).run Tryd.prog W = .ok (.tuple #[q.val, .int .i64 b, .int .i64 c, .int .i64 d]) W := by
  obtain ⟨c0, c1, c2, c3⟩ := pe_cells hs
  simp [results, hr, hi, hj, hk, hl, go_sem, c0, c1, c2, c3]

theorem pick9q (Q : Int → Prop) (B : Nat) (a : Option Addr) (len cap : Nat) (w : World) (hc : Cur w B a len cap) (L : Nat) (t : TypeId) (x1 x2 x3 x4 x5 x6 x7 x8 x9 : Int) (hs : Sits w L #[.int .i64 x1, .int .i64 x2, .int .i64 x3, .int .i64 x4, .int .i64 x5, .int .i64 x6, .int .i64 x7, .int .i64 x8, .int .i64 x9] t) (hne : L ≠ B) (h : Q x1 ∧ Q x2 ∧ Q x3 ∧ Q x4 ∧ Q x5 ∧ Q x6 ∧ Q x7 ∧ Q x8 ∧ Q x9) :
    Calls Tryd.prog 13 #[.pointer (some ⟨B, 0, none⟩), .slice (some ⟨L, 0, none⟩) 9 9] w fun e w' => ∃ x : Int, e = .returned (.int .i64 x) ∧ Q x ∧ Cur w' B a len cap ∧ Only B w w' := by
  refine pick_sits Q B a len cap w hc L 9 _ t hs hne rfl (by omega) (by omega) ?_
  intro k hk
  simp only [List.mem_cons, List.not_mem_nil, or_false] at hk
  obtain ⟨h1, h2, h3, h4, h5, h6, h7, h8, h9⟩ := h
  rcases hk with rfl | rfl | rfl | rfl | rfl | rfl | rfl | rfl | rfl
  · exact ⟨_, rfl, h1⟩
  · exact ⟨_, rfl, h2⟩
  · exact ⟨_, rfl, h3⟩
  · exact ⟨_, rfl, h4⟩
  · exact ⟨_, rfl, h5⟩
  · exact ⟨_, rfl, h6⟩
  · exact ⟨_, rfl, h7⟩
  · exact ⟨_, rfl, h8⟩
  · exact ⟨_, rfl, h9⟩

set_option maxRecDepth 20000 in
set_option maxHeartbeats 1000000 in
theorem drawPieUpdate (a : Option Addr) (len cap : Nat) (w : World) (hl : len ≤ 9223372036854775807) (hcode : Code w w.heap.size a len) :
    Calls Tryd.prog 5 #[.slice a len cap] w fun e w' => ∃ (r : Pe) (n : Int), e = .returned (.tuple #[r.val, .int .i64 n]) ∧ r.In ∧ inP64 n ∧ Below w.heap.size w w' := by
  obtain ⟨W, hW⟩ : ∃ x, w.alloc (.cells (peCells Pe.zero) 24) = x := ⟨_, rfl⟩
  have hsz : W.heap.size = w.heap.size + 1 := by rw [← hW]; simp
  have z0 : Sits W w.heap.size (peCells Pe.zero) 24 := by rw [← hW]; exact Sits.new _ _ _
  have b0 : Below w.heap.size w W := by rw [← hW]; exact (Below.refl _ _).alloc (Nat.le_refl _) _
  have hcd : Code W W.heap.size a len := by
    rw [hsz, ← hW]
    rcases hcode with h | ⟨b, off, ha, hb, hk⟩
    · exact .inl h
    · refine .inr ⟨b, off, ha, by omega, fun k hk' => ?_⟩
      obtain ⟨v, v0, v1, hv⟩ := hk k hk'
      exact ⟨v, v0, v1, (World.cell?_alloc_old w _ ⟨b, off + k, none⟩ (by show b ≠ _; omega)).trans hv⟩
  clear hcode
  go_enter Tryd.func5, Tryd.ntmps5
  go_wp2_with fail
  rw [show w.alloc (.cells #[.int .i64 0, .int .i64 0, .int .i64 0, .int .i64 0] 24) = W from hW]
  refine (new_any a len cap W hl hcd).mono ?_
  rintro e w1 ⟨rfl, c1, b1⟩
  obtain ⟨B, hB⟩ : ∃ B, W.heap.size = B := ⟨_, rfl⟩
  rw [hB] at c1 ⊢
  have z1 := z0.below b1 z0.lt
  replace b1 := b0.trans (b1.mono b0.size)
  have lB : w.heap.size < B := by omega
  clear hcd hW z0 b0 hB
  go_wp2_with fail
  refine (l6bent_any B a len cap _ c1).mono ?_
  rintro e w2 ⟨r, rfl, hr, c2, o2⟩
  have z2 := z1.only o2 (by omega)
  replace b1 := b1.trans (o2.below (by omega) b1.size)
  clear z1 c1 o2
  have l2 := z2.lt
  have hl2 := c2.1
  go_wp2_with fail
  refine Calls.mono (pick9q inP64 B a len cap _ (Cur.alloc c2 _ _) _ _ 0 1 7000000 15000000 30000000 260000000 10000000000 10000000001 (-1) (Sits.new' rfl) ?ne ?q) ?_
  case ne => omega
  case q => unfold inP64; omega
  rintro e w3 ⟨n, rfl, hn, c3, o3⟩
  have z3 := (z2.alloc _).only o3 (by omega)
  replace b1 := (b1.alloc b1.size _).trans (o3.below (by omega) (by have := b1.size; simp; omega))
  clear z2 c2 o3
  obtain ⟨e0, e1, e2, e3⟩ := pe_cells z3
  have ez := z3.frozen
  dsimp only [Pe.zero] at e0 e1 e2 e3
  have ZZ : Hid (Sits w3 w.heap.size (peCells Pe.zero) 24) := z3
  clear z3 c3
  go_wp2_with fail
  refine bodyPost_ret (ret_pi (q := r) (b := n) (t := 24) (B := w.heap.size) Tryd.results5 rfl rfl ?_) rfl ⟨_, _, rfl, hr, hn, ?_⟩
  · exact ((((Sits.set ZZ.out 0 _).set 1 _).set 2 _).set 3 _)
  · exact ((((b1.setCell (Nat.le_refl _) _).setCell (Nat.le_refl _) _).setCell (Nat.le_refl _) _).setCell (Nat.le_refl _) _)

theorem pick_scale (B : Nat) (a : Option Addr) (len cap : Nat) (w : World) (hc : Cur w B a len cap) (L : Nat) (t : TypeId) (q : Int) (h0 : 0 ≤ q + 2147483648) (h1 : q ≤ 2147483648) (hs : Sits w L #[.int .i64 0, .int .i64 q, .int .i64 (q - 1), .int .i64 2147483648, .int .i64 2147483649, .int .i64 (-1)] t) (hne : L ≠ B) :
    Calls Tryd.prog 13 #[.pointer (some ⟨B, 0, none⟩), .slice (some ⟨L, 0, none⟩) 6 6] w fun e w' => ∃ x : Int, e = .returned (.int .i64 x) ∧ inP64 x ∧ Cur w' B a len cap ∧ Only B w w' := by
  refine pick6q inP64 B a len cap w hc L t _ _ _ _ _ _ hs hne ?_ ?_ ?_ ?_ ?_ ?_
  all_goals unfold inP64; omega

set_option maxRecDepth 20000 in
set_option maxHeartbeats 1000000 in
theorem drawPieScale (a : Option Addr) (len cap : Nat) (w : World) (hl : len ≤ 9223372036854775807) (hcode : Code w w.heap.size a len) :
    Calls Tryd.prog 10 #[.slice a len cap] w fun e w' => ∃ n : Int, e = .returned (.int .i64 n) ∧ inP64 n ∧ Below w.heap.size w w' := by
  go_enter Tryd.func10, Tryd.ntmps10
  go_wp2_with fail
  refine (new_any a len cap _ hl hcode).mono ?_
  rintro e w1 ⟨rfl, c1, b1⟩
  obtain ⟨B, hB⟩ : ∃ B, w.heap.size = B := ⟨_, rfl⟩
  rw [hB] at c1 ⊢
  have hl1 := c1.1
  go_wp2_with fail
  refine Calls.mono (pick6q (inP 1 1000000) B a len cap _ (Cur.alloc c1 _ _) _ _ 1000000 100000 10000 1000 100 10 (Sits.new' rfl) ?ne ?q1 ?q2 ?q3 ?q4 ?q5 ?q6) ?_
  case ne => omega
  case q1 => unfold inP; omega
  case q2 => unfold inP; omega
  case q3 => unfold inP; omega
  case q4 => unfold inP; omega
  case q5 => unfold inP; omega
  case q6 => unfold inP; omega
  rintro e w2 ⟨k, rfl, hk, c2, o2⟩
  unfold inP at hk
  replace b1 := (b1.alloc b1.size (.cells #[.int .i64 1000000, .int .i64 100000, .int .i64 10000, .int .i64 1000, .int .i64 100, .int .i64 10] 3)).trans (o2.below (by omega) (by have := b1.size; simp; omega))
  have hl2 := c2.1
  clear c1 o2
  obtain ⟨q, hq⟩ : ∃ q, (2147483648 : Int).tdiv k = q := ⟨_, rfl⟩
  have hqb := tdiv_bd (a := 2147483648) (b := k) hk.1
  rw [hq, if_neg (by omega)] at hqb
  have hkz : ¬ k = 0 := by omega
  go_wp2_with fail
  have C2 : Hid (Cur w2 B a len cap) := c2
  clear c2
  have hq0 : IntKind.i64.wrap q = q := wrap_in (by omega) (by omega)
  have hq1 : IntKind.i64.wrap (q - 1) = q - 1 := wrap_in (by omega) (by omega)
  go_region_with (go_at_call 13; refine (pick_scale B a len cap _ (Cur.drew (Cur.alloc C2.out _ _)) _ _ q (by omega) (by omega) (Sits.drew (Sits.new' rfl)) (by omega)).mono ?_; rintro e w3 ⟨n, rfl, hn, c3, o3⟩)
  all_goals
    go_wp2_with fail
    go_ret
    exact ⟨n, rfl, hn, (b1.alloc b1.size _).drew.trans (o3.below (by omega) (by have := b1.size; simp; omega))⟩

end Go.Proofs.YtkeccjomnmpcoacDoor
