/-
  DrawAcked OF THE SPECIFICATION: whatever the bytes are, a Reno, a number of ints and a flag.
-/
import Derived.Test.YtfflheebjbdnoaeDrawSd
namespace Go.Proofs.Ytfflheebjbdnoae
open Go.RowKit
set_option linter.unusedVariables false

theorem ret_rnib {fn : Func} {tmps : Array Value} {W : World} {i j k B : Nat} {q : Rn} {n : Int} {b : Bool} {t : TypeId} (hr : fn.results = #[.cell i 24, .tmp j, .tmp k]) (hi : tmps[i]?.getD undef = .pointer (some ⟨B, 0, none⟩)) (hj : tmps[j]?.getD undef = .int .i64 n) (hk : tmps[k]?.getD undef = .bool b) (hs : Sits W B (rnCells q) t) : (results fn tmps).run Try.prog W = .ok (.tuple #[q.val, .int .i64 n, .bool b]) W := by
  obtain ⟨c0, c1, c2, c3, c4, c5, c6, c7, c8, c9⟩ := rn_cells hs
  simp [results, hr, hi, hj, hk, go_sem, c0, c1, c2, c3, c4, c5, c6, c7, c8, c9]
theorem pick7r (Q : Int → Prop) (B : Nat) (a : Option Addr) (len cap : Nat) (w : World) (hc : Cur w B a len cap) (L : Nat) (t : TypeId) (x y z u v k l : Int) (hs : Sits w L #[.int .i64 x, .int .i64 y, .int .i64 z, .int .i64 u, .int .i64 v, .int .i64 k, .int .i64 l] t) (hne : L ≠ B) (hq : Q x ∧ Q y ∧ Q z ∧ Q u ∧ Q v ∧ Q k ∧ Q l) :
    Calls Try.prog 26 #[.pointer (some ⟨B, 0, none⟩), .slice (some ⟨L, 0, none⟩) 7 7] w fun e w' => ∃ x : Int, e = .returned (.int .i64 x) ∧ Q x ∧ Cur w' B a len cap ∧ Only B w w' := by
  refine pick_sits Q B a len cap w hc L 7 _ t hs hne rfl (by omega) (by omega) ?_
  intro p hp
  obtain ⟨h1, h2, h3, h4, h5, h6, h7⟩ := hq
  simp only [List.mem_cons, List.not_mem_nil, or_false] at hp
  rcases hp with rfl | rfl | rfl | rfl | rfl | rfl | rfl
  · exact ⟨_, rfl, h1⟩
  · exact ⟨_, rfl, h2⟩
  · exact ⟨_, rfl, h3⟩
  · exact ⟨_, rfl, h4⟩
  · exact ⟨_, rfl, h5⟩
  · exact ⟨_, rfl, h6⟩
  · exact ⟨_, rfl, h7⟩

set_option maxRecDepth 100000 in
set_option maxHeartbeats 4000000 in
theorem drawAcked_any (a : Option Addr) (len cap : Nat) (w : World) (hl : len ≤ 9223372036854775807) (hcode : Code w w.heap.size a len) :
    Calls Try.prog 8 #[.slice a len cap] w fun e w' => ∃ (r : Rn) (n : Int) (zb : Bool), e = .returned (.tuple #[r.val, .int .i64 n, .bool zb]) ∧ r.In ∧ in64 n ∧ Below w.heap.size w w' := by
  obtain ⟨W, hW⟩ : ∃ x, w.alloc (.cells (rnCells Rn.zero) 24) = x := ⟨_, rfl⟩
  have hsz : W.heap.size = w.heap.size + 1 := by rw [← hW]; simp
  have z0 : Sits W w.heap.size (rnCells Rn.zero) 24 := by rw [← hW]; exact Sits.new _ _ _
  have b0 : Below w.heap.size w W := by rw [← hW]; exact (Below.refl _ _).alloc (Nat.le_refl _) _
  have hcd : Code W W.heap.size a len := by
    rw [hsz, ← hW]
    rcases hcode with h | ⟨b, off, ha, hb, hk⟩
    · exact .inl h
    · refine .inr ⟨b, off, ha, by omega, fun k hk' => ?_⟩
      obtain ⟨v, v0, v1, hv⟩ := hk k hk'
      exact ⟨v, v0, v1, (World.cell?_alloc_old w _ ⟨b, off + k, none⟩ (by show b ≠ _; omega)).trans hv⟩
  clear hcode
  go_enter Try.func8, Try.ntmps8
  go_wp2_with fail
  rw [show w.alloc (.cells #[.int .i64 0, .int .i64 0, .int .i64 0, .int .i64 0, .int .i64 0, .int .i64 0, .int .i64 0, .int .i64 0, .bool false, .int .i64 0] 24) = W from hW]
  refine (new_any a len cap W hl hcd).mono ?_
  rintro e w1 ⟨rfl, c1, b1⟩
  obtain ⟨B, hB⟩ : ∃ B, W.heap.size = B := ⟨_, rfl⟩
  rw [hB] at c1 ⊢
  have z1 := z0.below b1 z0.lt
  replace b1 := b0.trans (b1.mono b0.size)
  have lB : w.heap.size < B := by omega
  clear hcd hW z0 b0 hB
  go_wp2_with fail
  refine (l9bent_any B a len cap _ c1).mono ?_
  rintro e w2 ⟨r, rfl, hr, c2, o2⟩
  have z2 := z1.only o2 (by omega)
  replace b1 := b1.trans (o2.below (by omega) b1.size)
  clear z1 c1 o2
  have l2 := z2.lt
  have hl2 := c2.1
  have hin := hr
  unfold Rn.In at hin
  have e1 : in64 (IntKind.i64.wrap (r.una + r.mss)) := by unfold in64; rw [IntKind.wrap_i64]; omega
  have e2 : in64 (IntKind.i64.wrap (r.nx + 1)) := by unfold in64; rw [IntKind.wrap_i64]; omega
  have e3 : in64 (IntKind.i64.wrap (r.una - 1)) := by unfold in64; rw [IntKind.wrap_i64]; omega
  obtain ⟨m1, hm1⟩ : ∃ m, IntKind.i64.wrap (r.una + r.mss) = m := ⟨_, rfl⟩
  obtain ⟨m2, hm2⟩ : ∃ m, IntKind.i64.wrap (r.nx + 1) = m := ⟨_, rfl⟩
  obtain ⟨m3, hm3⟩ : ∃ m, IntKind.i64.wrap (r.una - 1) = m := ⟨_, rfl⟩
  rw [hm1] at e1
  rw [hm2] at e2
  rw [hm3] at e3
  have HE : Hid (in64 r.una ∧ in64 r.una ∧ in64 m1 ∧ in64 r.nx ∧ in64 m2 ∧ in64 m3 ∧ in64 r.rc) := ⟨by unfold in64; omega, by unfold in64; omega, e1, by unfold in64; omega, e2, e3, by unfold in64; omega⟩
  clear e1 e2 e3
  go_upto_region 3 with fail
  obtain ⟨V, hV⟩ : ∃ V, w2.heap.size = V := ⟨_, rfl⟩
  obtain ⟨wv, hwv⟩ : ∃ x, w2.alloc (.cells (rnCells r) 24) = x := ⟨_, rfl⟩
  have sv : Sits wv V (rnCells r) 24 := by rw [← hwv]; exact Sits.new' hV
  have cv : Cur wv B a len cap := by rw [← hwv]; exact c2.alloc _ _
  have zv : Sits wv w.heap.size (rnCells Rn.zero) 24 := by rw [← hwv]; exact z2.alloc _
  have bv : Below w.heap.size w wv := by rw [← hwv]; exact b1.alloc b1.size _
  have hVB : B < V := by rw [← hV]; exact hl2
  rw [hwv, hV]
  have HV : Hid (Sits wv V (rnCells r) 24) := sv
  have HCV : Hid (Cur wv B a len cap) := cv
  have HZV : Hid (Sits wv w.heap.size (rnCells Rn.zero) 24) := zv
  have HBV : Hid (Below w.heap.size w wv) := bv
  have lv := sv.lt
  clear hwv hV sv cv zv bv b1 c2 z2 l2 hl2
  go_region_held3 (fun w' => SRn V r w') (first | (with_reducible exact rn_cells (Sits.drew HV.out)) | (with_reducible exact rn_cells (Sits.drew (Sits.alloc HV.out _))) | (with_reducible exact rn_cells S6.out) | (with_reducible exact rn_cells S5.out) | (with_reducible exact rn_cells (put_other S6.out hVZ r)) | fail)
    (first | (go_at_call 26; refine Calls.mono (pick7r in64 B a len cap _ (Cur.drew (Cur.alloc HCV.out _ _)) _ _ r.una r.una m1 r.nx m2 m3 r.rc (Sits.drew (Sits.new' rfl)) (by simp; omega) HE.out) ?_; rintro e w3 ⟨n, rfl, hn, c3, o3⟩; have S5 : Hid (Sits w3 V (rnCells r) 24) := Sits.only (Sits.drew (Sits.alloc HV.out _)) o3 (by omega); have z3 := Sits.only (Sits.drew (Sits.alloc HZV.out _)) o3 (by omega); have b1 := Below.trans (Below.drew (Below.alloc HBV.out (Below.size HBV.out) _)) (o3.below (by omega) (by have := Below.size HBV.out; simp; omega)); have Z5 : Hid (Sits w3 w.heap.size (rnCells Rn.zero) 24) := z3; clear z3 o3) | (go_at_call 27; refine (once_any B a len cap _ c3 3 (by omega) (by omega)).mono ?_; rintro e w4 ⟨zb, rfl, c4, o4⟩; have S6 : Hid (Sits w4 V (rnCells r) 24) := Sits.only S5.out o4 (by omega); have hVZ : V ≠ w.heap.size := (by omega); have z4 := Sits.only Z5.out o4 (by omega); have b6 := Below.trans b1 (o4.below (by omega) (Below.size b1)); obtain ⟨p0, p1, p2, p3, p4, p5, p6, p7, p8, p9⟩ := rn_cells z4; have fz := z4.frozen; dsimp only [Rn.zero] at p0 p1 p2 p3 p4 p5 p6 p7 p8 p9; have ZZ : Hid (Sits w4 w.heap.size (rnCells Rn.zero) 24) := z4; clear z4 o4))
  all_goals
    go_wp2_with fail
    refine bodyPost_ret (ret_rnib (q := r) (n := n) (b := zb) (t := 24) (B := w.heap.size) Try.results8 rfl rfl rfl ?_) rfl ⟨r, n, zb, rfl, hr, hn, ?_⟩
    · exact put_sits ZZ.out r
    · exact put_below b6 (Nat.le_refl _) r

end Go.Proofs.Ytfflheebjbdnoae
