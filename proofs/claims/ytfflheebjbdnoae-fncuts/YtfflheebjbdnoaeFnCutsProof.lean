/-
  Whatever bytes the law FnCuts draws its sender from, it returns true and leaves the bytes as they were; no condition.
-/
import Derived.Test.YtfflheebjbdnoaeRows
import Derived.WalkKit
import Derived.ProofKit
import Derived.OpenShut
import Derived.Test.YtfflheebjbdnoaeSenders
import Derived.Test.YtfflheebjbdnoaeDrawAk
import Derived.ShutString
import Derived.ChangeOld
import Derived.Below
namespace Go.Proofs.Ytfflheebjbdnoae.fnCuts
open Go.ChangeShapes Go.WideShapes Go.ChangeAt Go.RowKit
open Go.ChangeMaps (open_string shut_string)
set_option linter.unusedVariables false

theorem own : ownKnob Try.prog.godebug = none := by kernel_rfl
theorem laidOut : laidOutB Try.prog = true := by kernel_rfl

/-- A slice of integers that came in. -/
def IsRow (k : IntKind) (w : World) (a : Option Addr) (len cap : Nat) (zs : List Int) : Prop :=
  (a = none ∧ len = 0 ∧ cap = 0 ∧ zs = []) ∨
  ∃ x, a = some x ∧ len ≤ cap ∧ cap ≤ maxLen ∧ zs.length = cap ∧ (∀ i, i < zs.length → w.cell? (x.add i) = some (.int k (zs.getD i 0))) ∧ ∀ n ∈ zs, (Lit.int k n).wf = true

theorem code_of {w : World} {a : Option Addr} {len cap : Nat} {zs : List Int} (h : IsRow .u8 w a len cap zs) : len ≤ 9223372036854775807 ∧ Code w w.heap.size a len := by
  rcases h with ⟨rfl, rfl, rfl, rfl⟩ | ⟨x, rfl, hl, hm, hz, hcell, hwz⟩
  · exact ⟨by omega, .inl rfl⟩
  · unfold maxLen at hm
    refine ⟨by omega, ?_⟩
    by_cases h0 : len = 0
    · exact .inl h0
    · obtain ⟨b, off, rfl, hc⟩ := ints_at hcell (by omega)
      refine .inr ⟨b, off, rfl, World.block_lt_of_cell? w _ (hc 0 (by omega)), fun k hk => ?_⟩
      have hb := bounds_u8 (hwz (zs.getD k 0) (by rw [List.getD_eq_getElem?_getD, List.getElem?_eq_getElem (by omega)]; exact List.getElem_mem _))
      exact ⟨zs.getD k 0, hb.1, hb.2, hc k (by omega)⟩


/-- One that begins to recover, does so up to what was sent. -/
theorem cuts_in (r : Rn) (hi : r.inn = false) : ((r.ack1 r.una).ack2 r.half).inn = true → ((r.ack1 r.una).ack2 r.half).rc = r.nx := by
  unfold Rn.ack1
  rw [if_neg (by omega)]
  split
  · unfold Rn.rep
    rw [if_neg (by rw [hi]; decide)]
    split
    · unfold Rn.ack2 Rn.recg; simp
    · unfold Rn.ack2
      split
      · unfold Rn.slow; simp [hi]
      · simp [hi]
  · unfold Rn.ack2
    split
    · unfold Rn.slow; simp [hi]
    · simp [hi]
/-- While what was under way is, an echo turns no window. -/
theorem cuts_kept (x : Rn) (hi : x.inn = false) (hc : x.una < x.cut) : ((x.ack1 x.una).ack2 x.half).inn = true ∨ (((x.ack1 x.una).ack2 x.half).inn = false ∧ ((x.ack1 x.una).ack2 x.half).cw = x.cw ∧ ((x.ack1 x.una).ack2 x.half).th = x.th) := by
  unfold Rn.ack1
  rw [if_neg (by omega)]
  split
  · unfold Rn.rep
    rw [if_neg (by rw [hi]; decide)]
    split
    · refine .inl ?_
      unfold Rn.ack2 Rn.recg; simp
    · refine .inr ?_
      unfold Rn.ack2
      rw [if_neg (fun h => by have := h.2; dsimp only at this; omega)]
      exact ⟨hi, rfl, rfl⟩
  · refine .inr ?_
    unfold Rn.ack2
    rw [if_neg (fun h => by have := h.2; omega)]
    exact ⟨hi, rfl, rfl⟩
/-- What Acked answers at its own Una with an echo. -/
theorem at_una {r : Rn} (hg : r.good = true) : r.ackF r.una true = (r.ack1 r.una).ack2 r.half ∧ r.ackB r.una = true ∧ ((r.ack1 r.una).ack2 r.half).good = true := by
  obtain ⟨g1, g2, g3, g4, g5, g6, g7, g8, g9, g10, g11, g12, g13, g14, g15, g16, g17, g18⟩ := r.good_iff.1 hg
  have hin : inB r.una r.una r.nx = true := by simp [inB]; omega
  obtain ⟨k1, k2⟩ := Rn.half_in hg
  refine ⟨by unfold Rn.ackF; simp [hg, hin], by unfold Rn.ackB; simp [hg, hin], ack2_good (ack1_good hg (by omega)) (by rw [(ack1_same (Int.le_refl _)).1]; exact k1) k2⟩

set_option maxHeartbeats 4000000 in
theorem walk (a0 : Option Addr) (len0 cap0 : Nat) (z0 : List Int) (w : World) (w0 : IsRow .u8 w a0 len0 cap0 z0) :
    Calls Try.prog 4 #[.slice a0 len0 cap0] w fun e w' => e = .returned (.bool true) ∧ Below w.heap.size w w' := by
  obtain ⟨hl, hcode⟩ := code_of w0
  clear w0
  have HC : Hid (Code w w.heap.size a0 len0) := hcode
  clear hcode
  go_enter Try.func4, Try.ntmps4
  go_wp2_with fail
  refine (drawAcked_any a0 len0 cap0 _ hl HC.out).mono ?_
  rintro e w1 ⟨r, ack, zb, rfl, hr, hack, b1⟩
  go_upto_region 2 with fail
  obtain ⟨V, hV⟩ : ∃ V, w1.heap.size = V := ⟨_, rfl⟩
  obtain ⟨wv, hwv⟩ : ∃ x, w1.alloc (.cells (rnCells r) 24) = x := ⟨_, rfl⟩
  have HV : Hid (Sits wv V (rnCells r) 24) := by rw [← hwv]; exact Sits.new' hV
  have b4 : Below w.heap.size w wv := by rw [← hwv]; exact b1.alloc b1.size _
  rw [hwv, hV]
  clear hwv hV b1 HC
  obtain ⟨v0, v1, v2, v3, v4, v5, v6, v7, v8, v9⟩ := rn_cells HV.out
  have lv := Sits.lt HV.out
  cases hg : r.good
  case false =>
    go_wp2_with (first | (go_at_call 10; refine (srenoOk_any r _).mono ?_; rintro e w5 ⟨rfl, b5⟩; rw [hg]; replace b4 := b4.trans (b5.mono b4.size); clear b5) | (go_at_call 11; refine (senders_any _).mono ?_; rintro e w9 ⟨rfl, b9⟩; replace b4 := b4.trans (b9.mono b4.size); clear b9))
    go_ret
    exact ⟨rfl, b4⟩
  case true =>
  cases hi : r.inn
  case true =>
    have HI : Hid (r.inn = true) := hi
    clear hi
    go_wp2_with (first | (go_at_call 10; refine (srenoOk_any r _).mono ?_; rintro e w5 ⟨rfl, b5⟩; rw [hg]; replace b4 := b4.trans (b5.mono b4.size); have s5 := Sits.below HV.out b5 lv; clear v0 v1 v2 v3 v4 v5 v6 v7 v8 v9; obtain ⟨v0, v1, v2, v3, v4, v5, v6, v7, v8, v9⟩ := rn_cells s5; rw [HI.out] at v8; clear s5 b5) | (go_at_call 11; refine (senders_any _).mono ?_; rintro e w9 ⟨rfl, b9⟩; replace b4 := b4.trans (b9.mono b4.size); clear b9))
    go_ret
    exact ⟨rfl, b4⟩
  case false =>
  obtain ⟨hF, hB, hgx⟩ := at_una hg
  have hin := cuts_in r hi
  obtain ⟨x, hx⟩ : ∃ x, (r.ack1 r.una).ack2 r.half = x := ⟨_, rfl⟩
  rw [hx] at hF hgx hin
  have HI : Hid (r.inn = false) := hi
  have HA : Hid (∀ W, Calls Try.prog 9 #[.agg #[.int .i64 r.mss, .int .i64 r.cw, .int .i64 r.th, .int .i64 r.ac, .int .i64 r.una, .int .i64 r.nx, .int .i64 r.du, .int .i64 r.rc, .bool false, .int .i64 r.cut], .int .i64 r.una, .bool true] W fun e w' => e = .returned (.tuple #[x.val, .bool true]) ∧ Below W.heap.size W w') := fun W => by
    have h := iacked_any r r.una true W
    rw [hF, hB] at h
    have hv : r.val = .agg #[.int .i64 r.mss, .int .i64 r.cw, .int .i64 r.th, .int .i64 r.ac, .int .i64 r.una, .int .i64 r.nx, .int .i64 r.du, .int .i64 r.rc, .bool false, .int .i64 r.cut] := by show Value.agg _ = _; rw [hi]
    rw [hv] at h
    exact h
  clear hF hB hx hi
  go_upto_region 4 with (go_at_call 10; refine (srenoOk_any r _).mono ?_; rintro e w5 ⟨rfl, b5⟩; rw [hg]; replace b4 := b4.trans (b5.mono b4.size); have s5 := Sits.below HV.out b5 lv; clear v0 v1 v2 v3 v4 v5 v6 v7 v8 v9 HV lv; obtain ⟨v0, v1, v2, v3, v4, v5, v6, v7, v8, v9⟩ := rn_cells s5; rw [HI.out] at v8; have HV : Hid (Sits w5 V (rnCells r) 24) := s5; have lv := s5.lt; clear s5 b5)
  go_wp2_with fail
  refine (HA.out _).mono ?_
  rintro e w6 ⟨rfl, b6⟩
  have s6 := Sits.below HV.out b6 lv
  replace b4 := b4.trans (b6.mono b4.size)
  clear b6 HV lv v0 v1 v2 v3 v4 v5 v6 v7 v8 v9 HA hg
  go_upto_region 5 with fail
  obtain ⟨X, hX⟩ : ∃ V, w6.heap.size = V := ⟨_, rfl⟩
  obtain ⟨wx, hwx⟩ : ∃ y, w6.alloc (.cells (rnCells x) 24) = y := ⟨_, rfl⟩
  have HV : Hid (Sits wx V (rnCells r) 24) := by rw [← hwx]; exact s6.alloc _
  have HX : Hid (Sits wx X (rnCells x) 24) := by rw [← hwx]; exact Sits.new' hX
  replace b4 : Below w.heap.size w wx := by rw [← hwx]; exact b4.alloc b4.size _
  rw [hwx, hX]
  clear hwx hX s6
  obtain ⟨v0, v1, v2, v3, v4, v5, v6, v7, v8, v9⟩ := rn_cells HV.out
  obtain ⟨x0, x1, x2, x3, x4, x5, x6, x7, x8, x9⟩ := rn_cells HX.out
  have lv := Sits.lt HV.out
  have lx := Sits.lt HX.out
  cases hxi : x.inn
  case true =>
    have hrc : (x.rc == r.nx) = true := by simpa using hin hxi
    rw [hxi] at x8
    clear hin hxi
    go_wp2_with (first | (go_at_call 11; refine (senders_any _).mono ?_; rintro e w9 ⟨rfl, b9⟩; replace b4 := b4.trans (b9.mono b4.size); clear b9))
    go_ret
    exact ⟨rfl, b4⟩
  case false =>
  clear hin
  obtain ⟨hF, hB, hgy⟩ := at_una hgx
  have hkept := cuts_kept x hxi
  obtain ⟨y, hy⟩ : ∃ y, (x.ack1 x.una).ack2 x.half = y := ⟨_, rfl⟩
  rw [hy] at hF hkept
  have hth : x.th ≤ 100000000 := by
    obtain ⟨g1, g2, g3, g4, g5, g6, g7⟩ := x.good_iff.1 hgx
    exact g6
  rw [hxi] at x8
  have HA : Hid (∀ W, Calls Try.prog 9 #[.agg #[.int .i64 x.mss, .int .i64 x.cw, .int .i64 x.th, .int .i64 x.ac, .int .i64 x.una, .int .i64 x.nx, .int .i64 x.du, .int .i64 x.rc, .bool false, .int .i64 x.cut], .int .i64 x.una, .bool true] W fun e w' => e = .returned (.tuple #[y.val, .bool true]) ∧ Below W.heap.size W w') := fun W => by
    have h := iacked_any x x.una true W
    rw [hF, hB] at h
    have hv : x.val = .agg #[.int .i64 x.mss, .int .i64 x.cw, .int .i64 x.th, .int .i64 x.ac, .int .i64 x.una, .int .i64 x.nx, .int .i64 x.du, .int .i64 x.rc, .bool false, .int .i64 x.cut] := by show Value.agg _ = _; rw [hxi]
    rw [hv] at h
    exact h
  clear hF hB hy hgy hgx hxi
  go_upto_region 7 with fail
  go_wp2_with fail
  refine (HA.out _).mono ?_
  rintro e w7 ⟨rfl, b7⟩
  have s7 := Sits.below HX.out b7 lx
  replace b4 := b4.trans (b7.mono b4.size)
  clear b7 HX HV lv lx v0 v1 v2 v3 v4 v5 v6 v7 v8 v9 x0 x1 x2 x3 x4 x5 x6 x7 x8 x9 HA
  go_upto_region 8 with fail
  obtain ⟨Y, hY⟩ : ∃ V, w7.heap.size = V := ⟨_, rfl⟩
  obtain ⟨wy, hwy⟩ : ∃ z, w7.alloc (.cells (rnCells y) 24) = z := ⟨_, rfl⟩
  have HX : Hid (Sits wy X (rnCells x) 24) := by rw [← hwy]; exact s7.alloc _
  have HY : Hid (Sits wy Y (rnCells y) 24) := by rw [← hwy]; exact Sits.new' hY
  replace b4 : Below w.heap.size w wy := by rw [← hwy]; exact b4.alloc b4.size _
  rw [hwy, hY]
  clear hwy hY s7
  obtain ⟨x0, x1, x2, x3, x4, x5, x6, x7, x8, x9⟩ := rn_cells HX.out
  obtain ⟨y0, y1, y2, y3, y4, y5, y6, y7, y8, y9⟩ := rn_cells HY.out
  have hcs : ¬ x.una < x.cut ∨ (x.una < x.cut ∧ y.inn = true) ∨ (x.una < x.cut ∧ y.inn = false ∧ (y.cw != x.cw) = false ∧ (y.th != x.th) = false) := by
    by_cases hc : x.una < x.cut
    · rcases hkept hc with h | ⟨h1, h2, h3⟩
      · exact .inr (.inl ⟨hc, h⟩)
      · exact .inr (.inr ⟨hc, h1, by simp [h2], by simp [h3]⟩)
    · exact .inl hc
  clear hkept
  rcases hcs with k1 | ⟨k1, k2⟩ | ⟨k1, k2, k3, k4⟩
  all_goals
    (try (rw [k2] at y8; clear k2))
    go_wp2_with (first | (go_at_call 11; refine (senders_any _).mono ?_; rintro e w9 ⟨rfl, b9⟩; replace b4 := b4.trans (b9.mono b4.size); clear b9))
    go_ret
    exact ⟨rfl, b4⟩

set_option maxRecDepth 100000 in
theorem lifted (os : Os) (started : os.Started) (H : Type) (enc : TypeId × Value → H) :
    ReturnsInHanded {} Try.checked os 4 .any (Rows.fnCutsSpec.pre6 enc Try.prog Try.f4 Rows.fnCutsRow.domain false) (Rows.fnCutsSpec.post enc Try.prog Try.f4 false true false false) := by
  refine returnsInHanded_of_change (C := Try.checked) own started (by kernel_rfl) Try.func4
    (ChangeSpec.witness6 (enc := enc) (C := Try.checked) false ⟨#[], #[.slice none 0 0], []⟩ 8 (by kernel_rfl) (by kernel_rfl) (by kernel_rfl) (by kernel_rfl)) ?_
  intro W base args ds gs before hval0 hW hcnd _
  have hval : ∀ (j : Nat) t v, Try.f4.params[j]? = some t → args[j]? = some v → Value.okWide Try.prog W .any base t v := hval0
  have hW' := hW
  obtain ⟨p, q, hA0, hV, rfl, hfz, hnd⟩ := hW
  have hA : DataW.TrodAll enc Try.prog W 0 (fun _ => true) true Try.f4.params.toList args.toList ds p := hA0
  rw [Try.params4] at hA hval
  obtain ⟨v0, vs0, d0, ds0, p0, q0, hargs, rfl, rfl, h0, r0⟩ := trodAll_cons hA
  obtain ⟨rfl, rfl, rfl⟩ := trodAll_nil r0
  obtain rfl : args = #[v0] := by cases args; simp_all
  obtain ⟨rfl, rfl⟩ := trodVars_none hV
  obtain ⟨a0, len0, cap0, rfl⟩ := okWide_slice Try.underlying22 (hval 0 22 v0 rfl rfl)
  have k0 := h0
  have lt0 : ∀ x ∈ p0, x.block < W.heap.size := by obtain ⟨m, hm⟩ := k0; exact DataW.trod_lt m _ _ _ hm
  obtain ⟨z0, w0⟩ : ∃ zs, IsRow .u8 W a0 len0 cap0 zs := by
    obtain ⟨fuel, hf⟩ := h0
    rcases open_ints Try.underlying22 Try.underlying5 (by kernel_rfl) hf with ⟨hcs, _⟩ | ⟨x, l, c, zs, hcs, _, hl, hm, hz, _, hcell, hwz⟩
    · simp [Value.cells] at hcs
      obtain ⟨rfl, rfl, rfl⟩ := hcs
      exact ⟨[], .inl ⟨rfl, rfl, rfl, rfl⟩⟩
    · simp [Value.cells] at hcs
      obtain ⟨rfl, rfl, rfl⟩ := hcs
      exact ⟨zs, .inr ⟨_, rfl, hl, hm, by simpa using hz, hcell, hwz⟩⟩
  clear hA0 hval0
  refine (walk a0 len0 cap0 z0 W w0).mono fun e W' ⟨he, bel⟩ => ?_
  subst he
  exact ⟨_, rfl, _, _, _, [], _, [], hW', trodAll_mk1 (shut_bool Try.underlying4 _), (trodAll_cons_mk (Below.trod laidOut (by kernel_rfl) (of_decide_eq_true (by kernel_rfl)) k0 bel lt0) trodAll_mk0), rfl, bel.frame _, fun h => by cases h⟩

theorem over : Rows.fnCutsRow.holds Try.pinned (OpenSpec.ofChange Rows.fnCutsSpec) :=
  OpenClaim.holds_of_wide 4 Try.f4 rfl rfl rfl rfl rfl rfl rfl ⟨rfl, rfl, rfl, rfl, rfl⟩ rfl rfl rfl rfl rfl (by kernel_rfl) Try.func4 (by kernel_rfl)
    (of_decide_eq_true (by kernel_rfl)) (by unfold Func.isWrapper; first | (rw [if_pos (by decide +kernel)]; kernel_rfl) | (rw [if_neg (by decide +kernel)]; exact ⟨rfl, rfl⟩))
    (fun os started H enc _ => lifted os started H enc)

theorem proved : Rows.FnCutsSaid := over
end Go.Proofs.Ytfflheebjbdnoae.fnCuts
namespace Go.Proofs.Ytfflheebjbdnoae
theorem fnCuts_holds : Rows.FnCutsSaid := fnCuts.proved
#print axioms fnCuts_holds
end Go.Proofs.Ytfflheebjbdnoae
