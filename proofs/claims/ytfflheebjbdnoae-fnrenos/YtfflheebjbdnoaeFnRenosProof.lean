/-
  Whatever bytes the law FnRenos draws its sender and its acknowledgement from, it returns true and leaves the bytes as they were; no condition.
-/
import Derived.Test.YtfflheebjbdnoaeRows
import Derived.WalkKit
import Derived.ProofKit
import Derived.OpenShut
import Derived.Test.YtfflheebjbdnoaeSenders
import Derived.Test.YtfflheebjbdnoaeDrawAk
import Derived.ShutString
import Derived.ChangeOld
import Derived.Below
namespace Go.Proofs.Ytfflheebjbdnoae.fnRenos
open Go.ChangeShapes Go.WideShapes Go.ChangeAt Go.RowKit
open Go.ChangeMaps (open_string shut_string)
set_option linter.unusedVariables false

theorem own : ownKnob Try.prog.godebug = none := by kernel_rfl
theorem laidOut : laidOutB Try.prog = true := by kernel_rfl

/-- A slice of integers that came in. -/
def IsRow (k : IntKind) (w : World) (a : Option Addr) (len cap : Nat) (zs : List Int) : Prop :=
  (a = none ∧ len = 0 ∧ cap = 0 ∧ zs = []) ∨
  ∃ x, a = some x ∧ len ≤ cap ∧ cap ≤ maxLen ∧ zs.length = cap ∧ (∀ i, i < zs.length → w.cell? (x.add i) = some (.int k (zs.getD i 0))) ∧ ∀ n ∈ zs, (Lit.int k n).wf = true

theorem code_of {w : World} {a : Option Addr} {len cap : Nat} {zs : List Int} (h : IsRow .u8 w a len cap zs) : len ≤ 9223372036854775807 ∧ Code w w.heap.size a len := by
  rcases h with ⟨rfl, rfl, rfl, rfl⟩ | ⟨x, rfl, hl, hm, hz, hcell, hwz⟩
  · exact ⟨by omega, .inl rfl⟩
  · unfold maxLen at hm
    refine ⟨by omega, ?_⟩
    by_cases h0 : len = 0
    · exact .inl h0
    · obtain ⟨b, off, rfl, hc⟩ := ints_at hcell (by omega)
      refine .inr ⟨b, off, rfl, World.block_lt_of_cell? w _ (hc 0 (by omega)), fun k hk => ?_⟩
      have hb := bounds_u8 (hwz (zs.getD k 0) (by rw [List.getD_eq_getElem?_getD, List.getElem?_eq_getElem (by omega)]; exact List.getElem_mem _))
      exact ⟨zs.getD k 0, hb.1, hb.2, hc k (by omega)⟩


theorem grow_cw {r : Rn} {b : Int} (h0 : 0 ≤ r.mss) : (r.grow b).cw ≤ r.cw + r.mss := by
  unfold Rn.grow Rn.widen
  have k1 := minI_bd b r.mss
  have k2 := minI_bd (r.cw + minI b r.mss) 100000000
  have k3 := minI_bd (r.cw + r.mss) 100000000
  split
  · dsimp only; omega
  · split
    · dsimp only; omega
    · dsimp only; omega
/-- Who does not recover grows by no more than a segment. -/
theorem ack1_cw {r : Rn} {ack : Int} (h0 : 0 ≤ r.mss) (hi : r.inn = false) (hx : (r.ack1 ack).inn = false) : (r.ack1 ack).cw ≤ r.cw + r.mss := by
  unfold Rn.ack1 at hx ⊢
  split at hx
  · rename_i hk
    rw [if_pos hk]
    unfold Rn.prog at hx ⊢
    rw [if_neg (by rw [hi]; decide)]
    exact grow_cw (r := { r with una := r.una + (ack - r.una), du := 0 }) h0
  · rename_i hk
    rw [if_neg hk]
    split at hx
    · rename_i hf
      rw [if_pos hf]
      unfold Rn.rep at hx ⊢
      rw [if_neg (by rw [hi]; decide)] at hx ⊢
      split at hx
      · unfold Rn.recg at hx; cases hx
      · rename_i h3
        rw [if_neg h3]
        dsimp only
        omega
    · rename_i hf
      rw [if_neg hf]
      omega
theorem slow_inn (r : Rn) (h : Int) : (r.slow h).inn = r.inn := rfl
/-- The bound on the window, by numbers. -/
theorem renos_cw {r : Rn} {ack : Int} {echo : Bool} (hg : r.good = true) (hin : inB ack r.una r.nx = true) (hi : r.inn = false) (hx : (r.ackF ack echo).inn = false) :
    (echo = false → (r.ackF ack echo).cw ≤ r.cw + r.mss) ∧ (echo = true → (r.ackF ack echo).cw ≤ r.cw + r.mss ∨ (r.ackF ack echo).cw ≤ r.fl / 2 ∨ (r.ackF ack echo).cw ≤ 2 * r.mss) := by
  obtain ⟨g1, g2, g3⟩ := r.good_iff.1 hg
  have hF : r.ackF ack echo = if echo then (r.ack1 ack).ack2 r.half else r.ack1 ack := by unfold Rn.ackF; rw [if_pos hg, if_pos hin]
  rw [hF] at hx ⊢
  cases echo
  · exact ⟨fun _ => ack1_cw (by omega) hi hx, fun h => (by cases h)⟩
  · refine ⟨fun h => (by cases h), fun _ => ?_⟩
    rw [if_pos rfl] at hx ⊢
    unfold Rn.ack2 at hx ⊢
    split
    · have k1 := maxI_bd (r.fl / 2) (2 * r.mss)
      have k2 := minI_bd (maxI (r.fl / 2) (2 * r.mss)) 100000000
      refine .inr ?_
      show r.half ≤ _ ∨ r.half ≤ _
      unfold Rn.half
      omega
    · rename_i hn
      rw [if_neg hn] at hx
      exact .inl (ack1_cw (by omega) hi hx)
/-- What Acked answers where the ack is one. -/
theorem renos_same {r : Rn} {ack : Int} {echo : Bool} (hg : r.good = true) (hin : inB ack r.una r.nx = true) : (r.ackF ack echo).good = true ∧ (r.ackF ack echo).una = ack ∧ (r.ackF ack echo).nx = r.nx ∧ (r.ackF ack echo).mss = r.mss := by
  have hb : r.una ≤ ack ∧ ack ≤ r.nx := by simpa [inB] using hin
  have hF : r.ackF ack echo = if echo then (r.ack1 ack).ack2 r.half else r.ack1 ack := by unfold Rn.ackF; rw [if_pos hg, if_pos hin]
  obtain ⟨s1, s2, s3, s4⟩ := ack1_same hb.1
  have h1 := ack1_good hg hb.2
  obtain ⟨k1, k2⟩ := Rn.half_in hg
  rw [hF]
  cases echo
  · exact ⟨h1, s3, s2, s1⟩
  · refine ⟨ack2_good h1 (by rw [s1]; exact k1) k2, ?_⟩
    rw [if_pos rfl]
    unfold Rn.ack2
    split
    · exact ⟨s3, s2, s1⟩
    · exact ⟨s3, s2, s1⟩

set_option maxHeartbeats 4000000 in
theorem walk (a0 : Option Addr) (len0 cap0 : Nat) (z0 : List Int) (w : World) (w0 : IsRow .u8 w a0 len0 cap0 z0) :
    Calls Try.prog 3 #[.slice a0 len0 cap0] w fun e w' => e = .returned (.bool true) ∧ Below w.heap.size w w' := by
  obtain ⟨hl, hcode⟩ := code_of w0
  clear w0
  have HC : Hid (Code w w.heap.size a0 len0) := hcode
  clear hcode
  go_enter Try.func3, Try.ntmps3
  go_wp2_with fail
  refine (drawAcked_any a0 len0 cap0 _ hl HC.out).mono ?_
  rintro e w1 ⟨r, ack, echo, rfl, hr, hack, b1⟩
  go_upto_region 2 with fail
  obtain ⟨V, hV⟩ : ∃ V, w1.heap.size = V := ⟨_, rfl⟩
  obtain ⟨wv, hwv⟩ : ∃ x, w1.alloc (.cells (rnCells r) 24) = x := ⟨_, rfl⟩
  have s1 : Sits wv V (rnCells r) 24 := by rw [← hwv]; exact Sits.new' hV
  have b4 : Below w.heap.size w wv := by rw [← hwv]; exact b1.alloc b1.size _
  rw [hwv, hV]
  clear hwv hV b1 HC
  obtain ⟨q, hq⟩ : ∃ q, r.ackF ack echo = q := ⟨_, rfl⟩
  obtain ⟨ok, hok⟩ : ∃ o, r.ackB ack = o := ⟨_, rfl⟩
  have HA : Hid (∀ W, Calls Try.prog 9 #[r.val, .int .i64 ack, .bool echo] W fun e w' => e = .returned (.tuple #[q.val, .bool ok]) ∧ Below W.heap.size W w') := fun W => by
    have h := iacked_any r ack echo W
    rw [hq, hok] at h
    exact h
  obtain ⟨v0, v1, v2, v3, v4, v5, v6, v7, v8, v9⟩ := rn_cells s1
  go_wp2_with fail
  refine (HA.out _).mono ?_
  rintro e w2 ⟨rfl, b2⟩
  have s2 := Sits.below s1 b2 s1.lt
  replace b4 := b4.trans (b2.mono b4.size)
  clear b2 s1 HA v0 v1 v2 v3 v4 v5 v6 v7 v8 v9
  go_upto_region 3 with fail
  obtain ⟨X, hX⟩ : ∃ V, w2.heap.size = V := ⟨_, rfl⟩
  obtain ⟨wx, hwx⟩ : ∃ y, w2.alloc (.cells (rnCells q) 24) = y := ⟨_, rfl⟩
  have HV : Hid (Sits wx V (rnCells r) 24) := by rw [← hwx]; exact s2.alloc _
  have HX : Hid (Sits wx X (rnCells q) 24) := by rw [← hwx]; exact Sits.new' hX
  replace b4 : Below w.heap.size w wx := by rw [← hwx]; exact b4.alloc b4.size _
  rw [hwx, hX]
  clear hwx hX s2
  obtain ⟨v0, v1, v2, v3, v4, v5, v6, v7, v8, v9⟩ := rn_cells HV.out
  obtain ⟨x0, x1, x2, x3, x4, x5, x6, x7, x8, x9⟩ := rn_cells HX.out
  cases hg : r.good
  case false =>
    have hok0 : ok = false := by rw [← hok]; unfold Rn.ackB; simp [hg]
    have hq0 : q = Rn.zero := by rw [← hq]; unfold Rn.ackF; simp [hg]
    clear hq hok
    subst hok0 hq0
    have HG : Hid (r.good = false) := hg
    clear hg
    dsimp only [Rn.zero] at x0 x1 x2 x3 x4 x5 x6 x7 x8 x9
    go_wp2_with (first | (go_at_call 10; refine (srenoOk_any r _).mono ?_; rintro e w5 ⟨rfl, b5⟩; rw [HG.out]; replace b4 := b4.trans (b5.mono b4.size); have s5 := Sits.below HV.out b5 (Sits.lt HV.out); have t5 := Sits.below HX.out b5 (Sits.lt HX.out); clear v0 v1 v2 v3 v4 v5 v6 v7 v8 v9 x0 x1 x2 x3 x4 x5 x6 x7 x8 x9 HV HX; obtain ⟨v0, v1, v2, v3, v4, v5, v6, v7, v8, v9⟩ := rn_cells s5; obtain ⟨x0, x1, x2, x3, x4, x5, x6, x7, x8, x9⟩ := rn_cells t5; have HV : Hid (Sits w5 V (rnCells r) 24) := s5; have HX : Hid (Sits w5 X (rnCells Rn.zero) 24) := t5; clear s5 t5 b5) | (go_at_call 11; refine (senders_any _).mono ?_; rintro e w9 ⟨rfl, b9⟩; replace b4 := b4.trans (b9.mono b4.size); clear b9))
    go_ret
    exact ⟨rfl, b4⟩
  case true =>
  have HG : Hid (r.good = true) := hg
  cases hin : inB ack r.una r.nx
  case false =>
    have hok0 : ok = false := by rw [← hok]; unfold Rn.ackB; simp [hin]
    have hq0 : r = q := by rw [← hq]; unfold Rn.ackF; rw [if_pos hg, if_neg (by rw [hin]; decide)]
    clear hq hok
    subst hok0
    have hcs : ack < r.una ∨ (¬ ack < r.una ∧ r.nx < ack) := by
      have : ¬ (r.una ≤ ack ∧ ack ≤ r.nx) := by simpa [inB] using hin
      omega
    clear hin hg
    subst hq0
    rcases hcs with k1 | ⟨k1, k2⟩
    all_goals
      go_wp2_with (first | (go_at_call 10; refine (srenoOk_any r _).mono ?_; rintro e w5 ⟨rfl, b5⟩; rw [HG.out]; replace b4 := b4.trans (b5.mono b4.size); have s5 := Sits.below HV.out b5 (Sits.lt HV.out); have t5 := Sits.below HX.out b5 (Sits.lt HX.out); clear v0 v1 v2 v3 v4 v5 v6 v7 v8 v9 x0 x1 x2 x3 x4 x5 x6 x7 x8 x9 HV HX; obtain ⟨v0, v1, v2, v3, v4, v5, v6, v7, v8, v9⟩ := rn_cells s5; obtain ⟨x0, x1, x2, x3, x4, x5, x6, x7, x8, x9⟩ := rn_cells t5; have HV : Hid (Sits w5 V (rnCells r) 24) := s5; have HX : Hid (Sits w5 X (rnCells r) 24) := t5; clear s5 t5 b5) | (go_at_call 11; refine (senders_any _).mono ?_; rintro e w9 ⟨rfl, b9⟩; replace b4 := b4.trans (b9.mono b4.size); clear b9))
      go_ret
      exact ⟨rfl, b4⟩
  case true =>
  have hok1 : ok = true := by rw [← hok]; unfold Rn.ackB; rw [hg, hin]; rfl
  have hsm := renos_same (echo := echo) hg hin
  rw [hq] at hsm
  obtain ⟨hgq, m1, m2, m3⟩ := hsm
  have HGQ : Hid (q.good = true) := hgq
  have n1 : (q.una != ack) = false := by simp [m1]
  have n2 : (q.nx != r.nx) = false := by simp [m2]
  have n3 : (q.mss != r.mss) = false := by simp [m3]
  have hcw := fun hi hx => renos_cw (echo := echo) hg hin hi hx
  rw [hq] at hcw
  have HCW : Hid _ := hcw
  clear hcw hq hok hgq m1 m2 m3 hin
  subst hok1
  obtain ⟨g1, g2, g3, g4, g5, g6, g7, g8, g9, g10, g11, g12, g13, g14, g15, g16, g17, g18⟩ := r.good_iff.1 hg
  clear g18 hg
  obtain ⟨f, hf⟩ : ∃ f, r.nx - r.una = f := ⟨_, rfl⟩
  have hfb : 0 ≤ f ∧ f ≤ 1000000000000 := by omega
  obtain ⟨f0, f1⟩ := hfb
  have HF : Hid (r.fl = f) := hf
  have e2 : IntKind.i64.wrap (f.tdiv 2) = f / 2 := by rw [Int.tdiv_eq_ediv_of_nonneg (by omega)]; exact wrap_id (by omega) (by omega)
  have e3 : IntKind.i64.wrap (r.cw + r.mss) = r.cw + r.mss := wrap_id (by omega) (by omega)
  have e4 : IntKind.i64.wrap (2 * r.mss) = 2 * r.mss := wrap_id (by omega) (by omega)
  go_upto_region 9 with (first | (go_at_call 10; refine (srenoOk_any r _).mono ?_; rintro e w5 ⟨rfl, b5⟩; rw [HG.out]; replace b4 := b4.trans (b5.mono b4.size); have s5 := Sits.below HV.out b5 (Sits.lt HV.out); have t5 := Sits.below HX.out b5 (Sits.lt HX.out); clear v0 v1 v2 v3 v4 v5 v6 v7 v8 v9 x0 x1 x2 x3 x4 x5 x6 x7 x8 x9 HV HX; obtain ⟨v0, v1, v2, v3, v4, v5, v6, v7, v8, v9⟩ := rn_cells s5; obtain ⟨x0, x1, x2, x3, x4, x5, x6, x7, x8, x9⟩ := rn_cells t5; have HV : Hid (Sits w5 V (rnCells r) 24) := s5; have HX : Hid (Sits w5 X (rnCells q) 24) := t5; clear s5 t5 b5) | (go_at_call 12; refine (irenoOk_any q _).mono ?_; rintro e w6 ⟨rfl, b6⟩; rw [HGQ.out]; replace b4 := b4.trans (b6.mono b4.size); have s6 := Sits.below HV.out b6 (Sits.lt HV.out); have t6 := Sits.below HX.out b6 (Sits.lt HX.out); clear v0 v1 v2 v3 v4 v5 v6 v7 v8 v9 x0 x1 x2 x3 x4 x5 x6 x7 x8 x9 HV HX; obtain ⟨v0, v1, v2, v3, v4, v5, v6, v7, v8, v9⟩ := rn_cells s6; obtain ⟨x0, x1, x2, x3, x4, x5, x6, x7, x8, x9⟩ := rn_cells t6; have HV : Hid (Sits w6 V (rnCells r) 24) := s6; have HX : Hid (Sits w6 X (rnCells q) 24) := t6; clear s6 t6 b6))
  clear HG HGQ
  have hall : r.inn = true ∨ (r.inn = false ∧ q.inn = true) ∨ (r.inn = false ∧ q.inn = false ∧ (echo = false → q.cw ≤ r.cw + r.mss) ∧ (echo = true → q.cw ≤ r.cw + r.mss ∨ q.cw ≤ f / 2 ∨ q.cw ≤ 2 * r.mss)) := by
    cases hi : r.inn
    · cases hx : q.inn
      · have := HCW.out hi hx
        rw [HF.out] at this
        exact .inr (.inr ⟨rfl, rfl, this.1, this.2⟩)
      · exact .inr (.inl ⟨rfl, rfl⟩)
    · exact .inl rfl
  clear HCW HF
  rcases hall with hi | ⟨hi, hx⟩ | ⟨hi, hx, h1, h2⟩
  all_goals
    have HI : Hid (r.inn = _) := hi
    clear hi
    rw [HI.out] at v8
    (try (rw [hx] at x8))
    cases echo
  all_goals
    (try (have h1 := h1 rfl))
    (try (have h2 := h2 rfl))
    try skip
  · go_wp2_with (first | (go_at_call 11; refine (senders_any _).mono ?_; rintro e w9 ⟨rfl, b9⟩; replace b4 := b4.trans (b9.mono b4.size); have s9 := Sits.below HV.out b9 (Sits.lt HV.out); have t9 := Sits.below HX.out b9 (Sits.lt HX.out); clear v0 v1 v2 v3 v4 v5 v6 v7 v8 v9 x0 x1 x2 x3 x4 x5 x6 x7 x8 x9; obtain ⟨v0, v1, v2, v3, v4, v5, v6, v7, v8, v9⟩ := rn_cells s9; obtain ⟨x0, x1, x2, x3, x4, x5, x6, x7, x8, x9⟩ := rn_cells t9; clear s9 t9; rw [HI.out] at v8; (try rw [hx] at x8); clear b9))
    all_goals
      go_ret
      exact ⟨rfl, b4⟩
  · go_wp2_with (first | (go_at_call 11; refine (senders_any _).mono ?_; rintro e w9 ⟨rfl, b9⟩; replace b4 := b4.trans (b9.mono b4.size); have s9 := Sits.below HV.out b9 (Sits.lt HV.out); have t9 := Sits.below HX.out b9 (Sits.lt HX.out); clear v0 v1 v2 v3 v4 v5 v6 v7 v8 v9 x0 x1 x2 x3 x4 x5 x6 x7 x8 x9; obtain ⟨v0, v1, v2, v3, v4, v5, v6, v7, v8, v9⟩ := rn_cells s9; obtain ⟨x0, x1, x2, x3, x4, x5, x6, x7, x8, x9⟩ := rn_cells t9; clear s9 t9; rw [HI.out] at v8; (try rw [hx] at x8); clear b9))
    all_goals
      go_ret
      exact ⟨rfl, b4⟩
  · go_wp2_with (first | (go_at_call 11; refine (senders_any _).mono ?_; rintro e w9 ⟨rfl, b9⟩; replace b4 := b4.trans (b9.mono b4.size); have s9 := Sits.below HV.out b9 (Sits.lt HV.out); have t9 := Sits.below HX.out b9 (Sits.lt HX.out); clear v0 v1 v2 v3 v4 v5 v6 v7 v8 v9 x0 x1 x2 x3 x4 x5 x6 x7 x8 x9; obtain ⟨v0, v1, v2, v3, v4, v5, v6, v7, v8, v9⟩ := rn_cells s9; obtain ⟨x0, x1, x2, x3, x4, x5, x6, x7, x8, x9⟩ := rn_cells t9; clear s9 t9; rw [HI.out] at v8; (try rw [hx] at x8); clear b9))
    all_goals
      go_ret
      exact ⟨rfl, b4⟩
  · go_wp2_with (first | (go_at_call 11; refine (senders_any _).mono ?_; rintro e w9 ⟨rfl, b9⟩; replace b4 := b4.trans (b9.mono b4.size); have s9 := Sits.below HV.out b9 (Sits.lt HV.out); have t9 := Sits.below HX.out b9 (Sits.lt HX.out); clear v0 v1 v2 v3 v4 v5 v6 v7 v8 v9 x0 x1 x2 x3 x4 x5 x6 x7 x8 x9; obtain ⟨v0, v1, v2, v3, v4, v5, v6, v7, v8, v9⟩ := rn_cells s9; obtain ⟨x0, x1, x2, x3, x4, x5, x6, x7, x8, x9⟩ := rn_cells t9; clear s9 t9; rw [HI.out] at v8; (try rw [hx] at x8); clear b9))
    all_goals
      go_ret
      exact ⟨rfl, b4⟩
  · go_wp2_with (first | (go_at_call 11; refine (senders_any _).mono ?_; rintro e w9 ⟨rfl, b9⟩; replace b4 := b4.trans (b9.mono b4.size); have s9 := Sits.below HV.out b9 (Sits.lt HV.out); have t9 := Sits.below HX.out b9 (Sits.lt HX.out); clear v0 v1 v2 v3 v4 v5 v6 v7 v8 v9 x0 x1 x2 x3 x4 x5 x6 x7 x8 x9; obtain ⟨v0, v1, v2, v3, v4, v5, v6, v7, v8, v9⟩ := rn_cells s9; obtain ⟨x0, x1, x2, x3, x4, x5, x6, x7, x8, x9⟩ := rn_cells t9; clear s9 t9; rw [HI.out] at v8; (try rw [hx] at x8); clear b9))
    all_goals
      go_ret
      exact ⟨rfl, b4⟩
  · have HD : Hid (q.cw ≤ r.cw + r.mss ∨ q.cw ≤ f / 2 ∨ q.cw ≤ 2 * r.mss) := h2
    clear h1 h2
    go_wp2_with (first | (go_at_call 11; refine (senders_any _).mono ?_; rintro e w9 ⟨rfl, b9⟩; replace b4 := b4.trans (b9.mono b4.size); have s9 := Sits.below HV.out b9 (Sits.lt HV.out); have t9 := Sits.below HX.out b9 (Sits.lt HX.out); clear v0 v1 v2 v3 v4 v5 v6 v7 v8 v9 x0 x1 x2 x3 x4 x5 x6 x7 x8 x9; obtain ⟨v0, v1, v2, v3, v4, v5, v6, v7, v8, v9⟩ := rn_cells s9; obtain ⟨x0, x1, x2, x3, x4, x5, x6, x7, x8, x9⟩ := rn_cells t9; clear s9 t9; rw [HI.out] at v8; (try rw [hx] at x8); clear b9))
    all_goals
      go_ret
      exact ⟨ret_bool (by have := HD.out; clear HD; first | rfl | (simp; omega)), b4⟩

set_option maxRecDepth 100000 in
theorem lifted (os : Os) (started : os.Started) (H : Type) (enc : TypeId × Value → H) :
    ReturnsInHanded {} Try.checked os 3 .any (Rows.fnRenosSpec.pre6 enc Try.prog Try.f3 Rows.fnRenosRow.domain false) (Rows.fnRenosSpec.post enc Try.prog Try.f3 false true false false) := by
  refine returnsInHanded_of_change (C := Try.checked) own started (by kernel_rfl) Try.func3
    (ChangeSpec.witness6 (enc := enc) (C := Try.checked) false ⟨#[], #[.slice none 0 0], []⟩ 8 (by kernel_rfl) (by kernel_rfl) (by kernel_rfl) (by kernel_rfl)) ?_
  intro W base args ds gs before hval0 hW hcnd _
  have hval : ∀ (j : Nat) t v, Try.f3.params[j]? = some t → args[j]? = some v → Value.okWide Try.prog W .any base t v := hval0
  have hW' := hW
  obtain ⟨p, q, hA0, hV, rfl, hfz, hnd⟩ := hW
  have hA : DataW.TrodAll enc Try.prog W 0 (fun _ => true) true Try.f3.params.toList args.toList ds p := hA0
  rw [Try.params3] at hA hval
  obtain ⟨v0, vs0, d0, ds0, p0, q0, hargs, rfl, rfl, h0, r0⟩ := trodAll_cons hA
  obtain ⟨rfl, rfl, rfl⟩ := trodAll_nil r0
  obtain rfl : args = #[v0] := by cases args; simp_all
  obtain ⟨rfl, rfl⟩ := trodVars_none hV
  obtain ⟨a0, len0, cap0, rfl⟩ := okWide_slice Try.underlying22 (hval 0 22 v0 rfl rfl)
  have k0 := h0
  have lt0 : ∀ x ∈ p0, x.block < W.heap.size := by obtain ⟨m, hm⟩ := k0; exact DataW.trod_lt m _ _ _ hm
  obtain ⟨z0, w0⟩ : ∃ zs, IsRow .u8 W a0 len0 cap0 zs := by
    obtain ⟨fuel, hf⟩ := h0
    rcases open_ints Try.underlying22 Try.underlying5 (by kernel_rfl) hf with ⟨hcs, _⟩ | ⟨x, l, c, zs, hcs, _, hl, hm, hz, _, hcell, hwz⟩
    · simp [Value.cells] at hcs
      obtain ⟨rfl, rfl, rfl⟩ := hcs
      exact ⟨[], .inl ⟨rfl, rfl, rfl, rfl⟩⟩
    · simp [Value.cells] at hcs
      obtain ⟨rfl, rfl, rfl⟩ := hcs
      exact ⟨zs, .inr ⟨_, rfl, hl, hm, by simpa using hz, hcell, hwz⟩⟩
  clear hA0 hval0
  refine (walk a0 len0 cap0 z0 W w0).mono fun e W' ⟨he, bel⟩ => ?_
  subst he
  exact ⟨_, rfl, _, _, _, [], _, [], hW', trodAll_mk1 (shut_bool Try.underlying4 _), (trodAll_cons_mk (Below.trod laidOut (by kernel_rfl) (of_decide_eq_true (by kernel_rfl)) k0 bel lt0) trodAll_mk0), rfl, bel.frame _, fun h => by cases h⟩

theorem over : Rows.fnRenosRow.holds Try.pinned (OpenSpec.ofChange Rows.fnRenosSpec) :=
  OpenClaim.holds_of_wide 3 Try.f3 rfl rfl rfl rfl rfl rfl rfl ⟨rfl, rfl, rfl, rfl, rfl⟩ rfl rfl rfl rfl rfl (by kernel_rfl) Try.func3 (by kernel_rfl)
    (of_decide_eq_true (by kernel_rfl)) (by unfold Func.isWrapper; first | (rw [if_pos (by decide +kernel)]; kernel_rfl) | (rw [if_neg (by decide +kernel)]; exact ⟨rfl, rfl⟩))
    (fun os started H enc _ => lifted os started H enc)

theorem proved : Rows.FnRenosSaid := over
end Go.Proofs.Ytfflheebjbdnoae.fnRenos
namespace Go.Proofs.Ytfflheebjbdnoae
theorem fnRenos_holds : Rows.FnRenosSaid := fnRenos.proved
#print axioms fnRenos_holds
end Go.Proofs.Ytfflheebjbdnoae
