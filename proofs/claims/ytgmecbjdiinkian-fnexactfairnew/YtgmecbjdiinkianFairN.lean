/-
  A NEW FAIR: FairNew OF BOTH SIDES.
-/
import Derived.Test.YtgmecbjdiinkianFairI3
import Derived.Test.YtgmecbjdiinkianAppLn
namespace Go.Proofs.Ytgmecbjdiinkian
open Go.RowKit
set_option linter.unusedVariables false

/-- An empty line. -/
def newLn (t iv : Int) : Ln := ⟨0, fun _ => default, 0, ⟨t, iv, 0, 0, 0, 0, false⟩⟩
theorem newLn_cells (t iv : Int) : lnCells none 0 (newLn t iv) = #[.slice none 0 0, .int .i64 0, .int .i64 t, .int .i64 iv, .int .i64 0, .int .i64 0, .int .i64 0, .int .i64 0, .bool false] := rfl
def newB (q lim t iv : Int) : Bool := fairB q lim 16 (fun _ => newLn t iv) (lst 0 (fun _ => 0) 0 (fun _ => 0))
theorem cnt_new (t iv : Int) : ∀ N, cntF (fun _ => newLn t iv) N = 0
  | 0 => rfl
  | N + 1 => by rw [cntF_succ, cnt_new t iv N]; rfl
theorem LP.new_lr {base : Nat} {w : World} {x : Option Addr} {m cap : Nat} {t iv : Int} (h : LP base w x m cap (fun _ => none) (fun _ => 0) (fun _ => newLn t iv)) : LR w.heap.size w x m (fun _ => newLn t iv) := by
  by_cases e : m = 0
  · exact .inl e
  · obtain ⟨g, hx, hb, hg, hat⟩ := h.at e
    exact .inr ⟨g, 0, hx, hg, fun i hi => ⟨none, 0, by rw [Nat.zero_add]; exact hat i hi, Nat.le_refl _, .inl rfl⟩⟩

theorem ret_fab {fn : Func} {tmps : Array Value} {W : World} {i j B : Nat} {v0 v1 v2 v3 v4 : Value} {b : Bool} {t : TypeId} (hr : fn.results = #[.cell i 40, .tmp j]) (hi : tmps[i]?.getD undef = .pointer (some ⟨B, 0, none⟩)) (hj : tmps[j]?.getD undef = .bool b) (hs : Sits W B #[v0, v1, v2, v3, v4] t) : (results fn tmps).run Try.prog W = .ok (.tuple #[.agg #[v0, v1, v2, v3, v4], .bool b]) W := by
  have c0 : W.cell? ⟨B, 0, none⟩ = some v0 := hs.cell 0
  have c1 : W.cell? ⟨B, 1, none⟩ = some v1 := hs.cell 1
  have c2 : W.cell? ⟨B, 2, none⟩ = some v2 := hs.cell 2
  have c3 : W.cell? ⟨B, 3, none⟩ = some v3 := hs.cell 3
  have c4 : W.cell? ⟨B, 4, none⟩ = some v4 := hs.cell 4
  simp [results, hr, hi, hj, go_sem, c0, c1, c2, c3, c4]

set_option maxRecDepth 100000 in
set_option maxHeartbeats 4000000 in
theorem sfairNew_any (q lim t iv : Int) (w : World) :
    Calls Try.prog 18 #[.int .i64 q, .int .i64 lim, .int .i64 t, .int .i64 iv] w fun e w' =>
      (newB q lim t iv = true ∧ ∃ (x : Option Addr) (cap : Nat), e = .returned (.tuple #[faVal q lim x 16 cap none 0 0 none 0 0, .bool true]) ∧ LR w'.heap.size w' x 16 (fun _ => newLn t iv) ∧ Below w.heap.size w w') ∨
      (newB q lim t iv = false ∧ e = .returned (.tuple #[faVal 0 0 none 0 0 none 0 0 none 0 0, .bool false]) ∧ Below w.heap.size w w') := by
  obtain ⟨W0, hW0⟩ : ∃ W, (w.alloc (.cells faZero 40)).alloc (.cells (faCells q lim none 0 0 none 0 0 none 0 0) 40) = W := ⟨_, rfl⟩
  have s0 : Sits W0 w.heap.size faZero 40 := by rw [← hW0]; exact (Sits.new _ _ _).alloc _
  have s1 : Sits W0 (w.heap.size + 1) (faCells q lim none 0 0 none 0 0 none 0 0) 40 := by rw [← hW0]; exact Sits.new' (by simp)
  have b0 : Below w.heap.size w W0 := by rw [← hW0]; exact ((Below.refl _ w).alloc (Nat.le_refl _) _).alloc (by simp) _
  have hz0 : W0.heap.size = w.heap.size + 1 + 1 := by rw [← hW0]; simp
  have HW0 : Hid ((w.alloc (.cells faZero 40)).alloc (.cells (faCells q lim none 0 0 none 0 0 none 0 0) 40) = W0) := hW0
  have HS0 : Hid (Sits W0 w.heap.size faZero 40) := s0
  have HS1 : Hid (Sits W0 (w.heap.size + 1) (faCells q lim none 0 0 none 0 0 none 0 0) 40) := s1
  have HB0 : Hid (Below w.heap.size w W0) := b0
  have HZ0 : Hid (W0.heap.size = w.heap.size + 1 + 1) := hz0
  clear s0 s1 b0 hz0 hW0
  go_enter Try.func18, Try.ntmps18
  go_upto_region 2 with fail
  rw [HW0.out]
  clear HW0
  go_wp2
  go_loopw [11] (fun i wr => ∃ (k : Nat) (x : Option Addr) (cap : Nat), k ≤ 16 ∧ i = .int .i64 k ∧ LP (w.heap.size + 1 + 1) wr x k cap (fun _ => none) (fun _ => 0) (fun _ => newLn t iv) ∧ Sits wr w.heap.size faZero 40 ∧ Sits wr (w.heap.size + 1) (faCells q lim x k cap none 0 0 none 0 0) 40 ∧ Below w.heap.size w wr ∧ w.heap.size + 1 + 1 ≤ wr.heap.size) (fun i _ => 16 - (intOf i).toNat)
  case atStart => exact ⟨0, none, 0, Nat.zero_le _, rfl, LP.nil _ _ _ _ _, HS0.out, HS1.out, HB0.out, Nat.le_of_eq (HZ0.out).symm⟩
  case round =>
    obtain ⟨k, x, cap, hk, rfl, hlp, hs0, hs1, hB, hsz⟩ := hrel
    have HLP : Hid (LP (w.heap.size + 1 + 1) wr x k cap (fun _ => none) (fun _ => 0) (fun _ => newLn t iv)) := hlp
    have T0 : Hid (Sits wr w.heap.size faZero 40) := hs0
    have T1 : Hid (Sits wr (w.heap.size + 1) (faCells q lim x k cap none 0 0 none 0 0) 40) := hs1
    have HB : Hid (Below w.heap.size w wr) := hB
    have x2 := hs1.cell 2
    clear hlp hs0 hs1 hB
    by_cases hlt : k < 16
    · have hlti : (k : Int) < 16 := by omega
      go_wp2_with (at_builtin; refine wpList_append_ln1 rfl _ _ rfl (w.heap.size + 1 + 1) x k cap (fun _ => none) (fun _ => 0) (fun _ => newLn t iv) rfl (LP.below HLP.out ((Below.refl _ _).alloc (Nat.le_refl _) _)) wr.heap.size rfl (Sits.ln (Sits.new wr (lnCells none 0 (newLn t iv)) 68)) (by omega) (by simp; omega) ?_; intro g cap' w2 hlp2 hgr hown hg; have b2 : Below (w.heap.size + 1 + 1) wr w2 := Below.grown (B := w.heap.size + 1 + 1) (a := wr) ((Below.refl _ wr).alloc hsz _) hgr (by simp; omega) (fun k e => (World.ownsRow.lt HLP.out k e).1); have t1 := Sits.below T1.out b2 (by omega); have y2 := t1.cell 2; have yf := t1.frozen; have U1 : Hid (Sits w2 (w.heap.size + 1) (faCells q lim x k cap none 0 0 none 0 0) 40) := t1; have U0 : Hid (Sits w2 w.heap.size faZero 40) := Sits.below T0.out b2 (by omega); have HLP2 : Hid (LP (w.heap.size + 1 + 1) w2 (some ⟨g, 0, none⟩) (k + 1) cap' (fun _ => none) (fun _ => 0) (fun _ => newLn t iv)) := hlp2; have HB2 : Hid (Below w.heap.size w w2) := (HB.out).trans (b2.mono (by omega)); have hs2 := b2.size; clear t1 hlp2 hgr hown b2)
      go_roundw
      case rel => exact ⟨k + 1, some ⟨g, 0, none⟩, cap', by omega, by go_num, LP.far HLP2.out (by omega) _ _, Sits.other U0.out (by omega) _, Sits.set U1.out 2 _, (HB2.out).setCell (show w.heap.size ≤ w.heap.size + 1 by omega) _, by simp; omega⟩
      case measure => simp [intOf]; omega
    · obtain rfl : k = 16 := by omega
      have x0 := Sits.cell T1.out 0
      have x1 := Sits.cell T1.out 1
      have x3 := Sits.cell T1.out 3
      have x4 := Sits.cell T1.out 4
      have HCN : Hid (cntF (fun _ => newLn t iv) 16 ≤ 1048576) := by show _ ≤ _; rw [cnt_new]; omega
      have HLR : Hid (LR wr.heap.size wr x 16 (fun _ => newLn t iv)) := LP.new_lr HLP.out
      cases hnb : newB q lim t iv
      case false =>
        go_wp2_with (go_at_call 14; refine (sfairOk_any q lim x 16 cap none 0 0 none 0 0 (fun _ => newLn t iv) (fun _ => 0) (fun _ => 0) _ (by omega) HCN.out (by omega) HLR.out (.inl rfl) (.inl rfl)).mono ?_; rintro e w3 ⟨rfl, b3⟩; rw [show fairB q lim 16 (fun _ => newLn t iv) (lst 0 (fun _ => 0) 0 (fun _ => 0)) = false from hnb]; have t0 := Sits.below T0.out b3 (Sits.lt T0.out); have r0 := t0.cell 0; have r1 := t0.cell 1; have r2 := t0.cell 2; have r3 := t0.cell 3; have r4 := t0.cell 4; have rf := t0.frozen; have V0 : Hid (Sits w3 w.heap.size faZero 40) := t0; have HB3 : Hid (Below w.heap.size w w3) := (HB.out).trans (b3.mono (HB.out).size); clear t0 b3)
        refine bodyPost_ret (ret_fab Try.results18 rfl rfl (((((Sits.set V0.out 0 (.int .i64 0)).set 1 (.int .i64 0)).set 2 (.slice none 0 0)).set 3 (.slice none 0 0)).set 4 (.slice none 0 0))) rfl ?_
        exact .inr ⟨hnb, rfl, (((((HB3.out).setCell (Nat.le_refl _) _).setCell (Nat.le_refl _) _).setCell (Nat.le_refl _) _).setCell (Nat.le_refl _) _).setCell (Nat.le_refl _) _⟩
      case true =>
        go_wp2_with (go_at_call 14; refine (sfairOk_any q lim x 16 cap none 0 0 none 0 0 (fun _ => newLn t iv) (fun _ => 0) (fun _ => 0) _ (by omega) HCN.out (by omega) HLR.out (.inl rfl) (.inl rfl)).mono ?_; rintro e w3 ⟨rfl, b3⟩; rw [show fairB q lim 16 (fun _ => newLn t iv) (lst 0 (fun _ => 0) 0 (fun _ => 0)) = true from hnb]; have t0 := Sits.below T0.out b3 (Sits.lt T0.out); have r0 := t0.cell 0; have r1 := t0.cell 1; have r2 := t0.cell 2; have r3 := t0.cell 3; have r4 := t0.cell 4; have rf := t0.frozen; have V0 : Hid (Sits w3 w.heap.size faZero 40) := t0; have t1 := Sits.below T1.out b3 (Sits.lt T1.out); have p0 := t1.cell 0; have p1 := t1.cell 1; have p2 := t1.cell 2; have p3 := t1.cell 3; have p4 := t1.cell 4; have HB3 : Hid (Below w.heap.size w w3) := (HB.out).trans (b3.mono (HB.out).size); have HLP3 : Hid (LP (w.heap.size + 1 + 1) w3 x 16 cap (fun _ => none) (fun _ => 0) (fun _ => newLn t iv)) := LP.below HLP.out b3; clear t0 t1 b3)
        refine bodyPost_ret (ret_fab Try.results18 rfl rfl (((((Sits.set V0.out 0 (.int .i64 q)).set 1 (.int .i64 lim)).set 2 (.slice x 16 cap)).set 3 (.slice none 0 0)).set 4 (.slice none 0 0))) rfl ?_
        exact .inl ⟨hnb, x, cap, rfl, LP.new_lr (LP.far (LP.far (LP.far (LP.far (LP.far HLP3.out (by omega) _ _) (by omega) _ _) (by omega) _ _) (by omega) _ _) (by omega) _ _), (((((HB3.out).setCell (Nat.le_refl _) _).setCell (Nat.le_refl _) _).setCell (Nat.le_refl _) _).setCell (Nat.le_refl _) _).setCell (Nat.le_refl _) _⟩

theorem made_at (N k t : Nat) (hk : k < N) (ht : t < 9) : (madeCells lnZero (N * 9))[k * 9 + t]? = some (lnZero.getD t undef) := by
  have hi : k * 9 + t < N * 9 := by omega
  simp only [madeCells, Array.getElem?_map, Array.getElem?_range, hi, if_true, Option.map_some]
  have hm : (k * 9 + t) % 9 = t := by omega
  have hc : t = 0 ∨ t = 1 ∨ t = 2 ∨ t = 3 ∨ t = 4 ∨ t = 5 ∨ t = 6 ∨ t = 7 ∨ t = 8 := by omega
  rcases hc with rfl | rfl | rfl | rfl | rfl | rfl | rfl | rfl | rfl <;> simp [hm]
theorem newN_lv (N k : Nat) (hk : k < N) : LV (madeCells lnZero (N * 9)) (k * 9) none 0 (newLn 0 0) :=
  ⟨made_at N k 0 hk (by omega), made_at N k 1 hk (by omega), made_at N k 2 hk (by omega), made_at N k 3 hk (by omega), made_at N k 4 hk (by omega), made_at N k 5 hk (by omega), made_at N k 6 hk (by omega), made_at N k 7 hk (by omega), made_at N k 8 hk (by omega)⟩
theorem setIf_same' {vs : Array Value} {k : Nat} {v : Value} (hk : vs[k]? = some v) : vs.setIfInBounds k v = vs := by
  apply Array.ext
  · simp
  · intro i h1 h2
    rw [Array.getElem_setIfInBounds]
    split
    · rename_i e
      subst e
      exact ((Array.getElem?_eq_some_iff.1 hk).2).symm
    · rfl
theorem Sits.set7 {w : World} {B : Nat} {vs : Array Value} {t : TypeId} (h : Sits w B vs t) (o : Nat) (x : Option Addr) (c : Nat) (l : Ln) (h0 : vs[o]? = some (.slice x l.n c)) (h1 : vs[o + 1]? = some (.int .i64 l.sh)) :
    Sits (((((((w.setCell ⟨B, o + 2, none⟩ (.int .i64 l.cd.tg)).setCell ⟨B, o + 3, none⟩ (.int .i64 l.cd.iv)).setCell ⟨B, o + 4, none⟩ (.int .i64 l.cd.fi)).setCell ⟨B, o + 5, none⟩ (.int .i64 l.cd.nx)).setCell ⟨B, o + 6, none⟩ (.int .i64 l.cd.ct)).setCell ⟨B, o + 7, none⟩ (.int .i64 l.cd.la)).setCell ⟨B, o + 8, none⟩ (.bool l.cd.dr)) B (Go.Proofs.Ytgmecbjdiinkian.set9 vs o x c l) t := by
  have := ((((((h.set (o + 2) (.int .i64 l.cd.tg)).set (o + 3) (.int .i64 l.cd.iv)).set (o + 4) (.int .i64 l.cd.fi)).set (o + 5) (.int .i64 l.cd.nx)).set (o + 6) (.int .i64 l.cd.ct)).set (o + 7) (.int .i64 l.cd.la)).set (o + 8) (.bool l.cd.dr)
  unfold Go.Proofs.Ytgmecbjdiinkian.set9
  rw [setIf_same' h0, setIf_same' h1]
  exact this

set_option maxRecDepth 100000 in
set_option maxHeartbeats 4000000 in
theorem ifairNew_any (q lim t iv : Int) (w : World) :
    Calls Try.prog 19 #[.int .i64 q, .int .i64 lim, .int .i64 t, .int .i64 iv] w fun e w' =>
      (newB q lim t iv = true ∧ ∃ B : Nat, e = .returned (.tuple #[faVal q lim (some ⟨B, 0, none⟩) 16 16 none 0 0 none 0 0, .bool true]) ∧ LO w.heap.size w' B 16 (fun _ => none) (fun _ => 0) (fun _ => newLn t iv) ∧ Below w.heap.size w w') ∨
      (newB q lim t iv = false ∧ e = .returned (.tuple #[faVal 0 0 none 0 0 none 0 0 none 0 0, .bool false]) ∧ Below w.heap.size w w') := by
  have hmk : ∀ w : World, (Instr.makeSlice 38 (.int .i64 16) (.int .i64 16)).run Try.prog w = .ok (.slice (some ⟨w.heap.size, 0, none⟩) 16 16) (w.alloc (.cells (madeCells lnZero (16 * 9)) 68)) := fun w => run_make_ln 16 (by omega) w
  obtain ⟨V, hV⟩ : ∃ V, madeCells lnZero (16 * 9) = V := ⟨_, rfl⟩
  have HV : Hid (madeCells lnZero (16 * 9) = V) := hV
  rw [hV] at hmk
  clear hV
  obtain ⟨W0, hW0⟩ : ∃ W, ((w.alloc (.cells faZero 40)).alloc (.cells V 68)).alloc (.cells (faCells q lim (some ⟨w.heap.size + 1, 0, none⟩) 16 16 none 0 0 none 0 0) 40) = W := ⟨_, rfl⟩
  have s0 : Sits W0 w.heap.size faZero 40 := by rw [← hW0]; exact ((Sits.new _ _ _).alloc _).alloc _
  have s1 : Sits W0 (w.heap.size + 1) V 68 := by rw [← hW0]; exact (Sits.new' (by simp)).alloc _
  have s2 : Sits W0 (w.heap.size + 1 + 1) (faCells q lim (some ⟨w.heap.size + 1, 0, none⟩) 16 16 none 0 0 none 0 0) 40 := by rw [← hW0]; exact Sits.new' (by simp)
  have b0 : Below w.heap.size w W0 := by rw [← hW0]; exact (((Below.refl _ w).alloc (Nat.le_refl _) _).alloc (by simp) _).alloc (by simp; omega) _
  have HW0 : Hid (((w.alloc (.cells faZero 40)).alloc (.cells V 68)).alloc (.cells (faCells q lim (some ⟨w.heap.size + 1, 0, none⟩) 16 16 none 0 0 none 0 0) 40) = W0) := hW0
  have HS0 : Hid (Sits W0 w.heap.size faZero 40) := s0
  have HS1 : Hid (Sits W0 (w.heap.size + 1) V 68) := s1
  have HS2 : Hid (Sits W0 (w.heap.size + 1 + 1) (faCells q lim (some ⟨w.heap.size + 1, 0, none⟩) 16 16 none 0 0 none 0 0) 40) := s2
  have HB0 : Hid (Below w.heap.size w W0) := b0
  clear s0 s1 s2 b0 hW0
  go_enter Try.func19, Try.ntmps19
  go_upto_region 2 with fail
  rw [HW0.out]
  clear HW0
  have x2 := Sits.cell HS2.out 2
  go_wp2
  go_loopw [19] (fun i wr => ∃ (k : Nat) (vs : Array Value), k ≤ 16 ∧ i = .int .i64 k ∧ Sits wr (w.heap.size + 1) vs 68 ∧ vs.size = 16 * 9 ∧ (∀ i, i < k → LV vs (i * 9) none 0 (newLn t iv)) ∧ (∀ i, k ≤ i → i < 16 → LV vs (i * 9) none 0 (newLn 0 0)) ∧ Sits wr w.heap.size faZero 40 ∧ Sits wr (w.heap.size + 1 + 1) (faCells q lim (some ⟨w.heap.size + 1, 0, none⟩) 16 16 none 0 0 none 0 0) 40 ∧ Below w.heap.size w wr) (fun i _ => 16 - (intOf i).toNat)
  case atStart => exact ⟨0, V, Nat.zero_le _, rfl, HS1.out, by rw [← HV.out]; simp [madeCells], fun i hi => absurd hi (Nat.not_lt_zero _), fun i _ hi => by rw [← HV.out]; exact newN_lv 16 i hi, HS0.out, HS2.out, HB0.out⟩
  case round =>
    clear x2
    obtain ⟨k, vs, hk, rfl, hs1, hvs, hl1, hl2, hs0, hs2, hB⟩ := hrel
    have T1 : Hid (Sits wr (w.heap.size + 1) vs 68) := hs1
    have T0 : Hid (Sits wr w.heap.size faZero 40) := hs0
    have T2 : Hid (Sits wr (w.heap.size + 1 + 1) (faCells q lim (some ⟨w.heap.size + 1, 0, none⟩) 16 16 none 0 0 none 0 0) 40) := hs2
    have HVS : Hid (vs.size = 16 * 9) := hvs
    have HL1 : Hid (∀ i, i < k → LV vs (i * 9) none 0 (newLn t iv)) := hl1
    have HL2 : Hid (∀ i, k ≤ i → i < 16 → LV vs (i * 9) none 0 (newLn 0 0)) := hl2
    have HB : Hid (Below w.heap.size w wr) := hB
    have x2 := hs2.cell 2
    clear hs1 hvs hl1 hl2 hs0 hs2 hB
    by_cases hlt : k < 16
    · have hlti : (k : Int) < 16 := by omega
      have at0 := LV.at (HL2.out k (Nat.le_refl _) hlt) T1.out
      obtain ⟨g0, g1, g2, g3, g4, g5, g6, g7, g8⟩ := at0
      have gf := Sits.frozen T1.out
      go_wp2
      go_roundw
      case rel =>
        simp only [Nat.add_assoc, Nat.reduceAdd]
        have hv := HL2.out k (Nat.le_refl _) hlt
        have s7 := Sits.set7 T1.out (k * 9) none 0 (newLn t iv) hv.1 hv.2.1
        have c7 := cd_chg wr (w.heap.size + 1) (k * 9 + 2) (k * 9 + 3) (k * 9 + 4) (k * 9 + 5) (k * 9 + 6) (k * 9 + 7) (k * 9 + 8) (.int .i64 t) (.int .i64 iv) (.int .i64 0) (.int .i64 0) (.int .i64 0) (.int .i64 0) (.bool false)
        refine ⟨k + 1, Go.Proofs.Ytgmecbjdiinkian.set9 vs (k * 9) none 0 (newLn t iv), by omega, by go_num, s7, (set9_size _ _ _ _ _).trans HVS.out, fun i hi => ?_, fun i h1 h2 => (HL2.out i (by omega) h2).set9 (by omega), Sits.chg T0.out c7 (.inl (by omega)), Sits.chg T2.out c7 (.inr (by omega)), c7.bel HB.out (by omega)⟩
        by_cases e : i = k
        · subst e
          exact set9_lv _ _ _ _ _ (by rw [HVS.out]; omega)
        · exact (HL1.out i (by omega)).set9 (by omega)
      case measure => simp [intOf]; omega
    · obtain rfl : k = 16 := by omega
      have x0 := Sits.cell T2.out 0
      have x1 := Sits.cell T2.out 1
      have x3 := Sits.cell T2.out 3
      have x4 := Sits.cell T2.out 4
      have lo : LO (w.heap.size + 1) wr (w.heap.size + 1) 16 (fun _ => none) (fun _ => 0) (fun _ => newLn t iv) := ⟨Nat.le_refl _, ⟨vs, _, T1.out, HVS.out, HL1.out⟩, fun _ _ => Nat.le_refl _, fun _ _ => .inl rfl, fun _ _ _ _ _ h => absurd rfl h⟩
      have HLO : Hid (LO (w.heap.size + 1) wr (w.heap.size + 1) 16 (fun _ => none) (fun _ => 0) (fun _ => newLn t iv)) := lo
      have HCN : Hid (cntF (fun _ => newLn t iv) 16 ≤ 1048576) := by show _ ≤ _; rw [cnt_new]; omega
      have HLR : Hid (LR wr.heap.size wr (some ⟨w.heap.size + 1, 0, none⟩) 16 (fun _ => newLn t iv)) := lo.lr
      clear lo
      cases hnb : newB q lim t iv
      case false =>
        go_wp2_with (go_at_call 16; refine (ifairOk_any q lim (some ⟨w.heap.size + 1, 0, none⟩) 16 16 none 0 0 none 0 0 (fun _ => newLn t iv) (fun _ => 0) (fun _ => 0) _ (by omega) HCN.out (by omega) HLR.out (.inl rfl) (.inl rfl)).mono ?_; rintro e w3 ⟨rfl, b3⟩; rw [show fairB q lim 16 (fun _ => newLn t iv) (lst 0 (fun _ => 0) 0 (fun _ => 0)) = false from hnb]; have t0 := Sits.below T0.out b3 (Sits.lt T0.out); have r0 := t0.cell 0; have r1 := t0.cell 1; have r2 := t0.cell 2; have r3 := t0.cell 3; have r4 := t0.cell 4; have rf := t0.frozen; have V0 : Hid (Sits w3 w.heap.size faZero 40) := t0; have HB3 : Hid (Below w.heap.size w w3) := (HB.out).trans (b3.mono (HB.out).size); clear t0 b3)
        refine bodyPost_ret (ret_fab Try.results19 rfl rfl (((((Sits.set V0.out 0 (.int .i64 0)).set 1 (.int .i64 0)).set 2 (.slice none 0 0)).set 3 (.slice none 0 0)).set 4 (.slice none 0 0))) rfl ?_
        exact .inr ⟨hnb, rfl, (((((HB3.out).setCell (Nat.le_refl _) _).setCell (Nat.le_refl _) _).setCell (Nat.le_refl _) _).setCell (Nat.le_refl _) _).setCell (Nat.le_refl _) _⟩
      case true =>
        go_wp2_with (go_at_call 16; refine (ifairOk_any q lim (some ⟨w.heap.size + 1, 0, none⟩) 16 16 none 0 0 none 0 0 (fun _ => newLn t iv) (fun _ => 0) (fun _ => 0) _ (by omega) HCN.out (by omega) HLR.out (.inl rfl) (.inl rfl)).mono ?_; rintro e w3 ⟨rfl, b3⟩; rw [show fairB q lim 16 (fun _ => newLn t iv) (lst 0 (fun _ => 0) 0 (fun _ => 0)) = true from hnb]; have t0 := Sits.below T0.out b3 (Sits.lt T0.out); have r0 := t0.cell 0; have r1 := t0.cell 1; have r2 := t0.cell 2; have r3 := t0.cell 3; have r4 := t0.cell 4; have rf := t0.frozen; have V0 : Hid (Sits w3 w.heap.size faZero 40) := t0; have t1 := Sits.below T2.out b3 (Sits.lt T2.out); have p0 := t1.cell 0; have p1 := t1.cell 1; have p2 := t1.cell 2; have p3 := t1.cell 3; have p4 := t1.cell 4; have HB3 : Hid (Below w.heap.size w w3) := (HB.out).trans (b3.mono (HB.out).size); have HLO3 : Hid (LO (w.heap.size + 1) w3 (w.heap.size + 1) 16 (fun _ => none) (fun _ => 0) (fun _ => newLn t iv)) := LO.below HLO.out b3; clear t0 t1 b3)
        refine bodyPost_ret (ret_fab Try.results19 rfl rfl (((((Sits.set V0.out 0 (.int .i64 q)).set 1 (.int .i64 lim)).set 2 (.slice (some ⟨w.heap.size + 1, 0, none⟩) 16 16)).set 3 (.slice none 0 0)).set 4 (.slice none 0 0))) rfl ?_
        have h0 : w.heap.size ≤ w.heap.size := Nat.le_refl _
        have h1 : w.heap.size < w.heap.size + 1 := Nat.lt_succ_self _
        have c9 : Chg w.heap.size (w.heap.size + 1) w3 _ := chg_set (chg_set (chg_set (chg_set (chg_set (Chg.refl _ _ w3) h0 h1 0 (.int .i64 q)) h0 h1 1 (.int .i64 lim)) h0 h1 2 (.slice (some ⟨w.heap.size + 1, 0, none⟩) 16 16)) h0 h1 3 (.slice none 0 0)) h0 h1 4 (.slice none 0 0)
        exact .inl ⟨hnb, w.heap.size + 1, rfl, (LO.chg HLO3.out c9 (.inl (Nat.le_refl _))).mono (by omega), c9.bel HB3.out (Nat.le_refl _)⟩

end Go.Proofs.Ytgmecbjdiinkian
