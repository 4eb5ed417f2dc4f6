/-
  WHICH FAIRS ARE WELL, AS THE SPECIFICATION SAYS: l7lists, FairOk.
-/
import Derived.Test.YtdhdigjghchdjaaFairB
namespace Go.Proofs.Ytdhdigjghchdjaa
open Go.RowKit
set_option linter.unusedVariables false

theorem in_empty_new (w : World) (base : Nat) (f : Nat → Int) (B : Nat) (hB : w.heap.size = B) (hb : base ≤ B) : JO base (w.alloc (.cells #[] 3)) (some ⟨B, 0, none⟩) 0 0 f := by
  subst hB
  exact ⟨rfl, .inr ⟨w.heap.size, 0, #[], rfl, hb, World.alloc_heap_new w _, Nat.le_refl _, by simp, rfl, by simp [inL]⟩⟩

/-- A table of those that are in l. -/
def Tbl (w : World) (S : Nat) (t : TypeId) (l : List Int) : Prop := ∃ vs : Array Value, Sits w S vs t ∧ vs.size = 16 ∧ ∀ i, i < 16 → vs[i]? = some (.bool (decide ((i : Int) ∈ l)))
theorem Tbl.below {w w' : World} {S n : Nat} {t : TypeId} {l : List Int} (h : Tbl w S t l) (hb : Below n w w') (hn : S < n) : Tbl w' S t l := by
  obtain ⟨vs, h0, h1, h2⟩ := h
  exact ⟨vs, h0.below hb hn, h1, h2⟩
theorem Tbl.cell {w : World} {S : Nat} {t : TypeId} {l : List Int} (h : Tbl w S t l) (i : Nat) (hi : i < 16) : w.cell? ⟨S, i, none⟩ = some (.bool (decide ((i : Int) ∈ l))) := by
  obtain ⟨vs, h0, h1, h2⟩ := h
  exact (h0.cell i).trans (h2 i hi)
theorem Tbl.frozen {w : World} {S : Nat} {t : TypeId} {l : List Int} (h : Tbl w S t l) (k : Nat) : w.frozen? ⟨S, k, none⟩ = false := by
  obtain ⟨vs, h0, h1, h2⟩ := h
  exact h0.frozen k
theorem Tbl.lt {w : World} {S : Nat} {t : TypeId} {l : List Int} (h : Tbl w S t l) : S < w.heap.size := by
  obtain ⟨vs, h0, h1, h2⟩ := h
  exact h0.lt
theorem Tbl.set {w : World} {S : Nat} {t : TypeId} {l : List Int} (h : Tbl w S t l) (i : Nat) (hi : i < 16) : Tbl (w.setCell ⟨S, i, none⟩ (.bool true)) S t (l ++ [(i : Int)]) := by
  obtain ⟨vs, h0, h1, h2⟩ := h
  refine ⟨_, h0.set i _, by simpa using h1, fun j hj => ?_⟩
  by_cases e : j = i
  · subst e
    rw [Array.getElem?_setIfInBounds_self_of_lt (by omega)]
    simp
  · rw [Array.getElem?_setIfInBounds_ne (by omega), h2 j hj]
    have : ¬ ((j : Int) = (i : Int)) := by omega
    simp [this]

theorem infoBool : (Try.prog.info? 4).map (fun i => (i.zero, i.size, i.bytes)) = some (some (.bool false), 1, 1) := by kernel_rfl

def okB (l : List Int) : Bool := decide (okL l)

theorem lst_get (nn : Nat) (nw : Nat → Int) (no : Nat) (od : Nat → Int) (k : Nat) (h : k < nn + no) : (lst nn nw no od)[k]? = some (joinI nw nn od k) := by
  unfold lst joinI
  by_cases h1 : k < nn
  · rw [List.getElem?_append_left (by simpa using h1), if_pos h1]; simp [h1]
  · rw [List.getElem?_append_right (by simpa using h1), if_neg h1]; have h2 : k - nn < no := by omega
    simp [h2]
theorem lst_len (nn : Nat) (nw : Nat → Int) (no : Nat) (od : Nat → Int) : (lst nn nw no od).length = nn + no := by simp [lst]
theorem take_snoc {l : List Int} {k : Nat} {x : Int} (h : l[k]? = some x) : l.take (k + 1) = l.take k ++ [x] := by
  rw [List.take_add_one, h]; rfl
theorem split_at {l : List Int} {k : Nat} {x : Int} (h : l[k]? = some x) : l = l.take k ++ x :: l.drop (k + 1) := by
  have hk := (List.getElem?_eq_some_iff.1 h)
  obtain ⟨h1, h2⟩ := hk
  have := List.take_append_drop k l
  rw [List.drop_eq_getElem_cons h1, h2] at this
  exact this.symm

set_option maxRecDepth 100000 in
set_option maxHeartbeats 2000000 in
theorem l7lists_any (a : Option Addr) (nn ca : Nat) (nw : Nat → Int) (b : Option Addr) (no cb : Nat) (od : Nat → Int) (w : World) (hn : nn + no ≤ 1048576) (ha : Row .i64 w a nn nw) (hb : Row .i64 w b no od) :
    Calls Try.prog 21 #[.slice a nn ca, .slice b no cb] w fun e w' => e = .returned (.bool (okB (lst nn nw no od))) ∧ Below w.heap.size w w' := by
  have HA : Hid (Row .i64 w a nn nw) := ha
  have HB : Hid (Row .i64 w b no od) := hb
  have HN : Hid (nn + no ≤ 1048576) := hn
  clear ha hb hn
  have hmk : ∀ w : World, (Instr.makeSlice 82 (.int .i64 16) (.int .i64 16)).run Try.prog w = .ok (.slice (some ⟨w.heap.size, 0, none⟩) 16 16) (w.alloc (.cells (madeCells #[.bool false] 16) 4)) := fun w => run_make_row' (P := Try.prog) 82 4 (.bool false) 1 Try.underlying82 infoBool rfl .i64 .i64 16 (by omega) (by omega) w
  have HL : Hid (∀ k, k < nn + no → (lst nn nw no od)[k]? = some (joinI nw nn od k)) := fun k hk => lst_get nn nw no od k hk
  have HLL : Hid ((lst nn nw no od).length = nn + no) := lst_len nn nw no od
  obtain ⟨l, hl⟩ : ∃ l, lst nn nw no od = l := ⟨_, rfl⟩
  obtain ⟨f, hf⟩ : ∃ f, joinI nw nn od = f := ⟨_, rfl⟩
  obtain ⟨n, hn⟩ : ∃ n, nn + no = n := ⟨_, rfl⟩
  rw [hl] at HL HLL ⊢
  rw [hf] at HL
  rw [hn] at HL HLL
  have hn' : (n : Int) ≤ 1048576 := by have := HN.out; omega
  have HF : Hid (joinI nw nn od = f) := hf
  have HNN : Hid (nn + no = n) := hn
  clear hl hf hn
  go_enter Try.func21, Try.ntmps21
  go_upto_region 3 with (at_builtin; first
    | (refine wpList_append_inN rfl _ _ rfl (w.heap.size + 1) (some ⟨w.heap.size + 1, 0, none⟩) 0 0 nw rfl (in_empty_new _ _ _ _ (by simp) (by omega)) a nn ca nw rfl (Row.below HA.out (by go_grown)) (by have := HN.out; omega) (by simp) ?_; intro x cap w1 hjo hgr; have hj1 : JO (w.heap.size + 1) w1 x nn cap nw := JO.congr (f := joinI nw 0 nw) (by simpa using hjo) (fun i _ => by simp [joinI]); clear hjo; have B1 : Below w.heap.size w w1 := Below.grown (B := w.heap.size) (a := w) (by go_grown) hgr (by simp; omega) (fun k e => by simp [Value.ownBlock] at e; omega); have B1' : Below (w.heap.size + 1) (w.alloc (.cells (madeCells #[.bool false] 16) 4)) w1 := Below.grown (B := w.heap.size + 1) (a := w.alloc (.cells (madeCells #[.bool false] 16) 4)) ((Below.refl _ _).alloc (by simp) _) hgr (by simp) (fun k e => by simp [Value.ownBlock] at e; omega))
    | (refine wpList_append_inN rfl _ _ rfl (w.heap.size + 1) x nn cap nw rfl hj1 b no cb od rfl (Row.below HB.out B1) HN.out (by have := B1'.size; simpa using this) ?_; intro x2 cap2 w2 hjo2 hgr2))
  have B2 : Below w.heap.size w w2 := Below.grown (B := w.heap.size) (a := w) B1 hgr2 B1.size (fun k e => Nat.le_trans (Nat.le_succ _) (JO.own_lt hj1 k e).1)
  have B2' : Below (w.heap.size + 1) (w.alloc (.cells (madeCells #[.bool false] 16) 4)) w2 := Below.grown (B := w.heap.size + 1) (a := w.alloc (.cells (madeCells #[.bool false] 16) 4)) B1' hgr2 (by have := B1'.size; simpa using this) (fun k e => (JO.own_lt hj1 k e).1)
  have tb : Tbl w2 w.heap.size 4 [] := Tbl.below ⟨_, Sits.new w _ _, by simp [madeCells], fun i hi => by simp [madeCells, hi, Nat.mod_one]⟩ B2' (by omega)
  rw [HF.out, HNN.out] at hjo2
  rw [HNN.out]
  clear HF HNN HA HB B1 B1' B2' hgr hgr2 hj1 hmk
  have HJ : Hid (JO (w.heap.size + 1) w2 x2 n cap2 f) := hjo2
  have HT : Hid (Tbl w2 w.heap.size 4 []) := tb
  have HB2 : Hid (Below w.heap.size w w2) := B2
  clear hjo2 tb B2
  go_wp2
  go_loopw [7] (fun i wr => ∃ k : Nat, k ≤ n ∧ i = .int .i64 k ∧ Tbl wr w.heap.size 4 (l.take k) ∧ okL (l.take k) ∧ JO (w.heap.size + 1) wr x2 n cap2 f ∧ Below w.heap.size w wr) (fun i _ => n - (intOf i).toNat)
  case atStart => exact ⟨0, Nat.zero_le _, rfl, HT.out, ⟨fun x hx => absurd hx (by simp), by simp⟩, HJ.out, HB2.out⟩
  case round =>
    clear HT HJ HB2
    obtain ⟨k, hk, rfl, ht, ho, hj, hB⟩ := hrel
    have HTB : Hid (Tbl wr w.heap.size 4 (l.take k)) := ht
    have HO : Hid (okL (l.take k)) := ho
    have HJ : Hid (JO (w.heap.size + 1) wr x2 n cap2 f) := hj
    clear ht ho hj
    by_cases hlt : k < n
    · have hg := HL.out k hlt
      obtain ⟨b1, off, rfl, hbl, hc⟩ := Row.at (JO.row HJ.out) hlt
      have c1 := hc k hlt
      clear hc
      have hsp := split_at hg
      have hsn := take_snoc hg
      obtain ⟨v, hv⟩ : ∃ v, f k = v := ⟨_, rfl⟩
      rw [hv] at c1 hsp hsn
      clear hg
      by_cases h0 : v < 0
      · have HE : Hid (false = okB l) := by show _ = _; symm; unfold okB; rw [decide_eq_false_iff_not, hsp]; exact okL_not (.inl (by omega))
        clear hsp hsn hv
        go_wp2
        go_ret
        exact ⟨ret_bool HE.out, hB⟩
      · have h0' : decide (v < 0) = false := by simpa using h0
        by_cases h1 : 16 ≤ v
        · have HE : Hid (false = okB l) := by show _ = _; symm; unfold okB; rw [decide_eq_false_iff_not, hsp]; exact okL_not (.inl (by omega))
          clear hsp hsn hv
          go_wp2
          go_ret
          exact ⟨ret_bool HE.out, hB⟩
        · have h1' : decide (16 ≤ v) = false := by simpa using h1
          obtain ⟨m, rfl⟩ : ∃ m : Nat, v = (m : Int) := ⟨v.toNat, by omega⟩
          have hm : m < 16 := by omega
          have hmi : (m : Int) < 16 := by omega
          have t1 := Tbl.cell HTB.out m hm
          have tf := Tbl.frozen HTB.out
          by_cases hin : (m : Int) ∈ l.take k
          · have HE : Hid (false = okB l) := by show _ = _; symm; unfold okB; rw [decide_eq_false_iff_not, hsp]; exact okL_not (.inr hin)
            have hd : decide ((m : Int) ∈ l.take k) = true := by simpa using hin
            rw [hd] at t1
            clear hsp hsn hv hin hd
            go_wp2
            go_ret
            exact ⟨ret_bool HE.out, hB⟩
          · have hd : decide ((m : Int) ∈ l.take k) = false := by simpa using hin
            rw [hd] at t1
            have HSN : Hid (l.take (k + 1) = l.take k ++ [(m : Int)]) := hsn
            have HIN : Hid ((m : Int) ∉ l.take k) := hin
            clear hsp hv hsn hin hd
            go_wp2
            go_roundw
            case rel => exact ⟨k + 1, by omega, by go_num, by rw [HSN.out]; exact Tbl.set HTB.out m hm, by rw [HSN.out]; exact okL_snoc HO.out (by omega) (by omega) HIN.out, JO.far HJ.out (by omega) _ _, hB.setCell (Nat.le_refl _) _⟩
            case measure => simp [intOf]; omega
    · obtain rfl : k = n := by omega
      have HE : Hid (true = okB l) := by show _ = _; symm; unfold okB; rw [decide_eq_true_eq]; have := HO.out; rw [List.take_of_length_le (by rw [HLL.out]; exact Nat.le_refl _)] at this; exact this
      go_wp2
      go_ret
      exact ⟨ret_bool HE.out, hB⟩

/-- FairOk's second part: the lines one by one. -/
def lnsP (L : Nat → Ln) (ls : List Int) (k : Nat) : Prop := ∀ i, i < k → lnP i (L i) ls

set_option maxRecDepth 100000 in
set_option maxHeartbeats 4000000 in
theorem sfairOk_any (q lim : Int) (a : Option Addr) (N ca : Nat) (b : Option Addr) (nn cb : Nat) (c : Option Addr) (no cc : Nat) (L : Nat → Ln) (nw od : Nat → Int) (w : World)
    (hN : N ≤ 1048576) (hcn : cntF L N ≤ 1048576) (hnn : nn + no ≤ 1048576) (hP : LR w.heap.size w a N L) (hb : Row .i64 w b nn nw) (hc : Row .i64 w c no od) :
    Calls Try.prog 11 #[faVal q lim a N ca b nn cb c no cc] w fun e w' => e = .returned (.bool (fairB q lim N L (lst nn nw no od))) ∧ Below w.heap.size w w' := by
  have HP : Hid (LR w.heap.size w a N L) := hP
  have HRB : Hid (Row .i64 w b nn nw) := hb
  have HRC : Hid (Row .i64 w c no od) := hc
  have HN : Hid (N ≤ 1048576) := hN
  have HCN : Hid (cntF L N ≤ 1048576) := hcn
  have HNN : Hid (nn + no ≤ 1048576) := hnn
  have hNi : (N : Int) ≤ 1048576 := by omega
  clear hP hb hc hN hcn hnn
  have HHB : Hid (∀ v, (v ∈ lst nn nw no od) = (hasB nw nn v = true ∨ hasB od no v = true)) := fun v => by unfold lst hasB; rw [List.mem_append]; simp
  obtain ⟨ls, hls⟩ : ∃ l, lst nn nw no od = l := ⟨_, rfl⟩
  have HLS : Hid (lst nn nw no od = ls) := hls
  rw [hls] at HHB ⊢
  clear hls
  have s0 := Sits.new w (faCells q lim a N ca b nn cb c no cc) 30
  have b0 : Below w.heap.size w (w.alloc (.cells (faCells q lim a N ca b nn cb c no cc) 30)) := (Below.refl _ w).alloc (Nat.le_refl _) _
  obtain ⟨W0, hW0⟩ : ∃ W, w.alloc (.cells (faCells q lim a N ca b nn cb c no cc) 30) = W := ⟨_, rfl⟩
  have hz0 : W0.heap.size = w.heap.size + 1 := by rw [← hW0]; simp
  rw [hW0] at s0 b0
  have HW0 : Hid (w.alloc (.cells (faCells q lim a N ca b nn cb c no cc) 30) = W0) := hW0
  have HS0 : Hid (Sits _ _ _ _) := s0
  have HB0 : Hid (Below _ _ _) := b0
  have HZ0 : Hid (W0.heap.size = w.heap.size + 1) := hz0
  clear s0 b0 hW0 hz0
  go_enter Try.func11, Try.ntmps11
  go_upto_region 1 with fail
  rw [HW0.out]
  clear HW0
  have x0 := Sits.cell HS0.out 0
  have x1 := Sits.cell HS0.out 1
  have x2 := Sits.cell HS0.out 2
  have x3 := Sits.cell HS0.out 3
  have x4 := Sits.cell HS0.out 4
  have l0 := Sits.lt HS0.out
  have HBB : Hid (∀ w', Below W0.heap.size W0 w' → Below w.heap.size w w') := fun w' hw' => (HB0.out).trans (hw'.mono (HB0.out).size)
  by_cases t0 : q < 1
  · have t0' : decide (q < 1) = true := by simpa using t0
    have HE : Hid (false = fairB q lim N L ls) := fair_no (fun h => by have := h.1; omega)
    refine wp_region_quiet (C := fun w' => Below W0.heap.size W0 w') (by kernel_rfl) (by kernel_rfl) ((Below.refl _ _).drew) ?_
    simp only []
    repeat (first
      | go_big_quiet_skip
      | (go_big_quiet_want
         unfold Oper.quiet
         apply Exists.intro
         refine ⟨fun w' hw' => ?_, ?_⟩
         (have z0 := (hw'.cell (p := ⟨w.heap.size, 0, none⟩) (by show w.heap.size < _; omega)).trans x0
          have z1 := (hw'.cell (p := ⟨w.heap.size, 1, none⟩) (by show w.heap.size < _; omega)).trans x1
          have z2 := (hw'.cell (p := ⟨w.heap.size, 2, none⟩) (by show w.heap.size < _; omega)).trans x2
          have z3 := (hw'.cell (p := ⟨w.heap.size, 3, none⟩) (by show w.heap.size < _; omega)).trans x3
          have z4 := (hw'.cell (p := ⟨w.heap.size, 4, none⟩) (by show w.heap.size < _; omega)).trans x4
          go_simp
          first
            | exact rfl)
         simp only [Act.put, List.setIfInBounds_toArray, List.set_cons_zero, List.set_cons_succ]
         go_big_quiet_on))
    refine wpQuiet_nil ?_
    intro w2 hw2
    go_wp2
    go_ret
    exact ⟨ret_bool HE.out, HBB.out _ hw2⟩
  have t0' : decide (q < 1) = false := by simpa using t0
  by_cases t1 : 10000 < q
  · have t1' : decide (10000 < q) = true := by simpa using t1
    have HE : Hid (false = fairB q lim N L ls) := fair_no (fun h => by have := h.1; omega)
    refine wp_region_quiet (C := fun w' => Below W0.heap.size W0 w') (by kernel_rfl) (by kernel_rfl) ((Below.refl _ _).drew) ?_
    simp only []
    repeat (first
      | go_big_quiet_skip
      | (go_big_quiet_want
         unfold Oper.quiet
         apply Exists.intro
         refine ⟨fun w' hw' => ?_, ?_⟩
         (have z0 := (hw'.cell (p := ⟨w.heap.size, 0, none⟩) (by show w.heap.size < _; omega)).trans x0
          have z1 := (hw'.cell (p := ⟨w.heap.size, 1, none⟩) (by show w.heap.size < _; omega)).trans x1
          have z2 := (hw'.cell (p := ⟨w.heap.size, 2, none⟩) (by show w.heap.size < _; omega)).trans x2
          have z3 := (hw'.cell (p := ⟨w.heap.size, 3, none⟩) (by show w.heap.size < _; omega)).trans x3
          have z4 := (hw'.cell (p := ⟨w.heap.size, 4, none⟩) (by show w.heap.size < _; omega)).trans x4
          go_simp
          first
            | exact rfl)
         simp only [Act.put, List.setIfInBounds_toArray, List.set_cons_zero, List.set_cons_succ]
         go_big_quiet_on))
    refine wpQuiet_nil ?_
    intro w2 hw2
    go_wp2
    go_ret
    exact ⟨ret_bool HE.out, HBB.out _ hw2⟩
  have t1' : decide (10000 < q) = false := by simpa using t1
  by_cases t2 : lim < 1
  · have t2' : decide (lim < 1) = true := by simpa using t2
    have HE : Hid (false = fairB q lim N L ls) := fair_no (fun h => by have := h.2.1; omega)
    refine wp_region_quiet (C := fun w' => Below W0.heap.size W0 w') (by kernel_rfl) (by kernel_rfl) ((Below.refl _ _).drew) ?_
    simp only []
    repeat (first
      | go_big_quiet_skip
      | (go_big_quiet_want
         unfold Oper.quiet
         apply Exists.intro
         refine ⟨fun w' hw' => ?_, ?_⟩
         (have z0 := (hw'.cell (p := ⟨w.heap.size, 0, none⟩) (by show w.heap.size < _; omega)).trans x0
          have z1 := (hw'.cell (p := ⟨w.heap.size, 1, none⟩) (by show w.heap.size < _; omega)).trans x1
          have z2 := (hw'.cell (p := ⟨w.heap.size, 2, none⟩) (by show w.heap.size < _; omega)).trans x2
          have z3 := (hw'.cell (p := ⟨w.heap.size, 3, none⟩) (by show w.heap.size < _; omega)).trans x3
          have z4 := (hw'.cell (p := ⟨w.heap.size, 4, none⟩) (by show w.heap.size < _; omega)).trans x4
          go_simp
          first
            | exact rfl)
         simp only [Act.put, List.setIfInBounds_toArray, List.set_cons_zero, List.set_cons_succ]
         go_big_quiet_on))
    refine wpQuiet_nil ?_
    intro w2 hw2
    go_wp2
    go_ret
    exact ⟨ret_bool HE.out, HBB.out _ hw2⟩
  have t2' : decide (lim < 1) = false := by simpa using t2
  by_cases t3 : 40 < lim
  · have t3' : decide (40 < lim) = true := by simpa using t3
    have HE : Hid (false = fairB q lim N L ls) := fair_no (fun h => by have := h.2.1; omega)
    refine wp_region_quiet (C := fun w' => Below W0.heap.size W0 w') (by kernel_rfl) (by kernel_rfl) ((Below.refl _ _).drew) ?_
    simp only []
    repeat (first
      | go_big_quiet_skip
      | (go_big_quiet_want
         unfold Oper.quiet
         apply Exists.intro
         refine ⟨fun w' hw' => ?_, ?_⟩
         (have z0 := (hw'.cell (p := ⟨w.heap.size, 0, none⟩) (by show w.heap.size < _; omega)).trans x0
          have z1 := (hw'.cell (p := ⟨w.heap.size, 1, none⟩) (by show w.heap.size < _; omega)).trans x1
          have z2 := (hw'.cell (p := ⟨w.heap.size, 2, none⟩) (by show w.heap.size < _; omega)).trans x2
          have z3 := (hw'.cell (p := ⟨w.heap.size, 3, none⟩) (by show w.heap.size < _; omega)).trans x3
          have z4 := (hw'.cell (p := ⟨w.heap.size, 4, none⟩) (by show w.heap.size < _; omega)).trans x4
          go_simp
          first
            | exact rfl)
         simp only [Act.put, List.setIfInBounds_toArray, List.set_cons_zero, List.set_cons_succ]
         go_big_quiet_on))
    refine wpQuiet_nil ?_
    intro w2 hw2
    go_wp2
    go_ret
    exact ⟨ret_bool HE.out, HBB.out _ hw2⟩
  have t3' : decide (40 < lim) = false := by simpa using t3
  by_cases t4 : N = 16
  case neg =>
    have t4' : ((N : Int) != 16) = true := by simp; omega
    have HE : Hid (false = fairB q lim N L ls) := fair_no (fun h => by exact t4 h.2.2.1)
    refine wp_region_quiet (C := fun w' => Below W0.heap.size W0 w') (by kernel_rfl) (by kernel_rfl) ((Below.refl _ _).drew) ?_
    simp only []
    repeat (first
      | go_big_quiet_skip
      | (go_big_quiet_want
         unfold Oper.quiet
         apply Exists.intro
         refine ⟨fun w' hw' => ?_, ?_⟩
         (have z0 := (hw'.cell (p := ⟨w.heap.size, 0, none⟩) (by show w.heap.size < _; omega)).trans x0
          have z1 := (hw'.cell (p := ⟨w.heap.size, 1, none⟩) (by show w.heap.size < _; omega)).trans x1
          have z2 := (hw'.cell (p := ⟨w.heap.size, 2, none⟩) (by show w.heap.size < _; omega)).trans x2
          have z3 := (hw'.cell (p := ⟨w.heap.size, 3, none⟩) (by show w.heap.size < _; omega)).trans x3
          have z4 := (hw'.cell (p := ⟨w.heap.size, 4, none⟩) (by show w.heap.size < _; omega)).trans x4
          go_simp
          first
            | exact rfl)
         simp only [Act.put, List.setIfInBounds_toArray, List.set_cons_zero, List.set_cons_succ]
         go_big_quiet_on))
    refine wpQuiet_nil ?_
    intro w2 hw2
    go_wp2
    go_ret
    exact ⟨ret_bool HE.out, HBB.out _ hw2⟩
  case pos =>
  subst t4
  cases t5 : okB ls
  case false =>
    have HO : Hid (okB ls = false) := t5
    clear t5
    have HE : Hid (false = fairB q lim 16 L ls) := fair_no (fun h => by have := h.2.2.2.1; have h2 := HO.out; unfold okB at h2; simp [this] at h2)
    refine wp_region_quiet (C := fun w' => Below W0.heap.size W0 w') (by kernel_rfl) (by kernel_rfl) ((Below.refl _ _).drew) ?_
    simp only []
    repeat (first
      | go_big_quiet_skip
      | (go_big_quiet_want
         unfold Oper.quiet
         apply Exists.intro
         refine ⟨fun w' hw' => ?_, ?_⟩
         (have z0 := (hw'.cell (p := ⟨w.heap.size, 0, none⟩) (by show w.heap.size < _; omega)).trans x0
          have z1 := (hw'.cell (p := ⟨w.heap.size, 1, none⟩) (by show w.heap.size < _; omega)).trans x1
          have z2 := (hw'.cell (p := ⟨w.heap.size, 2, none⟩) (by show w.heap.size < _; omega)).trans x2
          have z3 := (hw'.cell (p := ⟨w.heap.size, 3, none⟩) (by show w.heap.size < _; omega)).trans x3
          have z4 := (hw'.cell (p := ⟨w.heap.size, 4, none⟩) (by show w.heap.size < _; omega)).trans x4
          go_simp
          first
            | (go_at_call 21; refine (l7lists_any b nn cb nw c no cc od _ HNN.out (Row.below HRB.out (HBB.out _ hw')) (Row.below HRC.out (HBB.out _ hw'))).mono ?_; rintro e w1 ⟨rfl, hb1⟩; exact ⟨by rw [HLS.out, HO.out], hw'.trans (hb1.mono hw'.size)⟩)
            | exact rfl)
         simp only [Act.put, List.setIfInBounds_toArray, List.set_cons_zero, List.set_cons_succ]
         go_big_quiet_on))
    refine wpQuiet_nil ?_
    intro w2 hw2
    go_wp2
    go_ret
    exact ⟨ret_bool HE.out, HBB.out _ hw2⟩
  case true =>
  have HO : Hid (okB ls = true) := t5
  clear t5
  by_cases t6 : lim < (cntF L 16 : Int)
  · have t6' : decide (lim < (cntF L 16 : Int)) = true := by simpa using t6
    have HE : Hid (false = fairB q lim 16 L ls) := fair_no (fun h => by have := h.2.2.2.2.1; omega)
    refine wp_region_quiet (C := fun w' => Below W0.heap.size W0 w') (by kernel_rfl) (by kernel_rfl) ((Below.refl _ _).drew) ?_
    simp only []
    repeat (first
      | go_big_quiet_skip
      | (go_big_quiet_want
         unfold Oper.quiet
         apply Exists.intro
         refine ⟨fun w' hw' => ?_, ?_⟩
         (have z0 := (hw'.cell (p := ⟨w.heap.size, 0, none⟩) (by show w.heap.size < _; omega)).trans x0
          have z1 := (hw'.cell (p := ⟨w.heap.size, 1, none⟩) (by show w.heap.size < _; omega)).trans x1
          have z2 := (hw'.cell (p := ⟨w.heap.size, 2, none⟩) (by show w.heap.size < _; omega)).trans x2
          have z3 := (hw'.cell (p := ⟨w.heap.size, 3, none⟩) (by show w.heap.size < _; omega)).trans x3
          have z4 := (hw'.cell (p := ⟨w.heap.size, 4, none⟩) (by show w.heap.size < _; omega)).trans x4
          go_simp
          first
            | (go_at_call 21; refine (l7lists_any b nn cb nw c no cc od _ HNN.out (Row.below HRB.out (HBB.out _ hw')) (Row.below HRC.out (HBB.out _ hw'))).mono ?_; rintro e w1 ⟨rfl, hb1⟩; exact ⟨by rw [HLS.out, HO.out], hw'.trans (hb1.mono hw'.size)⟩)
            | (go_at_call 22; refine (l7count_any q lim a 16 ca b nn cb c no cc L _ HN.out HCN.out (LR.go HP.out (HBB.out _ hw') (HBB.out _ hw').size)).mono ?_; rintro e w1 ⟨rfl, hb1⟩; exact ⟨rfl, hw'.trans (hb1.mono hw'.size)⟩)
            | exact rfl)
         simp only [Act.put, List.setIfInBounds_toArray, List.set_cons_zero, List.set_cons_succ]
         go_big_quiet_on))
    refine wpQuiet_nil ?_
    intro w2 hw2
    go_wp2
    go_ret
    exact ⟨ret_bool HE.out, HBB.out _ hw2⟩
  have t6' : decide (lim < (cntF L 16 : Int)) = false := by simpa using t6
  refine wp_region_quiet (C := fun w' => Below W0.heap.size W0 w') (by kernel_rfl) (by kernel_rfl) ((Below.refl _ _).drew) ?_
  simp only []
  repeat (first
    | go_big_quiet_skip
    | (go_big_quiet_want
       unfold Oper.quiet
       apply Exists.intro
       refine ⟨fun w' hw' => ?_, ?_⟩
       (have z0 := (hw'.cell (p := ⟨w.heap.size, 0, none⟩) (by show w.heap.size < _; omega)).trans x0
        have z1 := (hw'.cell (p := ⟨w.heap.size, 1, none⟩) (by show w.heap.size < _; omega)).trans x1
        have z2 := (hw'.cell (p := ⟨w.heap.size, 2, none⟩) (by show w.heap.size < _; omega)).trans x2
        have z3 := (hw'.cell (p := ⟨w.heap.size, 3, none⟩) (by show w.heap.size < _; omega)).trans x3
        have z4 := (hw'.cell (p := ⟨w.heap.size, 4, none⟩) (by show w.heap.size < _; omega)).trans x4
        go_simp
        first
          | (go_at_call 21; refine (l7lists_any b nn cb nw c no cc od _ HNN.out (Row.below HRB.out (HBB.out _ hw')) (Row.below HRC.out (HBB.out _ hw'))).mono ?_; rintro e w1 ⟨rfl, hb1⟩; exact ⟨by rw [HLS.out, HO.out], hw'.trans (hb1.mono hw'.size)⟩)
          | (go_at_call 22; refine (l7count_any q lim a 16 ca b nn cb c no cc L _ HN.out HCN.out (LR.go HP.out (HBB.out _ hw') (HBB.out _ hw').size)).mono ?_; rintro e w1 ⟨rfl, hb1⟩; exact ⟨rfl, hw'.trans (hb1.mono hw'.size)⟩)
          | exact rfl)
       simp only [Act.put, List.setIfInBounds_toArray, List.set_cons_zero, List.set_cons_succ]
       go_big_quiet_on))
  refine wpQuiet_nil ?_
  intro w2 hw2
  have HR1 : Hid (1 ≤ q ∧ q ≤ 10000) := ⟨by omega, by omega⟩
  have HR2 : Hid (1 ≤ lim ∧ lim ≤ 40) := ⟨by omega, by omega⟩
  go_wp2
  go_loopw [3] (fun i wr => ∃ k : Nat, k ≤ 16 ∧ i = .int .i64 k ∧ lnsP L ls k ∧ Below W0.heap.size W0 wr) (fun i _ => 16 - (intOf i).toNat)
  case atStart => exact ⟨0, Nat.zero_le _, rfl, fun i hi => absurd hi (Nat.not_lt_zero _), hw2⟩
  case round =>
    clear hw2 t0 t1 t2 t3 t0' t1' t2' t3' t6'
    obtain ⟨k, hk, rfl, hall, hB⟩ := hrel
    have HA : Hid (lnsP L ls k) := hall
    have HB : Hid (Below W0.heap.size W0 wr) := hB
    have z2 := (hB.cell (p := ⟨w.heap.size, 2, none⟩) l0).trans x2
    have lr : w.heap.size < wr.heap.size := Nat.lt_of_lt_of_le l0 hB.size
    clear hall
    by_cases hlt : k < 16
    · obtain ⟨b1, off, rfl, hbl, hcs⟩ := LR.at HP.out hlt
      obtain ⟨x, cx, hat, hnc, hpr⟩ := hcs k hlt
      have hBw := HBB.out _ hB
      obtain ⟨c0, c1, c2, c3, c4, c5, c6, c7, c8⟩ := hat.below hBw hbl
      have HPR : Hid (PR w.heap.size w x (L k).n (L k).f) := hpr
      have hnk : (L k).n ≤ 1048576 := Nat.le_trans (cntF_le L hlt) HCN.out
      have HNK : Hid ((L k).n ≤ 1048576) := hnk
      have HNC : Hid ((L k).n ≤ cx) := hnc
      have hlti : (k : Int) < 16 := by omega
      clear hcs hat hpr hnk hnc hB hBw
      go_upto_region 7 with fail
      obtain ⟨v, hv⟩ : ∃ v, wr.alloc (.cells (lnCells x cx (L k)) 53) = v := ⟨_, rfl⟩
      have sv : Sits v wr.heap.size (lnCells x cx (L k)) 53 := by rw [← hv]; exact Sits.new _ _ _
      have bv : Below W0.heap.size W0 v := by rw [← hv]; exact (HB.out).alloc (HB.out).size _
      rw [hv]
      obtain ⟨B, hBq⟩ : ∃ B, wr.heap.size = B := ⟨_, rfl⟩
      rw [hBq] at sv lr ⊢
      have HSV : Hid (Sits v B (lnCells x cx (L k)) 53) := sv
      have HBV : Hid (Below W0.heap.size W0 v) := bv
      have y0 := sv.cell 0
      have y1 := sv.cell 1
      have y2 := sv.cell 2
      have y3 := sv.cell 3
      have y4 := sv.cell 4
      have y5 := sv.cell 5
      have y6 := sv.cell 6
      have y7 := sv.cell 7
      have y8 := sv.cell 8
      clear hv sv bv hBq HB z2 c0 c1 c2 c3 c4 c5 c6 c7 c8
      cases hg : (L k).cd.good
      case false =>
        have HE : Hid (false = fairB q lim 16 L ls) := fair_no (fun h => by have := (h.2.2.2.2.2 k hlt).1; rw [hg] at this; cases this)
        go_wp2_with (go_at_call 23; refine (scodelOk_any (L k).cd _).mono ?_; rintro e w3 ⟨rfl, k3⟩; rw [hg])
        go_ret
        exact ⟨ret_bool HE.out, HBB.out _ ((HBV.out).trans (k3.1.mono (HBV.out).size))⟩
      case true =>
      by_cases s0 : (L k).sh < -2000
      · have s0' : decide ((L k).sh < -2000) = true := by simpa using s0
        have HE : Hid (false = fairB q lim 16 L ls) := fair_no (fun h => by have := (h.2.2.2.2.2 k hlt).2.1; omega)
        go_wp2_with (go_at_call 23; refine (scodelOk_any (L k).cd _).mono ?_; rintro e w3 ⟨rfl, k3⟩; rw [hg]; have s3 := Sits.below HSV.out k3.1 (Sits.lt HSV.out); have u1 := s3.cell 1; clear s3)
        go_ret
        exact ⟨ret_bool HE.out, HBB.out _ ((HBV.out).trans (k3.1.mono (HBV.out).size))⟩
      have s0' : decide ((L k).sh < -2000) = false := by simpa using s0
      by_cases s1 : 12000 < (L k).sh
      · have s1' : decide (12000 < (L k).sh) = true := by simpa using s1
        have HE : Hid (false = fairB q lim 16 L ls) := fair_no (fun h => by have := (h.2.2.2.2.2 k hlt).2.1; omega)
        go_wp2_with (go_at_call 23; refine (scodelOk_any (L k).cd _).mono ?_; rintro e w3 ⟨rfl, k3⟩; rw [hg]; have s3 := Sits.below HSV.out k3.1 (Sits.lt HSV.out); have u1 := s3.cell 1; clear s3)
        go_ret
        exact ⟨ret_bool HE.out, HBB.out _ ((HBV.out).trans (k3.1.mono (HBV.out).size))⟩
      have s1' : decide (12000 < (L k).sh) = false := by simpa using s1
      cases hf : fifoB (L k).f (L k).n 40
      case false =>
        have HE : Hid (false = fairB q lim 16 L ls) := fair_no (fun h => by have := (h.2.2.2.2.2 k hlt).2.2.1; rw [hf] at this; cases this)
        go_wp2_with (first | (go_at_call 23; refine (scodelOk_any (L k).cd _).mono ?_; rintro e w3 ⟨rfl, k3⟩; rw [hg]; have s3 := Sits.below HSV.out k3.1 (Sits.lt HSV.out); have u0 := s3.cell 0; have u1 := s3.cell 1; clear s3; have B3 : Below W0.heap.size W0 w3 := (HBV.out).trans (k3.1.mono (HBV.out).size)) | (go_at_call 24; refine (sfifoOk_any x (L k).n cx (L k).f 40 _ HNK.out HNC.out ((PR.below HPR.out (HBB.out _ B3)).mono (HBB.out _ B3).size)).mono ?_; rintro e w4 ⟨rfl, b4⟩; rw [hf]))
        go_ret
        exact ⟨ret_bool HE.out, HBB.out _ (B3.trans (b4.mono B3.size))⟩
      case true =>
      go_upto_region 9 with (first | (go_at_call 23; refine (scodelOk_any (L k).cd _).mono ?_; rintro e w3 ⟨rfl, k3⟩; rw [hg]; have s3 := Sits.below HSV.out k3.1 (Sits.lt HSV.out); have u0 := s3.cell 0; have u1 := s3.cell 1; have HS3 : Hid (Sits w3 B (lnCells x cx (L k)) 53) := s3; clear s3; have B3 : Below W0.heap.size W0 w3 := (HBV.out).trans (k3.1.mono (HBV.out).size)) | (go_at_call 24; refine (sfifoOk_any x (L k).n cx (L k).f 40 _ HNK.out HNC.out ((PR.below HPR.out (HBB.out _ B3)).mono (HBB.out _ B3).size)).mono ?_; rintro e w4 ⟨rfl, b4⟩; rw [hf]; have HB4 : Hid (Below W0.heap.size W0 w4) := B3.trans (b4.mono B3.size); have HS4 : Hid (Sits w4 B (lnCells x cx (L k)) 53) := Sits.below HS3.out b4 (Sits.lt HS3.out); clear b4))
      clear u0 u1 y0 y1 y2 y3 y4 y5 y6 y7 y8 B3 k3 HS3 HSV HBV
      have y0 := Sits.cell HS4.out 0
      have z3 := ((HB4.out).cell (p := ⟨w.heap.size, 3, none⟩) l0).trans x3
      have z4 := ((HB4.out).cell (p := ⟨w.heap.size, 4, none⟩) l0).trans x4
      have HG : Hid ((L k).cd.good = true ∧ (-2000 ≤ (L k).sh ∧ (L k).sh ≤ 12000) ∧ fifoB (L k).f (L k).n 40 = true) := ⟨hg, by omega, hf⟩
      have HRB4 : Hid (Row .i64 w4 b nn nw) := Row.below HRB.out (HBB.out _ HB4.out)
      have HRC4 : Hid (Row .i64 w4 c no od) := Row.below HRC.out (HBB.out _ HB4.out)
      have HN1 : Hid (nn ≤ 1048576) := Nat.le_trans (Nat.le_add_right _ _) HNN.out
      have HN2 : Hid (no ≤ 1048576) := Nat.le_trans (Nat.le_add_left _ _) HNN.out
      have hnl : ((L k).n : Int) ≤ 1048576 := by have := HNK.out; omega
      have HQ : Hid (∀ i, i < (L k).n → ∃ bp op : Nat, x = some ⟨bp, op, none⟩ ∧ w4.cell? ⟨bp, op + i * 6 + 1, none⟩ = some (.int .i64 ((L k).f i).flow)) := fun i hi => by
        obtain ⟨bp, op, hx, hlt', hcs⟩ := PR.at HPR.out hi
        exact ⟨bp, op, hx, ((hcs i hi).below (HBB.out _ HB4.out) hlt').2.1⟩
      clear hg s0 s0' s1 s1' hf
      by_cases hz : (L k).n = 0
      · have hz' : decide ((0 : Int) < ((L k).n : Int)) = false := by simp; omega
        have HMEM : Hid ((L k).n = 0 ∨ (k : Int) ∈ ls) := .inl hz
        go_wp2
        go_loop [5] (fun i => ∃ m : Nat, m ≤ (L k).n ∧ i = .int .i64 m ∧ ∀ t, t < m → ((L k).f t).flow = k) (fun i => (L k).n - (intOf i).toNat)
        case atStart => exact ⟨0, Nat.zero_le _, rfl, fun t ht => absurd ht (Nat.not_lt_zero _)⟩
        case round =>
          obtain ⟨m, hm, rfl, hfl⟩ := hrel
          have HFL : Hid (∀ t, t < m → ((L k).f t).flow = k) := hfl
          clear hfl
          by_cases hml : m < (L k).n
          · exfalso; omega
          · obtain rfl : m = 0 := by omega
            go_wp2
            go_roundw
            case rel => exact ⟨k + 1, by omega, by go_num, fun i hi => by by_cases e : i = k; · rw [e]; exact ⟨(HG.out).1, (HG.out).2.1, (HG.out).2.2, .inl hz, fun t ht => by omega⟩
                                                                          · exact HA.out i (by omega), HB4.out⟩
            case measure => simp [intOf]; omega
      have hz' : decide ((0 : Int) < ((L k).n : Int)) = true := by simp; omega
      cases h1 : hasB nw nn (k : Int)
      case true =>
        have HMEM : Hid ((L k).n = 0 ∨ (k : Int) ∈ ls) := (show (L k).n = 0 ∨ (k : Int) ∈ ls by right; rw [HHB.out]; exact .inl h1)
        go_wp2_with ((go_at_call 25; with_reducible refine (l7has_any b nn cb nw (k : Int) _ HN1.out HRB4.out).mono ?_; rintro e w5 ⟨rfl, rfl⟩; rw [h1]))
        go_loop [5] (fun i => ∃ m : Nat, m ≤ (L k).n ∧ i = .int .i64 m ∧ ∀ t, t < m → ((L k).f t).flow = k) (fun i => (L k).n - (intOf i).toNat)
        case atStart => exact ⟨0, Nat.zero_le _, rfl, fun t ht => absurd ht (Nat.not_lt_zero _)⟩
        case round =>
          obtain ⟨m, hm, rfl, hfl⟩ := hrel
          have HFL : Hid (∀ t, t < m → ((L k).f t).flow = k) := hfl
          clear hfl
          by_cases hml : m < (L k).n
          · obtain ⟨bp, op, rfl, cfl⟩ := HQ.out m hml
            by_cases hq : ((L k).f m).flow = (k : Int)
            · have hq' : (((L k).f m).flow != (k : Int)) = false := by simpa using hq
              go_wp2
              go_round
              case rel => exact ⟨m + 1, by omega, by go_num, fun t ht => by by_cases e : t = m; · rw [e]; exact hq
                                                                            · exact HFL.out t (by omega)⟩
              case measure => simp [intOf]; omega
            · have hq' : (((L k).f m).flow != (k : Int)) = true := by simpa using hq
              have HE : Hid (false = fairB q lim 16 L ls) := fair_no (fun h => hq ((h.2.2.2.2.2 k hlt).2.2.2.2 m hml))
              go_wp2
              go_ret
              exact ⟨ret_bool HE.out, HBB.out _ HB4.out⟩
          · obtain rfl : m = (L k).n := by omega
            go_wp2
            go_roundw
            case rel => exact ⟨k + 1, by omega, by go_num, fun i hi => by by_cases e : i = k; · rw [e]; exact ⟨(HG.out).1, (HG.out).2.1, (HG.out).2.2, HMEM.out, HFL.out⟩
                                                                          · exact HA.out i (by omega), HB4.out⟩
            case measure => simp [intOf]; omega
      case false =>
      cases h2 : hasB od no (k : Int)
      case true =>
        have HMEM : Hid ((L k).n = 0 ∨ (k : Int) ∈ ls) := (show (L k).n = 0 ∨ (k : Int) ∈ ls by right; rw [HHB.out]; exact .inr h2)
        go_wp2_with (first | (go_at_call 25; with_reducible refine (l7has_any b nn cb nw (k : Int) _ HN1.out HRB4.out).mono ?_; rintro e w5 ⟨rfl, rfl⟩; rw [h1]) | (go_at_call 25; with_reducible refine (l7has_any c no cc od (k : Int) _ HN2.out HRC4.out).mono ?_; rintro e w5 ⟨rfl, rfl⟩; rw [h2]))
        go_loop [5] (fun i => ∃ m : Nat, m ≤ (L k).n ∧ i = .int .i64 m ∧ ∀ t, t < m → ((L k).f t).flow = k) (fun i => (L k).n - (intOf i).toNat)
        case atStart => exact ⟨0, Nat.zero_le _, rfl, fun t ht => absurd ht (Nat.not_lt_zero _)⟩
        case round =>
          obtain ⟨m, hm, rfl, hfl⟩ := hrel
          have HFL : Hid (∀ t, t < m → ((L k).f t).flow = k) := hfl
          clear hfl
          by_cases hml : m < (L k).n
          · obtain ⟨bp, op, rfl, cfl⟩ := HQ.out m hml
            by_cases hq : ((L k).f m).flow = (k : Int)
            · have hq' : (((L k).f m).flow != (k : Int)) = false := by simpa using hq
              go_wp2
              go_round
              case rel => exact ⟨m + 1, by omega, by go_num, fun t ht => by by_cases e : t = m; · rw [e]; exact hq
                                                                            · exact HFL.out t (by omega)⟩
              case measure => simp [intOf]; omega
            · have hq' : (((L k).f m).flow != (k : Int)) = true := by simpa using hq
              have HE : Hid (false = fairB q lim 16 L ls) := fair_no (fun h => hq ((h.2.2.2.2.2 k hlt).2.2.2.2 m hml))
              go_wp2
              go_ret
              exact ⟨ret_bool HE.out, HBB.out _ HB4.out⟩
          · obtain rfl : m = (L k).n := by omega
            go_wp2
            go_roundw
            case rel => exact ⟨k + 1, by omega, by go_num, fun i hi => by by_cases e : i = k; · rw [e]; exact ⟨(HG.out).1, (HG.out).2.1, (HG.out).2.2, HMEM.out, HFL.out⟩
                                                                          · exact HA.out i (by omega), HB4.out⟩
            case measure => simp [intOf]; omega
      case false =>
        have HE : Hid (false = fairB q lim 16 L ls) := fair_no (fun h => by rcases (h.2.2.2.2.2 k hlt).2.2.2.1 with e | e; exact hz e; rw [HHB.out, h1, h2] at e; simp at e)
        go_wp2_with (first | (go_at_call 25; with_reducible refine (l7has_any b nn cb nw (k : Int) _ HN1.out HRB4.out).mono ?_; rintro e w5 ⟨rfl, rfl⟩; rw [h1]) | (go_at_call 25; with_reducible refine (l7has_any c no cc od (k : Int) _ HN2.out HRC4.out).mono ?_; rintro e w5 ⟨rfl, rfl⟩; rw [h2]))
        go_ret
        exact ⟨ret_bool HE.out, HBB.out _ HB4.out⟩
    · obtain rfl : k = 16 := by omega
      have HE : Hid (true = fairB q lim 16 L ls) := fair_yes ⟨HR1.out, HR2.out, rfl, by have := HO.out; unfold okB at this; simpa using this, by omega, HA.out⟩
      go_wp2
      go_ret
      exact ⟨ret_bool HE.out, HBB.out _ hB⟩

end Go.Proofs.Ytdhdigjghchdjaa
