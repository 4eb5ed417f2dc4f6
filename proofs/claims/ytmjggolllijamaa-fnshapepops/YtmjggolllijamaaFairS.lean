/-
  WHICH FAIRS ARE WELL, AS THE SPECIFICATION SAYS: l7lists, FairOk.
-/
import Derived.Test.YtmjggolllijamaaFairB
namespace Go.Proofs.Ytmjggolllijamaa
open Go.RowKit
set_option linter.unusedVariables false

theorem in_empty_new (w : World) (base : Nat) (f : Nat → Int) (B : Nat) (hB : w.heap.size = B) (hb : base ≤ B) : JO base (w.alloc (.cells #[] 3)) (some ⟨B, 0, none⟩) 0 0 f := by
  subst hB
  exact ⟨rfl, .inr ⟨w.heap.size, 0, #[], rfl, hb, World.alloc_heap_new w _, Nat.le_refl _, by simp, rfl, by simp [inL]⟩⟩

/-- A table of those that are in l. -/
def Tbl (w : World) (S : Nat) (t : TypeId) (l : List Int) : Prop := ∃ vs : Array Value, Sits w S vs t ∧ vs.size = 16 ∧ ∀ i, i < 16 → vs[i]? = some (.bool (decide ((i : Int) ∈ l)))
theorem Tbl.below {w w' : World} {S n : Nat} {t : TypeId} {l : List Int} (h : Tbl w S t l) (hb : Below n w w') (hn : S < n) : Tbl w' S t l := by
  obtain ⟨vs, h0, h1, h2⟩ := h
  exact ⟨vs, h0.below hb hn, h1, h2⟩
theorem Tbl.cell {w : World} {S : Nat} {t : TypeId} {l : List Int} (h : Tbl w S t l) (i : Nat) (hi : i < 16) : w.cell? ⟨S, i, none⟩ = some (.bool (decide ((i : Int) ∈ l))) := by
  obtain ⟨vs, h0, h1, h2⟩ := h
  exact (h0.cell i).trans (h2 i hi)
theorem Tbl.frozen {w : World} {S : Nat} {t : TypeId} {l : List Int} (h : Tbl w S t l) (k : Nat) : w.frozen? ⟨S, k, none⟩ = false := by
  obtain ⟨vs, h0, h1, h2⟩ := h
  exact h0.frozen k
theorem Tbl.lt {w : World} {S : Nat} {t : TypeId} {l : List Int} (h : Tbl w S t l) : S < w.heap.size := by
  obtain ⟨vs, h0, h1, h2⟩ := h
  exact h0.lt
theorem Tbl.set {w : World} {S : Nat} {t : TypeId} {l : List Int} (h : Tbl w S t l) (i : Nat) (hi : i < 16) : Tbl (w.setCell ⟨S, i, none⟩ (.bool true)) S t (l ++ [(i : Int)]) := by
  obtain ⟨vs, h0, h1, h2⟩ := h
  refine ⟨_, h0.set i _, by simpa using h1, fun j hj => ?_⟩
  by_cases e : j = i
  · subst e
    rw [Array.getElem?_setIfInBounds_self_of_lt (by omega)]
    simp
  · rw [Array.getElem?_setIfInBounds_ne (by omega), h2 j hj]
    have : ¬ ((j : Int) = (i : Int)) := by omega
    simp [this]

theorem infoBool : (Try.prog.info? 4).map (fun i => (i.zero, i.size, i.bytes)) = some (some (.bool false), 1, 1) := by kernel_rfl

def okB (l : List Int) : Bool := decide (okL l)

theorem lst_get (nn : Nat) (nw : Nat → Int) (no : Nat) (od : Nat → Int) (k : Nat) (h : k < nn + no) : (lst nn nw no od)[k]? = some (joinI nw nn od k) := by
  unfold lst joinI
  by_cases h1 : k < nn
  · rw [List.getElem?_append_left (by simpa using h1), if_pos h1]; simp [h1]
  · rw [List.getElem?_append_right (by simpa using h1), if_neg h1]; have h2 : k - nn < no := by omega
    simp [h2]
theorem lst_len (nn : Nat) (nw : Nat → Int) (no : Nat) (od : Nat → Int) : (lst nn nw no od).length = nn + no := by simp [lst]
theorem take_snoc {l : List Int} {k : Nat} {x : Int} (h : l[k]? = some x) : l.take (k + 1) = l.take k ++ [x] := by
  rw [List.take_add_one, h]; rfl
theorem split_at {l : List Int} {k : Nat} {x : Int} (h : l[k]? = some x) : l = l.take k ++ x :: l.drop (k + 1) := by
  have hk := (List.getElem?_eq_some_iff.1 h)
  obtain ⟨h1, h2⟩ := hk
  have := List.take_append_drop k l
  rw [List.drop_eq_getElem_cons h1, h2] at this
  exact this.symm

set_option maxRecDepth 100000 in
set_option maxHeartbeats 2000000 in
theorem l7lists_any (a : Option Addr) (nn ca : Nat) (nw : Nat → Int) (b : Option Addr) (no cb : Nat) (od : Nat → Int) (w : World) (hn : nn + no ≤ 1048576) (ha : Row .i64 w a nn nw) (hb : Row .i64 w b no od) :
    Calls Try.prog 53 #[.slice a nn ca, .slice b no cb] w fun e w' => e = .returned (.bool (okB (lst nn nw no od))) ∧ Below w.heap.size w w' := by
  have HA : Hid (Row .i64 w a nn nw) := ha
  have HB : Hid (Row .i64 w b no od) := hb
  have HN : Hid (nn + no ≤ 1048576) := hn
  clear ha hb hn
  have hmk : ∀ w : World, (Instr.makeSlice 118 (.int .i64 16) (.int .i64 16)).run Try.prog w = .ok (.slice (some ⟨w.heap.size, 0, none⟩) 16 16) (w.alloc (.cells (madeCells #[.bool false] 16) 4)) := fun w => run_make_row' (P := Try.prog) 118 4 (.bool false) 1 Try.underlying118 infoBool rfl .i64 .i64 16 (by omega) (by omega) w
  have HL : Hid (∀ k, k < nn + no → (lst nn nw no od)[k]? = some (joinI nw nn od k)) := fun k hk => lst_get nn nw no od k hk
  have HLL : Hid ((lst nn nw no od).length = nn + no) := lst_len nn nw no od
  obtain ⟨l, hl⟩ : ∃ l, lst nn nw no od = l := ⟨_, rfl⟩
  obtain ⟨f, hf⟩ : ∃ f, joinI nw nn od = f := ⟨_, rfl⟩
  obtain ⟨n, hn⟩ : ∃ n, nn + no = n := ⟨_, rfl⟩
  rw [hl] at HL HLL ⊢
  rw [hf] at HL
  rw [hn] at HL HLL
  have hn' : (n : Int) ≤ 1048576 := by have := HN.out; omega
  have HF : Hid (joinI nw nn od = f) := hf
  have HNN : Hid (nn + no = n) := hn
  clear hl hf hn
  go_enter Try.func53, Try.ntmps53
  go_upto_region 3 with (at_builtin; first
    | (refine wpList_append_inN rfl _ _ rfl (w.heap.size + 1) (some ⟨w.heap.size + 1, 0, none⟩) 0 0 nw rfl (in_empty_new _ _ _ _ (by simp) (by omega)) a nn ca nw rfl (Row.below HA.out (by go_grown)) (by have := HN.out; omega) (by simp) ?_; intro x cap w1 hjo hgr; have hj1 : JO (w.heap.size + 1) w1 x nn cap nw := JO.congr (f := joinI nw 0 nw) (by simpa using hjo) (fun i _ => by simp [joinI]); clear hjo; have B1 : Below w.heap.size w w1 := Below.grown (B := w.heap.size) (a := w) (by go_grown) hgr (by simp; omega) (fun k e => by simp [Value.ownBlock] at e; omega); have B1' : Below (w.heap.size + 1) (w.alloc (.cells (madeCells #[.bool false] 16) 4)) w1 := Below.grown (B := w.heap.size + 1) (a := w.alloc (.cells (madeCells #[.bool false] 16) 4)) ((Below.refl _ _).alloc (by simp) _) hgr (by simp) (fun k e => by simp [Value.ownBlock] at e; omega))
    | (refine wpList_append_inN rfl _ _ rfl (w.heap.size + 1) x nn cap nw rfl hj1 b no cb od rfl (Row.below HB.out B1) HN.out (by have := B1'.size; simpa using this) ?_; intro x2 cap2 w2 hjo2 hgr2))
  have B2 : Below w.heap.size w w2 := Below.grown (B := w.heap.size) (a := w) B1 hgr2 B1.size (fun k e => Nat.le_trans (Nat.le_succ _) (JO.own_lt hj1 k e).1)
  have B2' : Below (w.heap.size + 1) (w.alloc (.cells (madeCells #[.bool false] 16) 4)) w2 := Below.grown (B := w.heap.size + 1) (a := w.alloc (.cells (madeCells #[.bool false] 16) 4)) B1' hgr2 (by have := B1'.size; simpa using this) (fun k e => (JO.own_lt hj1 k e).1)
  have tb : Tbl w2 w.heap.size 4 [] := Tbl.below ⟨_, Sits.new w _ _, by simp [madeCells], fun i hi => by simp [madeCells, hi, Nat.mod_one]⟩ B2' (by omega)
  rw [HF.out, HNN.out] at hjo2
  rw [HNN.out]
  clear HF HNN HA HB B1 B1' B2' hgr hgr2 hj1 hmk
  have HJ : Hid (JO (w.heap.size + 1) w2 x2 n cap2 f) := hjo2
  have HT : Hid (Tbl w2 w.heap.size 4 []) := tb
  have HB2 : Hid (Below w.heap.size w w2) := B2
  clear hjo2 tb B2
  go_wp2
  go_loopw [7] (fun i wr => ∃ k : Nat, k ≤ n ∧ i = .int .i64 k ∧ Tbl wr w.heap.size 4 (l.take k) ∧ okL (l.take k) ∧ JO (w.heap.size + 1) wr x2 n cap2 f ∧ Below w.heap.size w wr) (fun i _ => n - (intOf i).toNat)
  case atStart => exact ⟨0, Nat.zero_le _, rfl, HT.out, ⟨fun x hx => absurd hx (by simp), by simp⟩, HJ.out, HB2.out⟩
  case round =>
    clear HT HJ HB2
    obtain ⟨k, hk, rfl, ht, ho, hj, hB⟩ := hrel
    have HTB : Hid (Tbl wr w.heap.size 4 (l.take k)) := ht
    have HO : Hid (okL (l.take k)) := ho
    have HJ : Hid (JO (w.heap.size + 1) wr x2 n cap2 f) := hj
    clear ht ho hj
    by_cases hlt : k < n
    · have hg := HL.out k hlt
      obtain ⟨b1, off, rfl, hbl, hc⟩ := Row.at (JO.row HJ.out) hlt
      have c1 := hc k hlt
      clear hc
      have hsp := split_at hg
      have hsn := take_snoc hg
      obtain ⟨v, hv⟩ : ∃ v, f k = v := ⟨_, rfl⟩
      rw [hv] at c1 hsp hsn
      clear hg
      by_cases h0 : v < 0
      · have HE : Hid (false = okB l) := by show _ = _; symm; unfold okB; rw [decide_eq_false_iff_not, hsp]; exact okL_not (.inl (by omega))
        clear hsp hsn hv
        go_wp2
        go_ret
        exact ⟨ret_bool HE.out, hB⟩
      · have h0' : decide (v < 0) = false := by simpa using h0
        by_cases h1 : 16 ≤ v
        · have HE : Hid (false = okB l) := by show _ = _; symm; unfold okB; rw [decide_eq_false_iff_not, hsp]; exact okL_not (.inl (by omega))
          clear hsp hsn hv
          go_wp2
          go_ret
          exact ⟨ret_bool HE.out, hB⟩
        · have h1' : decide (16 ≤ v) = false := by simpa using h1
          obtain ⟨m, rfl⟩ : ∃ m : Nat, v = (m : Int) := ⟨v.toNat, by omega⟩
          have hm : m < 16 := by omega
          have hmi : (m : Int) < 16 := by omega
          have t1 := Tbl.cell HTB.out m hm
          have tf := Tbl.frozen HTB.out
          by_cases hin : (m : Int) ∈ l.take k
          · have HE : Hid (false = okB l) := by show _ = _; symm; unfold okB; rw [decide_eq_false_iff_not, hsp]; exact okL_not (.inr hin)
            have hd : decide ((m : Int) ∈ l.take k) = true := by simpa using hin
            rw [hd] at t1
            clear hsp hsn hv hin hd
            go_wp2
            go_ret
            exact ⟨ret_bool HE.out, hB⟩
          · have hd : decide ((m : Int) ∈ l.take k) = false := by simpa using hin
            rw [hd] at t1
            have HSN : Hid (l.take (k + 1) = l.take k ++ [(m : Int)]) := hsn
            have HIN : Hid ((m : Int) ∉ l.take k) := hin
            clear hsp hv hsn hin hd
            go_wp2
            go_roundw
            case rel => exact ⟨k + 1, by omega, by go_num, by rw [HSN.out]; exact Tbl.set HTB.out m hm, by rw [HSN.out]; exact okL_snoc HO.out (by omega) (by omega) HIN.out, JO.far HJ.out (by omega) _ _, hB.setCell (Nat.le_refl _) _⟩
            case measure => simp [intOf]; omega
    · obtain rfl : k = n := by omega
      have HE : Hid (true = okB l) := by show _ = _; symm; unfold okB; rw [decide_eq_true_eq]; have := HO.out; rw [List.take_of_length_le (by rw [HLL.out]; exact Nat.le_refl _)] at this; exact this
      go_wp2
      go_ret
      exact ⟨ret_bool HE.out, hB⟩

/-- FairOk's second part: the lines one by one. -/
def lnsP (L : Nat → Ln) (ls : List Int) (k : Nat) : Prop := ∀ i, i < k → lnP i (L i) ls

end Go.Proofs.Ytmjggolllijamaa
