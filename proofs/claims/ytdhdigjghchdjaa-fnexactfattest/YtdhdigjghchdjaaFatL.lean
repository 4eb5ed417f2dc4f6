/-
  A SERVICE OF THE PROGRAM: its lists, its lanes as one value, the fattest one.
-/
import Derived.Test.YtdhdigjghchdjaaFatS
import Derived.Test.YtdhdigjghchdjaaAppPk
import Derived.Test.YtdhdigjghchdjaaAppIn
import Derived.Test.YtdhdigjghchdjaaQBytes
import Derived.Deep.MidRow
namespace Go.Proofs.Ytdhdigjghchdjaa
open Go.RowKit
set_option linter.unusedVariables false

theorem ret_one {fn : Func} {tmps : Array Value} {W : World} {i B : Nat} {v0 : Value} {t : TypeId} (hr : fn.results = #[.cell i 70]) (hi : tmps[i]?.getD undef = .pointer (some ⟨B, 0, none⟩)) (hs : Sits W B #[v0] t) : (results fn tmps).run Try.prog W = .ok (.agg #[v0]) W := by
  have c0 : W.cell? ⟨B, 0, none⟩ = some v0 := hs.cell 0
  simp [results, hr, hi, go_sem, c0]
theorem ret_oneP {fn : Func} {tmps : Array Value} {W : World} {i B : Nat} {v0 : Value} {t : TypeId} (hr : fn.results = #[.cell i 73]) (hi : tmps[i]?.getD undef = .pointer (some ⟨B, 0, none⟩)) (hs : Sits W B #[v0] t) : (results fn tmps).run Try.prog W = .ok (.agg #[v0]) W := by
  have c0 : W.cell? ⟨B, 0, none⟩ = some v0 := hs.cell 0
  simp [results, hr, hi, go_sem, c0]

set_option maxHeartbeats 1000000 in
theorem ilistOf_any (b : Option Addr) (n c : Nat) (f : Nat → Int) (w : World) (hn : n ≤ 1048576) (hb : Row .i64 w b n f) :
    Calls Try.prog 32 #[.slice b n c] w fun e w' => ∃ (x : Option Addr) (cap : Nat), e = .returned (.agg #[.slice x n cap]) ∧ JO w.heap.size w' x n cap f ∧ Below w.heap.size w w' := by
  have HB : Hid (Row .i64 w b n f) := hb
  clear hb
  go_enter Try.func32, Try.ntmps32
  go_wp2_with (at_builtin; refine wpList_append_inN rfl _ _ rfl (w.heap.size + 1) none 0 0 f rfl (JO.nil _ _ _) b n c f rfl (Row.below HB.out (by go_grown)) (by omega) (by simp) ?_; intro x cap w1 hjo hgr; have hj1 : JO (w.heap.size + 1) w1 x n cap f := JO.congr (f := joinI f 0 f) (by simpa using hjo) (fun i _ => by simp [joinI]); clear hjo; have B1 : Below (w.heap.size + 1) (w.alloc (.cells #[.slice none 0 0] 70)) w1 := Below.grown (B := w.heap.size + 1) (a := w.alloc (.cells #[.slice none 0 0] 70)) (Below.refl _ _) hgr (by simp) (fun k e => by simp [Value.ownBlock] at e); have s1 := (Sits.new w #[.slice none 0 0] 70).below B1 (by omega); have x0 := s1.cell 0; have xf := s1.frozen; have HS1 : Hid (Sits _ _ _ _) := s1.set 0 (.slice x n cap); have HB1 : Hid (Below (w.heap.size + 1) (w.alloc (.cells #[.slice none 0 0] 70)) w1) := B1; have HJ : Hid (JO (w.heap.size + 1) w1 x n cap f) := hj1; clear s1 B1 hj1 hgr)
  refine bodyPost_ret (ret_one Try.results32 rfl HS1.out) rfl ⟨x, cap, rfl, (JO.far HJ.out (by omega) _ _).mono (by omega), ?_⟩
  exact (((Below.refl _ w).alloc (Nat.le_refl _) _).trans ((HB1.out).mono (by omega))).setCell (Nat.le_refl _) _

set_option maxHeartbeats 1000000 in
theorem ilistOfP_any (a : Option Addr) (m c : Nat) (f : Nat → Pk) (w : World) (hP : PR w.heap.size w a m f) (hm : m ≤ 1048576) :
    Calls Try.prog 33 #[.slice a m c] w fun e w' => ∃ (x : Option Addr) (cap : Nat), e = .returned (.agg #[.slice x m cap]) ∧ PO w.heap.size w' x m cap f ∧ Below w.heap.size w w' := by
  have HP : Hid (PR w.heap.size w a m f) := hP
  clear hP
  go_enter Try.func33, Try.ntmps33
  go_wp2_with (at_builtin; refine wpList_append_pk rfl _ _ rfl (w.heap.size + 1) (.slice none 0 0) rfl (World.ownsRow_nil _ _ _ _) a m c f rfl ((PR.below HP.out (by go_grown)).mono (by simp)) hm (by simp) ?_; intro x cap w1 hpo hgr; have B1 : Below (w.heap.size + 1) (w.alloc (.cells #[.slice none 0 0] 73)) w1 := Below.grown (B := w.heap.size + 1) (a := w.alloc (.cells #[.slice none 0 0] 73)) (Below.refl _ _) hgr (by simp) (fun k e => by simp [Value.ownBlock] at e); have s1 := (Sits.new w #[.slice none 0 0] 73).below B1 (by omega); have x0 := s1.cell 0; have xf := s1.frozen; have HS1 : Hid (Sits _ _ _ _) := s1.set 0 (.slice x m cap); have HB1 : Hid (Below (w.heap.size + 1) (w.alloc (.cells #[.slice none 0 0] 73)) w1) := B1; have HJ : Hid (PO (w.heap.size + 1) w1 x m cap f) := hpo; clear s1 B1 hpo hgr)
  refine bodyPost_ret (ret_oneP Try.results33 rfl HS1.out) rfl ⟨x, cap, rfl, (PO.far HJ.out (by omega) _ _).mono (by omega), ?_⟩
  exact (((Below.refl _ w).alloc (Nat.le_refl _) _).trans ((HB1.out).mono (by omega))).setCell (Nat.le_refl _) _

/-- The sixteen lanes as one value. -/
def lanesV (g : Nat → Value) : Value := .agg ((List.range 144).map g).toArray
/-- What lies at the lanes' places. -/
def lanesG (w : World) (B : Nat) (j : Nat) : Value := (w.cell? ⟨B, 2 + j, none⟩).getD undef
/-- All places of the lanes are there. -/
def LanesAt (w : World) (B : Nat) : Prop := ∀ j, j < 144 → (w.cell? ⟨B, 2 + j, none⟩).isSome = true
theorem load_lanes (w : World) (B : Nat) (h : LanesAt w B) : Sem.run Try.prog (Instr.loadAt 76 (.pointer (some ⟨B, 2, none⟩))) w = .ok (lanesV (lanesG w B)) w := by
  refine run_loadAt_mid w B 2 76 ((List.range 144).map (lanesG w B)) (.array 16 75) (fun j v hv => ?_) (by kernel_rfl) rfl (by rw [List.length_map, List.length_range]; kernel_rfl)
  rw [List.getElem?_map] at hv
  have hj : j < 144 := by
    rcases Nat.lt_or_ge j 144 with h1 | h1
    · exact h1
    · rw [List.getElem?_eq_none (by rw [List.length_range]; exact h1)] at hv; cases hv
  rw [List.getElem?_range hj] at hv
  have he : lanesG w B j = v := by simpa using hv
  rw [← he]
  unfold lanesG
  have := h j hj
  cases hc : w.cell? ⟨B, 2 + j, none⟩ with
  | none => rw [hc] at this; cases this
  | some u => rfl
theorem wp_lanes {op : Oper} {a : Act} {w : World} {B : Nat} {K : Act → World → Prop} {Q : Exit → Act → World → Prop} (x : Operand) (ho : op.op = .load 76 x) (hx : a.eval x = .pointer (some ⟨B, 2, none⟩)) (h : LanesAt w B)
    (hk : K (a.put op.dst (lanesV (lanesG w B))) w) : op.wp Try.prog a w K Q := by
  unfold Oper.wp execOp
  simp only [ho, hx, Sem.run_bind, load_lanes w B h, Result.andThen_ok]
  exact hk
set_option maxRecDepth 100000 in
theorem index_lane (g : Nat → Value) (k : Nat) (w : World) (hk : (k : Int) < 16) : Sem.run Try.prog (Instr.index 76 (lanesV g) (.int .i64 (k : Int))) w = .ok (.agg #[g (k * 9), g (k * 9 + 1), g (k * 9 + 2), g (k * 9 + 3), g (k * 9 + 4), g (k * 9 + 5), g (k * 9 + 6), g (k * 9 + 7), g (k * 9 + 8)]) w := by
  rcases (by omega : k = 0 ∨ k = 1 ∨ k = 2 ∨ k = 3 ∨ k = 4 ∨ k = 5 ∨ k = 6 ∨ k = 7 ∨ k = 8 ∨ k = 9 ∨ k = 10 ∨ k = 11 ∨ k = 12 ∨ k = 13 ∨ k = 14 ∨ k = 15) with rfl | rfl | rfl | rfl | rfl | rfl | rfl | rfl | rfl | rfl | rfl | rfl | rfl | rfl | rfl | rfl <;> kernel_rfl

/-- A lane's nine values from o on. -/
def NV (vs : Array Value) (o : Nat) (x : Option Addr) (c : Nat) (l : Ln) : Prop :=
  vs[o]? = some (.int .i64 l.cd.tg) ∧ vs[o + 1]? = some (.int .i64 l.cd.iv) ∧ vs[o + 2]? = some (.int .i64 l.cd.fi) ∧ vs[o + 3]? = some (.int .i64 l.cd.nx) ∧ vs[o + 4]? = some (.int .i64 l.cd.ct) ∧ vs[o + 5]? = some (.int .i64 l.cd.la) ∧ vs[o + 6]? = some (.bool l.cd.dr) ∧ vs[o + 7]? = some (.slice x l.n c) ∧ vs[o + 8]? = some (.int .i64 l.sh)
/-- A lane's nine values set from o on. -/
def setN (vs : Array Value) (o : Nat) (x : Option Addr) (c : Nat) (l : Ln) : Array Value :=
  (((((((((vs.setIfInBounds o (.int .i64 l.cd.tg)).setIfInBounds (o + 1) (.int .i64 l.cd.iv)).setIfInBounds (o + 2) (.int .i64 l.cd.fi)).setIfInBounds (o + 3) (.int .i64 l.cd.nx)).setIfInBounds (o + 4) (.int .i64 l.cd.ct)).setIfInBounds (o + 5) (.int .i64 l.cd.la)).setIfInBounds (o + 6) (.bool l.cd.dr)).setIfInBounds (o + 7) (.slice x l.n c)).setIfInBounds (o + 8) (.int .i64 l.sh))
theorem setN_size (vs : Array Value) (o : Nat) (x : Option Addr) (c : Nat) (l : Ln) : (setN vs o x c l).size = vs.size := by simp [setN]
theorem setN_ne (vs : Array Value) (o : Nat) (x : Option Addr) (c : Nat) (l : Ln) (i : Nat) (h : i < o ∨ o + 8 < i) : (setN vs o x c l)[i]? = vs[i]? := by
  unfold setN
  rw [Array.getElem?_setIfInBounds_ne (by omega), Array.getElem?_setIfInBounds_ne (by omega), Array.getElem?_setIfInBounds_ne (by omega), Array.getElem?_setIfInBounds_ne (by omega), Array.getElem?_setIfInBounds_ne (by omega), Array.getElem?_setIfInBounds_ne (by omega), Array.getElem?_setIfInBounds_ne (by omega), Array.getElem?_setIfInBounds_ne (by omega), Array.getElem?_setIfInBounds_ne (by omega)]
theorem setN_nv (vs : Array Value) (o : Nat) (x : Option Addr) (c : Nat) (l : Ln) (h : o + 8 < vs.size) : NV (setN vs o x c l) o x c l := by
  unfold setN
  refine ⟨?_, ?_, ?_, ?_, ?_, ?_, ?_, ?_, ?_⟩ <;>
    (repeat rw [Array.getElem?_setIfInBounds_ne (by omega)]) <;> (rw [Array.getElem?_setIfInBounds_self_of_lt (by (try simp); omega)])
theorem NV.setN {vs : Array Value} {o p : Nat} {x x' : Option Addr} {c c' : Nat} {l l' : Ln} (h : NV vs o x c l) (hne : o + 8 < p ∨ p + 8 < o) : NV (setN vs p x' c' l') o x c l := by
  obtain ⟨h0, h1, h2, h3, h4, h5, h6, h7, h8⟩ := h
  exact ⟨(setN_ne _ _ _ _ _ _ (by omega)).trans h0, (setN_ne _ _ _ _ _ _ (by omega)).trans h1, (setN_ne _ _ _ _ _ _ (by omega)).trans h2, (setN_ne _ _ _ _ _ _ (by omega)).trans h3, (setN_ne _ _ _ _ _ _ (by omega)).trans h4, (setN_ne _ _ _ _ _ _ (by omega)).trans h5, (setN_ne _ _ _ _ _ _ (by omega)).trans h6, (setN_ne _ _ _ _ _ _ (by omega)).trans h7, (setN_ne _ _ _ _ _ _ (by omega)).trans h8⟩
theorem Sits.setN {w : World} {B : Nat} {vs : Array Value} {t : TypeId} (h : Sits w B vs t) (o : Nat) (x : Option Addr) (c : Nat) (l : Ln) : Sits (((((((((w.setCell ⟨B, o, none⟩ (.int .i64 l.cd.tg)).setCell ⟨B, o + 1, none⟩ (.int .i64 l.cd.iv)).setCell ⟨B, o + 2, none⟩ (.int .i64 l.cd.fi)).setCell ⟨B, o + 3, none⟩ (.int .i64 l.cd.nx)).setCell ⟨B, o + 4, none⟩ (.int .i64 l.cd.ct)).setCell ⟨B, o + 5, none⟩ (.int .i64 l.cd.la)).setCell ⟨B, o + 6, none⟩ (.bool l.cd.dr)).setCell ⟨B, o + 7, none⟩ (.slice x l.n c)).setCell ⟨B, o + 8, none⟩ (.int .i64 l.sh)) B (Go.Proofs.Ytdhdigjghchdjaa.setN vs o x c l) t :=
  (((((((((h.set o _).set (o + 1) _).set (o + 2) _).set (o + 3) _).set (o + 4) _).set (o + 5) _).set (o + 6) _).set (o + 7) _).set (o + 8) _)
theorem lanes_at {w : World} {B : Nat} {vs : Array Value} {t : TypeId} {X : Nat → Option Addr} {C : Nat → Nat} {L : Nat → Ln} (h : Sits w B vs t) (hn : ∀ i, i < 16 → NV vs (2 + i * 9) (X i) (C i) (L i)) : LanesAt w B := by
  intro j hj
  obtain ⟨h0, h1, h2, h3, h4, h5, h6, h7, h8⟩ := hn (j / 9) (by omega)
  rw [h.cell]
  rcases (by omega : j = j / 9 * 9 + 0 ∨ j = j / 9 * 9 + 1 ∨ j = j / 9 * 9 + 2 ∨ j = j / 9 * 9 + 3 ∨ j = j / 9 * 9 + 4 ∨ j = j / 9 * 9 + 5 ∨ j = j / 9 * 9 + 6 ∨ j = j / 9 * 9 + 7 ∨ j = j / 9 * 9 + 8) with e | e | e | e | e | e | e | e | e
  · rw [e, show 2 + (j / 9 * 9 + 0) = 2 + j / 9 * 9 by omega, h0]; rfl
  · rw [e, show 2 + (j / 9 * 9 + 1) = 2 + j / 9 * 9 + 1 by omega, h1]; rfl
  · rw [e, show 2 + (j / 9 * 9 + 2) = 2 + j / 9 * 9 + 2 by omega, h2]; rfl
  · rw [e, show 2 + (j / 9 * 9 + 3) = 2 + j / 9 * 9 + 3 by omega, h3]; rfl
  · rw [e, show 2 + (j / 9 * 9 + 4) = 2 + j / 9 * 9 + 4 by omega, h4]; rfl
  · rw [e, show 2 + (j / 9 * 9 + 5) = 2 + j / 9 * 9 + 5 by omega, h5]; rfl
  · rw [e, show 2 + (j / 9 * 9 + 6) = 2 + j / 9 * 9 + 6 by omega, h6]; rfl
  · rw [e, show 2 + (j / 9 * 9 + 7) = 2 + j / 9 * 9 + 7 by omega, h7]; rfl
  · rw [e, show 2 + (j / 9 * 9 + 8) = 2 + j / 9 * 9 + 8 by omega, h8]; rfl
theorem lanes_g {w : World} {B : Nat} {vs : Array Value} {t : TypeId} {x : Option Addr} {c : Nat} {l : Ln} {k : Nat} (h : Sits w B vs t) (hn : NV vs (2 + k * 9) x c l) : lanesG w B (k * 9) = .int .i64 l.cd.tg ∧ lanesG w B (k * 9 + 1) = .int .i64 l.cd.iv ∧ lanesG w B (k * 9 + 2) = .int .i64 l.cd.fi ∧ lanesG w B (k * 9 + 3) = .int .i64 l.cd.nx ∧ lanesG w B (k * 9 + 4) = .int .i64 l.cd.ct ∧ lanesG w B (k * 9 + 5) = .int .i64 l.cd.la ∧ lanesG w B (k * 9 + 6) = .bool l.cd.dr ∧ lanesG w B (k * 9 + 7) = .slice x l.n c ∧ lanesG w B (k * 9 + 8) = .int .i64 l.sh := by
  obtain ⟨h0, h1, h2, h3, h4, h5, h6, h7, h8⟩ := hn
  refine ⟨?_, ?_, ?_, ?_, ?_, ?_, ?_, ?_, ?_⟩ <;> unfold lanesG <;> rw [h.cell]
  · rw [h0]; rfl
  · rw [← Nat.add_assoc, h1]; rfl
  · rw [← Nat.add_assoc, h2]; rfl
  · rw [← Nat.add_assoc, h3]; rfl
  · rw [← Nat.add_assoc, h4]; rfl
  · rw [← Nat.add_assoc, h5]; rfl
  · rw [← Nat.add_assoc, h6]; rfl
  · rw [← Nat.add_assoc, h7]; rfl
  · rw [← Nat.add_assoc, h8]; rfl

attribute [local go_sem ↓] index_lane

set_option maxRecDepth 100000 in
set_option maxHeartbeats 4000000 in
theorem lanesFattest_any (B : Nat) (vs : Array Value) (ty : TypeId) (X : Nat → Option Addr) (C : Nat → Nat) (L : Nat → Ln) (w : World) (hs : Sits w B vs ty) (hn : ∀ i, i < 16 → NV vs (2 + i * 9) (X i) (C i) (L i))
    (hP : ∀ i, i < 16 → PR w.heap.size w (X i) (L i).n (L i).f) (hz : sizesOk L 16) :
    Calls Try.prog 17 #[.pointer (some ⟨B, 0, none⟩)] w fun e w' => e = .returned (.int .i64 (fatS L 16).1) ∧ Below w.heap.size w w' := by
  have hla : LanesAt w B := lanes_at hs hn
  have HX : Hid (∀ k, k < 16 → lanesG w B (k * 9) = .int .i64 (L k).cd.tg ∧ lanesG w B (k * 9 + 1) = .int .i64 (L k).cd.iv ∧ lanesG w B (k * 9 + 2) = .int .i64 (L k).cd.fi ∧ lanesG w B (k * 9 + 3) = .int .i64 (L k).cd.nx ∧ lanesG w B (k * 9 + 4) = .int .i64 (L k).cd.ct ∧ lanesG w B (k * 9 + 5) = .int .i64 (L k).cd.la ∧ lanesG w B (k * 9 + 6) = .bool (L k).cd.dr ∧ lanesG w B (k * 9 + 7) = .slice (X k) (L k).n (C k) ∧ lanesG w B (k * 9 + 8) = .int .i64 (L k).sh) := fun k hk => lanes_g hs (hn k hk)
  have HP : Hid (∀ i, i < 16 → PR w.heap.size w (X i) (L i).n (L i).f) := hP
  have HSZ : Hid (sizesOk L 16) := hz
  clear hs hn hP hz
  go_enter Try.func17, Try.ntmps17
  go_wp2
  refine wp_lanes _ rfl rfl hla ?_
  rename_i hKK
  refine hKK _ _ ?_
  go_wp2
  clear hla
  go_loopw [3, 4, 12] (fun s m i wr => ∃ k : Nat, k ≤ 16 ∧ i = .int .i64 k ∧ s = .int .i64 (fatS L k).1 ∧ m = .int .i64 (fatS L k).2 ∧ Below w.heap.size w wr) (fun _ _ i _ => 16 - (intOf i).toNat)
  case atStart => exact ⟨0, Nat.zero_le _, rfl, rfl, rfl, Below.refl _ _⟩
  case round =>
    obtain ⟨k, hk, rfl, rfl, rfl, hb⟩ := hrel
    by_cases hlt : k < 16
    · have hki : (k : Int) < 16 := by omega
      obtain ⟨g0, g1, g2, g3, g4, g5, g6, g7, g8⟩ := HX.out k hlt
      have HPR : Hid (PR w.heap.size w (X k) (L k).n (L k).f) := HP.out k hlt
      have HZK : Hid ((L k).n ≤ 1048576 ∧ ∀ j, j < (L k).n → 1 ≤ ((L k).f j).size ∧ ((L k).f j).size ≤ 2000) := HSZ.out k hlt
      have HB : Hid (Below w.heap.size w wr) := hb
      have hwz := hb.size
      clear hb
      by_cases hm : (fatS L k).2 < sumF (L k).f (L k).n
      · have HF : Hid (fatS L (k + 1) = ((k : Int), sumF (L k).f (L k).n)) := by show fatS L (k + 1) = _; rw [fatS, if_pos hm]
        have hm' : decide ((fatS L k).2 < sumF (L k).f (L k).n) = true := by simpa using hm
        go_wp2_with (go_at_call 34; have hb8 := (HB.out).alloc hwz (.cells #[.int .i64 (L k).cd.tg, .int .i64 (L k).cd.iv, .int .i64 (L k).cd.fi, .int .i64 (L k).cd.nx, .int .i64 (L k).cd.ct, .int .i64 (L k).cd.la, .bool (L k).cd.dr, .slice (X k) (L k).n (C k), .int .i64 (L k).sh] 75); refine (ibytesOf_any (X k) (L k).n (C k) (L k).f _ (HZK.out).1 ((PR.below HPR.out hb8).mono hb8.size) (HZK.out).2).mono ?_; rintro e w9 ⟨rfl, hw9⟩; have hb9 : Below w.heap.size w w9 := hb8.trans (hw9.mono hb8.size))
        go_roundw
        case rel => exact ⟨k + 1, by omega, by go_num, by rw [HF.out], by rw [HF.out], hb9⟩
        case measure => simp [intOf]; omega
      · have HF : Hid (fatS L (k + 1) = fatS L k) := by show fatS L (k + 1) = _; rw [fatS, if_neg hm]
        have hm' : decide ((fatS L k).2 < sumF (L k).f (L k).n) = false := by simpa using hm
        go_wp2_with (go_at_call 34; have hb8 := (HB.out).alloc hwz (.cells #[.int .i64 (L k).cd.tg, .int .i64 (L k).cd.iv, .int .i64 (L k).cd.fi, .int .i64 (L k).cd.nx, .int .i64 (L k).cd.ct, .int .i64 (L k).cd.la, .bool (L k).cd.dr, .slice (X k) (L k).n (C k), .int .i64 (L k).sh] 75); refine (ibytesOf_any (X k) (L k).n (C k) (L k).f _ (HZK.out).1 ((PR.below HPR.out hb8).mono hb8.size) (HZK.out).2).mono ?_; rintro e w9 ⟨rfl, hw9⟩; have hb9 : Below w.heap.size w w9 := hb8.trans (hw9.mono hb8.size))
        go_roundw
        case rel => exact ⟨k + 1, by omega, by go_num, by rw [HF.out], by rw [HF.out], hb9⟩
        case measure => simp [intOf]; omega
    · obtain rfl : k = 16 := by omega
      go_wp2
      go_ret
      exact ⟨rfl, hb⟩

end Go.Proofs.Ytdhdigjghchdjaa
