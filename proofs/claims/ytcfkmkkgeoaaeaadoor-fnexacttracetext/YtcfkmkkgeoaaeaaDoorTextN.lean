/-
  A TRACE'S TEXT, BY NUMBERS; bytes that are one's own as a list; append of bytes and of a string onto them.
-/
import Derived.Test.YtcfkmkkgeoaaeaaDoorDigS
import Derived.Test.YtcfkmkkgeoaaeaaDoorTraceB
import Derived.Lib.AppendStr
namespace Go.Proofs.YtcfkmkkgeoaaeaaDoor
open Go.RowKit
set_option linter.unusedVariables false

/-- The digits of a number that is not below 0. -/
def dgL (n : Int) : List Int := (List.range (digN n.toNat)).map (digF n.toNat)
theorem dgL_len {n : Int} (h : n ≤ 9223372036854775807) : (dgL n).length ≤ 19 := by
  unfold dgL
  rw [List.length_map, List.length_range]
  exact digN_bd (by omega)
/-- A line: a word, an id, a time, an ecn. -/
def lnL (wd : List Int) (a t e : Int) : List Int := wd ++ [32] ++ dgL a ++ [32] ++ dgL t ++ [32] ++ dgL e ++ [10]
def wdTrace : List Int := [116, 114, 97, 99, 101]
def wdOut : List Int := [111, 117, 116]
def wdDrop : List Int := [100, 114, 111, 112]
def outsL (T : Tr) (k : Nat) : List Int := (List.range k).flatMap fun j => lnL wdOut (T.o j).id (T.t j) (T.o j).ecn
def dropsL (T : Tr) (k : Nat) : List Int := (List.range k).flatMap fun j => lnL wdDrop (T.d j).id (T.d j).tm (T.d j).ecn
theorem outsL_succ (T : Tr) (k : Nat) : outsL T (k + 1) = outsL T k ++ lnL wdOut (T.o k).id (T.t k) (T.o k).ecn := by simp [outsL, List.range_succ]
theorem dropsL_succ (T : Tr) (k : Nat) : dropsL T (k + 1) = dropsL T k ++ lnL wdDrop (T.d k).id (T.d k).tm (T.d k).ecn := by simp [dropsL, List.range_succ]
def txF (T : Tr) : List Int := wdTrace ++ [10] ++ outsL T T.no ++ dropsL T T.nd
def txR (T : Tr) : List Int := if trB T then txF T else []
theorem lnL_len {wd : List Int} {a t e : Int} (hw : wd.length ≤ 5) (ha : a ≤ 9223372036854775807) (ht : t ≤ 9223372036854775807) (he : e ≤ 9223372036854775807) : (lnL wd a t e).length ≤ 70 := by
  have h1 := dgL_len ha
  have h2 := dgL_len ht
  have h3 := dgL_len he
  unfold lnL
  simp only [List.length_append, List.length_cons, List.length_nil]
  omega
theorem good_bds {p : Pk} (h : p.good = true) : (0 ≤ p.id ∧ p.id ≤ 1000000000000) ∧ (0 ≤ p.tm ∧ p.tm ≤ 1000000000000) ∧ (0 ≤ p.ecn ∧ p.ecn ≤ 3) := by
  simp only [Pk.good, inB, Bool.and_eq_true, decide_eq_true_eq] at h
  exact ⟨h.1, h.2.1, h.2.2.2.2.2⟩
theorem outs_len {T : Tr} (h : trP T) : ∀ k, k ≤ T.no → (outsL T k).length ≤ 70 * k := by
  intro k
  induction k with
  | zero => intro _; simp [outsL]
  | succ k ih =>
    intro hk
    have h1 := ih (by omega)
    obtain ⟨g, t1, t2⟩ := h.2.2.2.1 k (by omega)
    obtain ⟨b1, b2, b3⟩ := good_bds g
    have h2 := lnL_len (wd := wdOut) (a := (T.o k).id) (t := T.t k) (e := (T.o k).ecn) (by decide) (by omega) (by omega) (by omega)
    rw [outsL_succ, List.length_append]
    omega
theorem drops_len {T : Tr} (h : trP T) : ∀ k, k ≤ T.nd → (dropsL T k).length ≤ 70 * k := by
  intro k
  induction k with
  | zero => intro _; simp [dropsL]
  | succ k ih =>
    intro hk
    have h1 := ih (by omega)
    obtain ⟨b1, b2, b3⟩ := good_bds (h.2.2.2.2 k (by omega))
    have h2 := lnL_len (wd := wdDrop) (a := (T.d k).id) (t := (T.d k).tm) (e := (T.d k).ecn) (by decide) (by omega) (by omega) (by omega)
    rw [dropsL_succ, List.length_append]
    omega
theorem txR_len (T : Tr) : (txR T).length ≤ 1048576 := by
  unfold txR
  cases hb : trB T
  · simp
  · have h : trP T := of_decide_eq_true hb
    have h1 := outs_len h T.no (Nat.le_refl _)
    have h2 := drops_len h T.nd (Nat.le_refl _)
    have h3 := h.2.1
    have h4 := h.2.2.1
    show (txF T).length ≤ _
    unfold txF
    simp only [List.length_append, wdTrace, List.length_cons, List.length_nil]
    omega

/-- Bytes that are one's own, as a list. -/
def OB (base : Nat) (w : World) (x : Option Addr) (cap : Nat) (l : List Int) : Prop := BO base w x l.length cap (fun i => l.getD i 0)
theorem OB.zn {base : Nat} {w : World} {x : Option Addr} {cap : Nat} {l : List Int} (h : OB base w x cap l) : Zn base w.heap.size w x l.length (fun i => l.getD i 0) := by
  rcases (BO.fresh h) with h1 | ⟨g, rfl, hg, ho⟩
  · exact .inl h1
  · exact .inr ⟨g, rfl, hg, ho.1, ho⟩
theorem OB.below {base : Nat} {w w' : World} {x : Option Addr} {cap : Nat} {l : List Int} (h : OB base w x cap l) (hb : Below w.heap.size w w') : OB base w' x cap l := BO.below h hb
theorem OB.mono {base base' : Nat} {w : World} {x : Option Addr} {cap : Nat} {l : List Int} (h : OB base w x cap l) (hb : base' ≤ base) : OB base' w x cap l := BO.mono h hb
theorem OB.nil (base : Nat) (w : World) : OB base w none 0 [] := BO.nil base w _
theorem OB.own {base : Nat} {w : World} {x : Option Addr} {cap : Nat} {l : List Int} (h : OB base w x cap l) : ∀ k, (Value.slice x l.length cap).ownBlock = some k → base ≤ k ∧ k < w.heap.size := BO.own_lt h
theorem getD_map (g : Nat → Int) (k i : Nat) (h : i < k) : ((List.range k).map g).getD i 0 = g i := by simp [h]
theorem ob_join {base : Nat} {w : World} {x : Option Addr} {cap k : Nat} {l : List Int} {g : Nat → Int} (h : BO base w x (l.length + k) cap (joinF (fun i => l.getD i 0) l.length g)) : OB base w x cap (l ++ (List.range k).map g) := by
  have e : (l ++ (List.range k).map g).length = l.length + k := by simp
  unfold OB
  rw [e]
  refine BO.congr h fun i hi => ?_
  unfold joinF
  by_cases c : i < l.length
  · rw [if_pos c]
    show l.getD i 0 = (l ++ (List.range k).map g).getD i 0
    rw [List.getD_eq_getElem?_getD, List.getD_eq_getElem?_getD, List.getElem?_append_left c]
  · rw [if_neg c]
    show g (i - l.length) = (l ++ (List.range k).map g).getD i 0
    rw [List.getD_eq_getElem?_getD, List.getElem?_append_right (by omega), ← List.getD_eq_getElem?_getD, getD_map g k _ (by omega)]
theorem ob_snoc {base : Nat} {w : World} {x : Option Addr} {cap : Nat} {l : List Int} {v : Int} (h : BO base w x (l.length + 1) cap (fun i => if i = l.length then v else l.getD i 0)) : OB base w x cap (l ++ [v]) := by
  have e : (l ++ [v]).length = l.length + 1 := by simp
  unfold OB
  rw [e]
  refine BO.congr h fun i hi => ?_
  by_cases c : i = l.length
  · subst c; simp
  · rw [if_neg c]
    show l.getD i 0 = (l ++ [v]).getD i 0
    rw [List.getD_eq_getElem?_getD, List.getD_eq_getElem?_getD, List.getElem?_append_left (by omega)]
theorem byL_list (l : List Int) : byL (fun i => l.getD i 0) l.length = l.map (Value.int .u8) := by
  apply List.ext_getElem?
  intro j
  by_cases h : j < l.length
  · rw [byL_get _ _ _ h]
    simp [h]
  · rw [List.getElem?_eq_none (by rw [byL_len]; omega), List.getElem?_eq_none (by simp; omega)]
/-- A string's bytes. -/
def strL (s : ByteArray) : List Int := s.data.toList.map fun b => (b.toNat : Int)
theorem strL_len (s : ByteArray) : (strL s).length = s.size := by
  unfold strL
  rw [List.length_map, Array.length_toList]
  rfl
theorem strCells_strL (s : ByteArray) : Lib.strCells s = (strL s).map (Value.int .u8) := by
  unfold strL Lib.strCells
  rw [List.map_map]
  rfl

/-- What an append, or several, may have turned: the first one's own block, and new memory. -/
def Gr (w w' : World) (v v' : Value) : Prop := w.grownBy w' v.ownBlock ∧ (v'.ownBlock = v.ownBlock ∨ ∀ k, v'.ownBlock = some k → w.heap.size ≤ k)
theorem Gr.refl (w : World) (v : Value) : Gr w w v v := ⟨World.grownBy.refl _ _, .inl rfl⟩
theorem Gr.trans {a b c : World} {u v x : Value} (h : Gr a b u v) (k : Gr b c v x) : Gr a c u x := by
  obtain ⟨h1, h2⟩ := h
  obtain ⟨k1, k2⟩ := k
  refine ⟨⟨k1.os.trans h1.os, k1.tape.trans h1.tape, k1.output.trans h1.output, Nat.le_trans h1.size k1.size, fun i hi hn => (k1.block i (Nat.lt_of_lt_of_le hi h1.size) ?_).trans (h1.block i hi hn)⟩, ?_⟩
  · rcases h2 with h2 | h2
    · rw [h2]; exact hn
    · intro e
      have := h2 i e.symm
      omega
  · rcases k2 with k2 | k2
    · rcases h2 with h2 | h2
      · exact .inl (k2.trans h2)
      · exact .inr fun i e => h2 i (k2 ▸ e)
    · exact .inr fun i e => Nat.le_trans h1.size (k2 i e)
theorem Gr.below {a b c : World} {u v : Value} (h : Gr a b u v) (hb : Below b.heap.size b c) : Gr a c u v :=
  ⟨⟨hb.os.trans h.1.os, hb.tape.trans h.1.tape, hb.output.trans h.1.output, Nat.le_trans h.1.size hb.size, fun i hi hn => (hb.block i (Nat.lt_of_lt_of_le hi h.1.size)).trans (h.1.block i hi hn)⟩, h.2⟩
theorem Gr.alloc {a b : World} {u v : Value} (h : Gr a b u v) (o : Obj) : Gr a (b.alloc o) u v := h.below ((Below.refl _ _).alloc (Nat.le_refl _) _)
theorem Gr.drew {a b : World} {u v : Value} (h : Gr a b u v) : Gr a b.drew u v := h.below ((Below.refl _ _).drew)
theorem Gr.size {a b : World} {u v : Value} (h : Gr a b u v) : a.heap.size ≤ b.heap.size := h.1.size
theorem Gr.kept {a b : World} {u v : Value} (h : Gr a b u v) {base : Nat} (ho : ∀ k, u.ownBlock = some k → base ≤ k) (hb : base ≤ a.heap.size) : Below base a b :=
  ⟨h.1.os, h.1.tape, h.1.output, h.1.size, fun k hk => h.1.block k (by omega) fun e => by have := ho k e.symm; omega⟩

theorem ob_rows {base : Nat} {w : World} {x : Option Addr} {cap : Nat} {l : List Int} (h : OB base w x cap l) : w.ownsRow base 5 1 (.slice x l.length cap) l.length (l.map (Value.int .u8)) := by
  have := h
  unfold OB BO at this
  rw [byL_list] at this
  exact this
theorem ob_of {base : Nat} {w : World} {v : Value} {l : List Int} (h : w.ownsRow base 5 1 v l.length (l.map (Value.int .u8))) : ∃ x cap, v = .slice x l.length cap ∧ OB base w x cap l := by
  have hsl : ∃ x' cap', v = .slice x' l.length cap' := by
    rcases h.2 with ⟨hv, h0⟩ | ⟨g, cp, cur, hv, _⟩
    · exact ⟨none, 0, by rw [hv, h0]⟩
    · exact ⟨_, _, hv⟩
  obtain ⟨x', cap', rfl⟩ := hsl
  refine ⟨x', cap', rfl, ?_⟩
  unfold OB BO
  rw [byL_list]
  exact h

/-- append of a string, and where the new bytes lie. -/
theorem run_append_obS (w : World) (ty : TypeId) (base : Nat) (y : Option Addr) (cap : Nat) (l : List Int) (hown : OB base w y cap l) (str : ByteArray) (hm : l.length + str.size ≤ 1048576) (hbase : base ≤ w.heap.size) :
    ∃ x' cap' w', (Builtin.append_ #[27, 9] ty #[.slice y l.length cap, .string str]).run Tryd.prog w = .ok (.slice x' (l.length + str.size) cap') w' ∧ OB base w' x' cap' (l ++ strL str) ∧ Gr w w' (.slice y l.length cap) (.slice x' (l.length + str.size) cap') := by
  obtain ⟨i0, hi0, hz0, hz1, hz2⟩ := info_parts infoU8
  have ho := ob_rows hown
  obtain ⟨v', w', hr, h2, h3, h4⟩ := Lib.run_append_own_string (P := Tryd.prog) w base 27 9 ty 5 i0 Tryd.underlying27 Tryd.underlying9 hi0 hz0 hz1 hz2 _ l.length _ ho str (by unfold maxLen; omega) (by omega) hbase
  have e : (l ++ strL str).length = l.length + str.size := by rw [List.length_append, strL_len]
  have h5 : w'.ownsRow base 5 1 v' (l ++ strL str).length ((l ++ strL str).map (Value.int .u8)) := by
    rw [e, List.map_append, ← strCells_strL]
    exact h2
  obtain ⟨x', cap', rfl, hob⟩ := ob_of h5
  rw [e] at hr
  refine ⟨x', cap', w', hr, hob, h3, ?_⟩
  have hxl : (l.map (Value.int .u8)).length = l.length := by simp
  rcases ho.2 with ⟨hv, h0⟩ | ⟨g, cp, cur, hv, hbg, hg, hnc, hcm, hcs, htake⟩
  · by_cases hs : str.size = 0
    · have := h4.2 ⟨hv, hs⟩
      rw [e] at this
      rw [this, hv]
      exact .inl rfl
    · have hr' := run_append_nil_string (P := Tryd.prog) w 27 9 ty 5 i0 (.int .u8 0) Tryd.underlying27 Tryd.underlying9 hi0 hz0 str (by omega) (by omega) (by rw [hz2]; omega)
      rw [hv, hr'] at hr
      simp only [Result.ok.injEq, Value.slice.injEq] at hr
      obtain ⟨⟨hx, _, _⟩, _⟩ := hr
      rw [← hx]
      exact .inr fun k ek => by have : w.heap.size = k := by simpa [Value.ownBlock] using ek
                                omega
  · rw [hv] at hr h3 ⊢
    by_cases hroom : l.length + str.size ≤ cp
    · have hcs' : cur.size = cp := by simpa using hcs
      have hr' := Lib.run_append_room_string (P := Tryd.prog) w 27 9 ty 5 i0 Tryd.underlying27 Tryd.underlying9 hi0 hz1 g l.length cp cur hg str hroom (by omega)
      rw [hr'] at hr
      simp only [Result.ok.injEq, Value.slice.injEq] at hr
      obtain ⟨⟨hx, _, _⟩, _⟩ := hr
      rw [← hx]
      exact .inl rfl
    · have holds : ∀ j u, (l.map (Value.int .u8))[j]? = some u → w.cell? ((⟨g, 0, none⟩ : Addr).add j) = some u := World.ownsRow.cells (g := g) (hv ▸ ho) rfl
      have hr' := Lib.run_append_grow_string (P := Tryd.prog) w 27 9 ty 5 i0 (.int .u8 0) Tryd.underlying27 Tryd.underlying9 hi0 hz0 ⟨g, 0, none⟩ l.length cp (l.map (Value.int .u8)) (by rw [hz1]; simp) holds str (by omega) (by omega) (by rw [hz2]; exact growslice_fits (by omega) (by omega))
      rw [hr'] at hr
      simp only [Result.ok.injEq, Value.slice.injEq] at hr
      obtain ⟨⟨hx, _, _⟩, _⟩ := hr
      rw [← hx]
      exact .inr fun k ek => by have : w.heap.size = k := by simpa [Value.ownBlock] using ek
                                omega
theorem wp_append_obS {w : World} {o : Oper} {a : Act} {K : Act → World → Prop} {Q : Exit → Act → World → Prop} (s x : Operand)
    (ho : o.op = .call { callee := .builtin .append, args := #[s, x], argTypes := #[27, 9] })
    (base : Nat) (y : Option Addr) (cap : Nat) (l : List Int) (k : Nat) (hk : l.length = k) (hs : a.eval s = .slice y k cap) (hown : OB base w y cap l)
    (str : ByteArray) (hx : a.eval x = .string str) (hm : k + str.size ≤ 1048576) (hbase : base ≤ w.heap.size)
    (h : ∀ a' cap' w', OB base w' a' cap' (l ++ strL str) → Gr w w' (.slice y k cap) (.slice a' (k + str.size) cap') → K (a.put o.dst (.slice a' (k + str.size) cap')) w') : o.wp Tryd.prog a w K Q := by
  subst hk
  obtain ⟨x', cap', w', r0, r1, r2⟩ := run_append_obS w o.type base y cap l hown str hm hbase
  unfold Oper.wp execOp
  simp only [ho, resolve, invoke, builtin, Sem.run_bind, Sem.run_pure, Result.andThen_ok, List.map_toArray, List.map_cons, List.map_nil, hs, hx, r0]
  exact h _ cap' w' r1 r2
/-- append of bytes. -/
theorem wp_append_obN {w : World} {o : Oper} {a : Act} {K : Act → World → Prop} {Q : Exit → Act → World → Prop} (s x : Operand)
    (ho : o.op = .call { callee := .builtin .append, args := #[s, x], argTypes := #[27, 27] })
    (base : Nat) (y : Option Addr) (cap : Nat) (l : List Int) (m : Nat) (hk : l.length = m) (hs : a.eval s = .slice y m cap) (hown : OB base w y cap l)
    (ad : Option Addr) (k c : Nat) (g : Nat → Int) (hx : a.eval x = .slice ad k c) (hr : Row .u8 w ad k g) (hm : m + k ≤ 1048576) (hbase : base ≤ w.heap.size)
    (h : ∀ a' cap' w', OB base w' a' cap' (l ++ (List.range k).map g) → Gr w w' (.slice y m cap) (.slice a' (m + k) cap') → K (a.put o.dst (.slice a' (m + k) cap')) w') : o.wp Tryd.prog a w K Q := by
  subst hk
  obtain ⟨i0, hi0, hz0, hz1, hz2⟩ := info_parts infoU8
  by_cases h0 : k = 0
  · subst h0
    unfold Oper.wp execOp
    simp only [ho, resolve, invoke, builtin, Sem.run_bind, Sem.run_pure, Result.andThen_ok, List.map_toArray, List.map_cons, List.map_nil, hs, hx, append_none Tryd.prog w 27 o.type 5 i0 Tryd.underlying27 hi0 y l.length cap (BO.cap hown) ad c]
    exact h y cap w (by simpa using hown) (Gr.refl _ _)
  · obtain ⟨b, off, rfl, hb, hc⟩ := Row.at hr (j := 0) (by omega)
    have hone : ∀ u ∈ byL g k, u.oneCell' = true := by
      intro u hu
      obtain ⟨j, _, rfl⟩ := List.mem_map.1 hu
      rfl
    refine wp_append_lies w s x 27 ho base 5 i0 (.int .u8 0) 1 1 Tryd.underlying27 hi0 hz0 hz1 hz2 rfl (by omega) _ l.length (byL (fun i => l.getD i 0) l.length) hs hown ⟨b, off, none⟩ k c (byL g k) hx (by rw [byL_len]; omega) ?_ hone (by omega) (by unfold maxLen; omega) (by omega) hbase _ rfl ?_
    · intro j u hu
      have hj : j < k := by
        have := (List.getElem?_eq_some_iff.1 hu).1
        rw [byL_len] at this
        exact this
      rw [byL_get _ _ _ hj] at hu
      cases hu
      rw [WideShapes.add_plain]
      exact hc j hj
    · intro g' cp w' h1 h2 h3 h4
      rw [byL_join] at h1
      refine h _ cp w' (ob_join h1) ⟨h2, ?_⟩
      rcases h3 with h3 | h3
      · exact .inl (h3 ▸ rfl)
      · exact .inr fun q eq => by have : g' = q := by simpa [Value.ownBlock] using eq
                                  omega
theorem row_one (w : World) (v : Int) (t : TypeId) : Row .u8 (w.alloc (.cells #[.int .u8 v] t)) (some ⟨w.heap.size, 0, none⟩) 1 (fun _ => v) := by
  refine .inr ⟨w.heap.size, 0, rfl, by simp, fun i hi => ?_⟩
  obtain rfl : i = 0 := by omega
  simp [go_sem]
theorem range_one (v : Int) : (List.range 1).map (fun _ => v) = [v] := rfl

end Go.Proofs.YtcfkmkkgeoaaeaaDoor
