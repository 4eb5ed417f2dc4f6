/-
  WHAT THE LAWS' HELPERS OVER FRAMES DO: eqIp, eqFrame, markFrame, heldFrame, toIp, toFrame, szFrame.
-/
import Derived.Test.YtboomccnfnaboajZone
namespace Go.Proofs.Ytboomccnfnaboaj
open Go.RowKit
set_option linter.unusedVariables false

/-- A frame's numbers. -/
structure Fr where
  dscp : Int
  ecn : Int
  id : Int
  ttl : Int
  proto : Int
  src : Int
  dst : Int
  srcP : Int
  dstP : Int
@[reducible] def Fr.ip (r : Fr) : Value := .agg #[.int .i64 r.dscp, .int .i64 r.ecn, .int .i64 r.id, .int .i64 r.ttl, .int .i64 r.proto, .int .i64 r.src, .int .i64 r.dst]
@[reducible] def Fr.val (r : Fr) (a : Option Addr) (n c : Nat) : Value := .agg #[.int .i64 r.dscp, .int .i64 r.ecn, .int .i64 r.id, .int .i64 r.ttl, .int .i64 r.proto, .int .i64 r.src, .int .i64 r.dst, .int .i64 r.srcP, .int .i64 r.dstP, .slice a n c]

/-- A frame that lies in a variable. -/
@[reducible] def frObj (r : Fr) (d : Option Addr) (m c : Nat) : Obj := .cells #[.int .i64 r.dscp, .int .i64 r.ecn, .int .i64 r.id, .int .i64 r.ttl, .int .i64 r.proto, .int .i64 r.src, .int .i64 r.dst, .int .i64 r.srcP, .int .i64 r.dstP, .slice d m c] 42
def Fv (w : World) (b : Nat) (r : Fr) (d : Option Addr) (m c : Nat) : Prop := b < w.heap.size ∧ w.heap[b]? = some (frObj r d m c)
theorem Fv.alloc (w : World) (r : Fr) (d : Option Addr) (m c : Nat) : Fv (w.alloc (frObj r d m c)) w.heap.size r d m c := ⟨by simp, by show (w.heap.push _)[w.heap.size]? = _; exact Array.getElem?_push_size⟩
theorem Fv.below {w w' : World} {b : Nat} {r : Fr} {d : Option Addr} {m c : Nat} (h : Fv w b r d m c) (hb : Below w.heap.size w w') : Fv w' b r d m c :=
  ⟨Nat.lt_of_lt_of_le h.1 hb.size, (hb.block b h.1).trans h.2⟩
theorem Fv.chg {w w' : World} {b : Nat} {r : Fr} {d : Option Addr} {m c : Nat} {L U : Nat} (h : Fv w b r d m c) (hb : Chg L U w w') (hn : b < L ∨ U ≤ b) : Fv w' b r d m c :=
  ⟨Nat.lt_of_lt_of_le h.1 hb.size, (hb.block b h.1 (by omega)).trans h.2⟩
theorem Fv.cells {w : World} {b : Nat} {r : Fr} {d : Option Addr} {m c : Nat} (h : Fv w b r d m c) : w.cell? ⟨b, 0, none⟩ = some (.int .i64 r.dscp) ∧ w.cell? ⟨b, 1, none⟩ = some (.int .i64 r.ecn) ∧ w.cell? ⟨b, 2, none⟩ = some (.int .i64 r.id) ∧ w.cell? ⟨b, 3, none⟩ = some (.int .i64 r.ttl) ∧ w.cell? ⟨b, 4, none⟩ = some (.int .i64 r.proto) ∧ w.cell? ⟨b, 5, none⟩ = some (.int .i64 r.src) ∧ w.cell? ⟨b, 6, none⟩ = some (.int .i64 r.dst) ∧ w.cell? ⟨b, 7, none⟩ = some (.int .i64 r.srcP) ∧ w.cell? ⟨b, 8, none⟩ = some (.int .i64 r.dstP) ∧ w.cell? ⟨b, 9, none⟩ = some (.slice d m c) := by
  have hb := h.2
  refine ⟨?_, ?_, ?_, ?_, ?_, ?_, ?_, ?_, ?_, ?_⟩ <;> (rw [cell_of_row w b _ _ _ _ hb]; rfl)

/-- The same for the laws' own type. -/
@[reducible] def frObjL (r : Fr) (d : Option Addr) (m c : Nat) : Obj := .cells #[.int .i64 r.dscp, .int .i64 r.ecn, .int .i64 r.id, .int .i64 r.ttl, .int .i64 r.proto, .int .i64 r.src, .int .i64 r.dst, .int .i64 r.srcP, .int .i64 r.dstP, .slice d m c] 34
def FvL (w : World) (b : Nat) (r : Fr) (d : Option Addr) (m c : Nat) : Prop := b < w.heap.size ∧ w.heap[b]? = some (frObjL r d m c)
theorem FvL.alloc (w : World) (r : Fr) (d : Option Addr) (m c : Nat) : FvL (w.alloc (frObjL r d m c)) w.heap.size r d m c := ⟨by simp, by show (w.heap.push _)[w.heap.size]? = _; exact Array.getElem?_push_size⟩
theorem FvL.below {w w' : World} {b : Nat} {r : Fr} {d : Option Addr} {m c : Nat} (h : FvL w b r d m c) (hb : Below w.heap.size w w') : FvL w' b r d m c :=
  ⟨Nat.lt_of_lt_of_le h.1 hb.size, (hb.block b h.1).trans h.2⟩
theorem FvL.chg {w w' : World} {b : Nat} {r : Fr} {d : Option Addr} {m c : Nat} {L U : Nat} (h : FvL w b r d m c) (hb : Chg L U w w') (hn : b < L ∨ U ≤ b) : FvL w' b r d m c :=
  ⟨Nat.lt_of_lt_of_le h.1 hb.size, (hb.block b h.1 (by omega)).trans h.2⟩
theorem FvL.cells {w : World} {b : Nat} {r : Fr} {d : Option Addr} {m c : Nat} (h : FvL w b r d m c) : w.cell? ⟨b, 0, none⟩ = some (.int .i64 r.dscp) ∧ w.cell? ⟨b, 1, none⟩ = some (.int .i64 r.ecn) ∧ w.cell? ⟨b, 2, none⟩ = some (.int .i64 r.id) ∧ w.cell? ⟨b, 3, none⟩ = some (.int .i64 r.ttl) ∧ w.cell? ⟨b, 4, none⟩ = some (.int .i64 r.proto) ∧ w.cell? ⟨b, 5, none⟩ = some (.int .i64 r.src) ∧ w.cell? ⟨b, 6, none⟩ = some (.int .i64 r.dst) ∧ w.cell? ⟨b, 7, none⟩ = some (.int .i64 r.srcP) ∧ w.cell? ⟨b, 8, none⟩ = some (.int .i64 r.dstP) ∧ w.cell? ⟨b, 9, none⟩ = some (.slice d m c) := by
  have hb := h.2
  refine ⟨?_, ?_, ?_, ?_, ?_, ?_, ?_, ?_, ?_, ?_⟩ <;> (rw [cell_of_row w b _ _ _ _ hb]; rfl)

theorem eqIp_yes (d e i t p s q : Int) (w : World) :
    Calls Try.prog 44 #[.agg #[.int .i64 d, .int .i64 e, .int .i64 i, .int .i64 t, .int .i64 p, .int .i64 s, .int .i64 q], .agg #[.int .i64 d, .int .i64 e, .int .i64 i, .int .i64 t, .int .i64 p, .int .i64 s, .int .i64 q]] w fun o w' => o = .returned (.bool true) ∧ Kept w w' := by
  go_enter Try.func44, Try.ntmps44
  go_wp2
  go_ret
  exact ⟨rfl, by constructor <;> go_grown⟩

set_option maxHeartbeats 1000000 in
theorem eqFrame_yes (r : Fr) (a b : Option Addr) (n ca cb : Nat) (f g : Nat → Int) (w : World) (ha : Row .u8 w a n f) (hb : Row .u8 w b n g) (hfg : ∀ i, i < n → f i = g i) (hn : n ≤ 1048576) :
    Calls Try.prog 22 #[r.val a n ca, r.val b n cb] w fun e w' => e = .returned (.bool true) ∧ Kept w w' := by
  have HA : Hid _ := ha
  have HB : Hid _ := hb
  have HF : Hid _ := hfg
  clear ha hb hfg
  obtain ⟨d, e, i, t, p, s, q, sp, dp⟩ := r
  simp only [Fr.val]
  go_enter Try.func22, Try.ntmps22
  go_wp2_with (go_at_call 44; refine (eqIp_yes _ _ _ _ _ _ _ _).mono ?_; rintro o w1 ⟨rfl, hk1⟩; have q7 : w1.cell? ⟨w.heap.size, 7, none⟩ = some (.int .i64 sp) := (hk1.1.cell (p := ⟨w.heap.size, 7, none⟩) (by simp <;> omega)).trans (by simp [go_sem]); have q8 : w1.cell? ⟨w.heap.size, 8, none⟩ = some (.int .i64 dp) := (hk1.1.cell (p := ⟨w.heap.size, 8, none⟩) (by simp <;> omega)).trans (by simp [go_sem]); have q9 : w1.cell? ⟨w.heap.size, 9, none⟩ = some (.slice a n ca) := (hk1.1.cell (p := ⟨w.heap.size, 9, none⟩) (by simp <;> omega)).trans (by simp [go_sem]); have r7 : w1.cell? ⟨w.heap.size + 1, 7, none⟩ = some (.int .i64 sp) := (hk1.1.cell (p := ⟨w.heap.size + 1, 7, none⟩) (by simp <;> omega)).trans (by simp [go_sem]); have r8 : w1.cell? ⟨w.heap.size + 1, 8, none⟩ = some (.int .i64 dp) := (hk1.1.cell (p := ⟨w.heap.size + 1, 8, none⟩) (by simp <;> omega)).trans (by simp [go_sem]); have r9 : w1.cell? ⟨w.heap.size + 1, 9, none⟩ = some (.slice b n cb) := (hk1.1.cell (p := ⟨w.heap.size + 1, 9, none⟩) (by simp <;> omega)).trans (by simp [go_sem]))
  have hk : Kept w w1 := (Kept.trans (Kept.trans (Kept.alloc _ _ _) (Kept.alloc _ _ _)) hk1)
  go_wp2_with (go_at_call 12; refine (eqByteS_yes a b n ca cb f g _ (Row.below HA.out hk.1) (Row.below HB.out hk.1) HF.out (by omega)).mono ?_; rintro o w2 ⟨rfl, hk2⟩)
  go_ret
  exact ⟨rfl, hk.trans hk2⟩

theorem toIp_any (d e i t p s q : Int) (w : World) :
    Calls Try.prog 41 #[.agg #[.int .i64 d, .int .i64 e, .int .i64 i, .int .i64 t, .int .i64 p, .int .i64 s, .int .i64 q]] w fun o w' => o = .returned (.agg #[.int .i64 d, .int .i64 e, .int .i64 i, .int .i64 t, .int .i64 p, .int .i64 s, .int .i64 q]) ∧ Below w.heap.size w w' := by
  go_enter Try.func41, Try.ntmps41
  go_wp2
  exact bodyPost_ret (v := .agg #[.int .i64 d, .int .i64 e, .int .i64 i, .int .i64 t, .int .i64 p, .int .i64 s, .int .i64 q]) (by simp [results, Try.results41, go_sem]) rfl ⟨rfl, by go_grown⟩

theorem szByteS_any (a : Option Addr) (n cap : Nat) (l : Int) (w : World) (hn : (n : Int) ≤ 9223372036854775807) (h0 : 0 ≤ l) (h1 : l ≤ 1048576) :
    Calls Try.prog 38 #[.slice a n cap, .int .i64 l] w fun e w' => e = .returned (.int .i64 (if l < n then -1 else l - n)) ∧ w' = w := by
  by_cases h : l < n
  · rw [if_pos h]
    go_enter Try.func38, Try.ntmps38
    go_wp2
    go_ret
    exact ⟨rfl, rfl⟩
  · rw [if_neg h]
    go_enter Try.func38, Try.ntmps38
    go_wp2
    go_ret
    exact ⟨rfl, rfl⟩

theorem szFrame_any (r : Fr) (a : Option Addr) (n cap : Nat) (l : Int) (w : World) (hn : (n : Int) ≤ 9223372036854775807) (h0 : 0 ≤ l) (h1 : l ≤ 1048576) :
    Calls Try.prog 17 #[r.val a n cap, .int .i64 l] w fun e w' => e = .returned (.int .i64 (if l < n then -1 else l - n)) ∧ Below w.heap.size w w' := by
  obtain ⟨d, e, i, t, p, s, q, sp, dp⟩ := r
  simp only [Fr.val]
  by_cases h : l < n
  · rw [if_pos h]
    go_enter Try.func17, Try.ntmps17
    go_wp2_with (go_at_call 38; refine (szByteS_any a n cap l _ hn h0 h1).mono ?_; rintro o w1 ⟨rfl, rfl⟩; rw [if_pos h])
    go_ret
    exact ⟨rfl, by go_grown⟩
  · rw [if_neg h]
    go_enter Try.func17, Try.ntmps17
    go_wp2_with (go_at_call 38; refine (szByteS_any a n cap l _ hn h0 h1).mono ?_; rintro o w1 ⟨rfl, rfl⟩; rw [if_neg h])
    go_ret
    exact ⟨rfl, by go_grown⟩

set_option maxHeartbeats 2000000 in
theorem toFrame_ints (d e i t p s q sp dp : Int) (a : Option Addr) (n cap : Nat) (f : Nat → Int) (w : World) (hr : Row .u8 w a n f) (hn : n ≤ 1048576) :
    Calls Try.prog 19 #[.agg #[.int .i64 d, .int .i64 e, .int .i64 i, .int .i64 t, .int .i64 p, .int .i64 s, .int .i64 q, .int .i64 sp, .int .i64 dp, .slice a n cap]] w fun o w' => ∃ x : Option Addr, o = .returned (.agg #[.int .i64 d, .int .i64 e, .int .i64 i, .int .i64 t, .int .i64 p, .int .i64 s, .int .i64 q, .int .i64 sp, .int .i64 dp, .slice x n n]) ∧ Zn w.heap.size w'.heap.size w' x n f ∧ Below w.heap.size w w' := by
  have HR : Hid (Row .u8 w a n f) := hr
  clear hr
  go_enter Try.func19, Try.ntmps19
  go_wp2_with (go_at_call 41; refine (toIp_any _ _ _ _ _ _ _ _).mono ?_; rintro o w1 ⟨rfl, hb1⟩; have pca := fun o => hb1.cell (p := ⟨w.heap.size, o, none⟩) (by simp <;> omega); have pfa := fun o => hb1.frozen (p := ⟨w.heap.size, o, none⟩) (by simp <;> omega); have pcb := fun o => hb1.cell (p := ⟨w.heap.size + 1, o, none⟩) (by simp <;> omega); have pfb := fun o => hb1.frozen (p := ⟨w.heap.size + 1, o, none⟩) (by simp <;> omega); have pcc := fun o => hb1.cell (p := ⟨w.heap.size + 1 + 1, o, none⟩) (by simp <;> omega); have pfc := fun o => hb1.frozen (p := ⟨w.heap.size + 1 + 1, o, none⟩) (by simp <;> omega))
  have hB1 : Below w.heap.size w w1 := ((((Below.refl w.heap.size w).alloc (Nat.le_refl _) _).alloc (by simp) _).alloc (by simp; omega) _).trans (hb1.mono (by simp; omega))
  have hs1 : w.heap.size + 1 + 1 < w1.heap.size := by have := hb1.size; simp at this; omega
  have hB2 := (((((((((hB1.setCell (p := ⟨w.heap.size + 1 + 1, 0, none⟩) (by show w.heap.size ≤ w.heap.size + 1 + 1; omega) (.int .i64 d)).setCell (p := ⟨w.heap.size + 1 + 1, 1, none⟩) (by show w.heap.size ≤ w.heap.size + 1 + 1; omega) (.int .i64 e)).setCell (p := ⟨w.heap.size + 1 + 1, 2, none⟩) (by show w.heap.size ≤ w.heap.size + 1 + 1; omega) (.int .i64 i)).setCell (p := ⟨w.heap.size + 1 + 1, 3, none⟩) (by show w.heap.size ≤ w.heap.size + 1 + 1; omega) (.int .i64 t)).setCell (p := ⟨w.heap.size + 1 + 1, 4, none⟩) (by show w.heap.size ≤ w.heap.size + 1 + 1; omega) (.int .i64 p)).setCell (p := ⟨w.heap.size + 1 + 1, 5, none⟩) (by show w.heap.size ≤ w.heap.size + 1 + 1; omega) (.int .i64 s)).setCell (p := ⟨w.heap.size + 1 + 1, 6, none⟩) (by show w.heap.size ≤ w.heap.size + 1 + 1; omega) (.int .i64 q)).setCell (p := ⟨w.heap.size + 1 + 1, 7, none⟩) (by show w.heap.size ≤ w.heap.size + 1 + 1; omega) (.int .i64 sp)).setCell (p := ⟨w.heap.size + 1 + 1, 8, none⟩) (by show w.heap.size ≤ w.heap.size + 1 + 1; omega) (.int .i64 dp))
  go_wp2_with (go_at_call 10; refine (toByteS_zn a n cap f _ (Row.below HR.out hB2) hn).mono ?_; rintro o w2 ⟨x, rfl, hz, hb2⟩; have qcb := fun o => hb2.cell (p := ⟨w.heap.size + 1, o, none⟩) (by simp <;> omega); have qfb := fun o => hb2.frozen (p := ⟨w.heap.size + 1, o, none⟩) (by simp <;> omega); have qcc := fun o => hb2.cell (p := ⟨w.heap.size + 1 + 1, o, none⟩) (by simp <;> omega); have qfc := fun o => hb2.frozen (p := ⟨w.heap.size + 1 + 1, o, none⟩) (by simp <;> omega))
  have hs2 : w1.heap.size ≤ w2.heap.size := by have := hb2.size; simpa [World.setCell] using this
  have hB3 : Below w.heap.size w w2 := hB2.trans (hb2.mono hB2.size)
  refine bodyPost_ret (v := .agg #[.int .i64 d, .int .i64 e, .int .i64 i, .int .i64 t, .int .i64 p, .int .i64 s, .int .i64 q, .int .i64 sp, .int .i64 dp, .slice x n n]) (by simp [results, Try.results19, go_sem, qcb, pcb]) rfl ⟨x, rfl, ?_, ?_⟩
  · rcases hz with h | ⟨B, rfl, h1, h2, ho⟩
    · exact .inl h
    · have h1' : w1.heap.size ≤ B := by simpa [World.setCell] using h1
      exact .inr ⟨B, rfl, by omega, by simpa [World.setCell] using h2, ((((((((((ho.far _ _ (by omega)).far _ _ (by omega)).far _ _ (by omega)).far _ _ (by omega)).far _ _ (by omega)).far _ _ (by omega)).far _ _ (by omega)).far _ _ (by omega)).far _ _ (by omega)).far _ _ (by omega)).far _ _ (by omega)⟩
  · exact ((((((((((hB3.setCell (by show w.heap.size ≤ w.heap.size + 1 + 1; omega) _).setCell (by show w.heap.size ≤ w.heap.size + 1; omega) _).setCell (by show w.heap.size ≤ w.heap.size + 1; omega) _).setCell (by show w.heap.size ≤ w.heap.size + 1; omega) _).setCell (by show w.heap.size ≤ w.heap.size + 1; omega) _).setCell (by show w.heap.size ≤ w.heap.size + 1; omega) _).setCell (by show w.heap.size ≤ w.heap.size + 1; omega) _).setCell (by show w.heap.size ≤ w.heap.size + 1; omega) _).setCell (by show w.heap.size ≤ w.heap.size + 1; omega) _).setCell (by show w.heap.size ≤ w.heap.size + 1; omega) _).setCell (by show w.heap.size ≤ w.heap.size + 1; omega) _

end Go.Proofs.Ytboomccnfnaboaj
