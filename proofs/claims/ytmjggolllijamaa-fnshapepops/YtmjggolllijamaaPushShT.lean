/-
  A PACKET COMES TO A SHAPER, AS THE SPECIFICATION SAYS: l8push.
-/
import Derived.Test.YtmjggolllijamaaPushShS
import Derived.Deep.RegionLaw
namespace Go.Proofs.Ytmjggolllijamaa
open Go.RowKit
set_option linter.unusedVariables false

def shpP (s : Sh) (L : Nat → Ln) (p : Pk) : Prop := (cntF L 4 : Int) < s.lim ∧ lastP L p
instance (s : Sh) (L : Nat → Ln) (p : Pk) : Decidable (shpP s L p) := by unfold shpP; infer_instance
def shpB (s : Sh) (L : Nat → Ln) (p : Pk) : Bool := decide (shpP s L p)
/-- The line of host h with one more. -/
def shpLn (s : Sh) (L : Nat → Ln) (p : Pk) (h : Nat) : Ln := ⟨(L h).n + 1, fun k => if k = (L h).n then p else (L h).f k, if (L h).n = 0 then s.qt else (L h).sh, (L h).cd⟩
def shpL (s : Sh) (L : Nat → Ln) (p : Pk) (h : Nat) : Nat → Ln := fun i => if i = h then shpLn s L p h else L i
def shpT (L : Nat → Ln) (ts : List Int) (h : Nat) : List Int := if (L h).n = 0 then ts ++ [(h : Int)] else ts
theorem cell_of_block {w w' : World} {B : Nat} (h : w'.heap[B]? = w.heap[B]?) (o : Nat) : w'.cell? ⟨B, o, none⟩ = w.cell? ⟨B, o, none⟩ := by simp only [World.cell?, h]
theorem frozen_of_block {w w' : World} {B : Nat} (h : w'.heap[B]? = w.heap[B]?) (o : Nat) : w'.frozen? ⟨B, o, none⟩ = w.frozen? ⟨B, o, none⟩ := by simp only [World.frozen?, h]
theorem LQ.drew {base : Nat} {w : World} {B N : Nat} {A : Nat → Option Addr} {C : Nat → Nat} {L : Nat → Ln} (h : LQ base w B N A C L) : LQ base w.drew B N A C L := h.keep rfl fun _ _ _ _ => rfl
theorem Sits.drew' {w : World} {B : Nat} {vs : Array Value} {t : TypeId} (h : Sits w B vs t) : Sits w.drew B vs t := h
theorem map_snoc (f : Nat → Int) (m : Nat) (v : Int) : (List.range (m + 1)).map (fun i => if i = m then v else f i) = (List.range m).map f ++ [v] := by
  rw [List.range_succ, List.map_append]
  congr 1
  · refine List.map_congr_left fun j hj => ?_
    have : j < m := by simpa using hj
    rw [if_neg (by omega)]
  · simp
theorem wpList_append_in1 {w : World} {ops : Array Oper} {rest : List Oper} {o : Oper} {a : Act} {Q : Exit → Act → World → Prop} (hgd : o.guard = none) (s x : Operand)
    (ho : o.op = .call { callee := .builtin .append, args := #[s, x], argTypes := #[23, 23] })
    (base : Nat) (y : Option Addr) (m cap : Nat) (f : Nat → Int) (hs : a.eval s = .slice y m cap) (hown : JO base w y m cap f)
    (B : Nat) (v : Int) (hx : a.eval x = .slice (some ⟨B, 0, none⟩) 1 1) (hB : w.cell? ⟨B, 0, none⟩ = some (.int .i64 v)) (hm : m ≤ 1048576) (hbase : base ≤ w.heap.size)
    (h : ∀ g cap' w', JO base w' (some ⟨g, 0, none⟩) (m + 1) cap' (fun i => if i = m then v else f i) → w.grownBy w' (Value.slice y m cap).ownBlock → ((Value.slice y m cap).ownBlock = some g ∨ g = w.heap.size) → g < w'.heap.size → wpList Try.prog ops Q rest (a.put o.dst (.slice (some ⟨g, 0, none⟩) (m + 1) cap')) w') : wpList Try.prog ops Q (o :: rest) a w :=
  wpList_plain hgd fun _ hK => wp_append_in1 s x ho base y m cap f hs hown B v hx hB hm hbase fun g cap w' h2 h3 h4 h5 => hK _ _ (h g cap w' h2 h3 h4 h5)
/-- One number more in Turn: what turns, and where it is then. -/
theorem turn_grown {w w' : World} {y : Option Addr} {n cy g : Nat} {o : Obj} (hg : (w.alloc o).grownBy w' (Value.slice y n cy).ownBlock) (hat : (Value.slice y n cy).ownBlock = some g ∨ g = (w.alloc o).heap.size) :
    (∀ k, k < w.heap.size → (∀ a, y = some a → k ≠ a.block) → w'.heap[k]? = w.heap[k]?) ∧ ((∃ b, y = some b ∧ b.block = g) ∨ w.heap.size ≤ g) := by
  have key : ∀ j, (Value.slice y n cy).ownBlock = some j → ∃ a, y = some a ∧ a.block = j := fun j hj => by
    cases y with
    | none => cases hj
    | some a => exact ⟨a, rfl, by simpa [Value.ownBlock] using hj⟩
  refine ⟨fun k hk hn => (hg.block k (by simp; omega) (fun e => ?_)).trans (Below.heap_alloc _ _ k hk), ?_⟩
  · obtain ⟨a, e1, e2⟩ := key k e.symm
    exact hn a e1 e2.symm
  · rcases hat with e | e
    · exact .inl (key g e)
    · right; rw [e]; simp
theorem pk_at (v : World) (p : Pk) (t : TypeId) : PAt (v.alloc (.cells (pkCells p) t)) v.heap.size 0 p := by
  have h := Sits.new v (pkCells p) t
  exact ⟨h.cell 0, h.cell 1, h.cell 2, h.cell 3, h.cell 4, h.cell 5⟩

/-- One more at the end of a line's list, and the line's cell set. -/
theorem push_step {base : Nat} {w2 w4 : World} {V B n cy : Nat} {cells : Array Value} {T : TypeId} {y : Option Addr} {A : Nat → Option Addr} {C : Nat → Nat} {L : Nat → Ln} {tn : Nat → Int} {h g m cap' : Nat} {f' : Nat → Pk} {o : Obj} (h4 : h < 4)
    (lq : LQ base w2 B 4 A C L) (tq : TQ base w2 y n cy tn B 4 A) (sv : Sits w2 V cells T) (hVA : ∀ i, i < 4 → ∀ g, A i = some g → g.block ≠ V) (hVB : V ≠ B) (hbs : base ≤ w2.heap.size)
    (hbo : PO base w4 (some ⟨g, 0, none⟩) m cap' f') (hgrow : (w2.alloc o).drew.grownBy w4 (Value.slice (A h) (L h).n (C h)).ownBlock) (hat : (Value.slice (A h) (L h).n (C h)).ownBlock = some g ∨ g = (w2.alloc o).drew.heap.size) :
    LQ base (w4.setCell ⟨B, h * 9, none⟩ (.slice (some ⟨g, 0, none⟩) m cap')) B 4 (fun i => if i = h then some ⟨g, 0, none⟩ else A i) (fun i => if i = h then cap' else C i) (fun i => if i = h then ⟨m, f', (L h).sh, (L h).cd⟩ else L i) ∧
    TQ base (w4.setCell ⟨B, h * 9, none⟩ (.slice (some ⟨g, 0, none⟩) m cap')) y n cy tn B 4 (fun i => if i = h then some ⟨g, 0, none⟩ else A i) ∧
    Sits (w4.setCell ⟨B, h * 9, none⟩ (.slice (some ⟨g, 0, none⟩) m cap')) V cells T ∧ (∀ i, i < 4 → ∀ a, (if i = h then some ⟨g, 0, none⟩ else A i) = some a → a.block ≠ V) ∧ Below base w2 (w4.setCell ⟨B, h * 9, none⟩ (.slice (some ⟨g, 0, none⟩) m cap')) := by
  have key : ∀ j, (Value.slice (A h) (L h).n (C h)).ownBlock = some j → ∃ a, A h = some a ∧ a.block = j := fun j hj => by
    cases hA : A h with
    | none => rw [hA] at hj; cases hj
    | some a => rw [hA] at hj; exact ⟨a, rfl, by simpa [Value.ownBlock] using hj⟩
  have hk : ∀ k, k < w2.heap.size → (∀ a, A h = some a → k ≠ a.block) → w4.heap[k]? = w2.heap[k]? := fun k hk hn => (hgrow.block k (by simp; omega) (fun e => by
    obtain ⟨a, e1, e2⟩ := key k e.symm
    exact hn a e1 e2.symm)).trans (Below.heap_alloc _ _ k hk)
  have hsz : (w2.alloc o).drew.heap.size = w2.heap.size + 1 := by simp
  have hn : ∀ a, (some ⟨g, 0, none⟩ : Option Addr) = some a → (∃ b, A h = some b ∧ b.block = a.block) ∨ w2.heap.size ≤ a.block := fun a e => by
    cases e
    rcases hat with e1 | e1
    · exact .inl (key g e1)
    · right; show w2.heap.size ≤ g; omega
  have hV : w4.heap[V]? = w2.heap[V]? := hk V sv.lt fun a ha e => hVA h h4 a ha e.symm
  refine ⟨lq.put h4 hk hbo hn, ⟨(tq.1.keep fun a ha => hk a.block (tq.1.undr a ha) fun b hb e => tq.2.2 h h4 b a hb ha e.symm).keep (set_keep _ _ tq.2.1), tq.2.1, fun i hi => ?_⟩, ?_, fun i hi a ha => ?_, ?_⟩
  · dsimp only
    by_cases e : i = h
    · rw [if_pos e]
      intro a b ea eb e2
      cases ea
      rcases hat with e1 | e1
      · obtain ⟨c, hc, ec⟩ := key g e1
        exact tq.2.2 h h4 c b hc eb (by rw [ec]; exact e2)
      · have h7 := tq.1.undr b eb
        have h8 : g = b.block := e2
        omega
    · rw [if_neg e]; exact tq.2.2 i hi
  · exact (show Sits w4 V cells T from hV.trans sv).other (by omega) _
  · by_cases e : i = h
    · rw [if_pos e] at ha
      cases ha
      rcases hat with e1 | e1
      · obtain ⟨c, hc, ec⟩ := key g e1
        show g ≠ V
        rw [← ec]; exact hVA h h4 c hc
      · have := sv.lt
        show g ≠ V
        omega
    · rw [if_neg e] at ha; exact hVA i hi a ha
  · exact (Below.grown (B := base) (a := w2) (((Below.refl _ w2).alloc hbs _).drew) hgrow (by omega) (fun j e => by
      obtain ⟨a, e1, e2⟩ := key j e
      have := (lq.own h h4).above a e1; omega)).setCell lq.lo _

set_option maxRecDepth 100000 in
set_option maxHeartbeats 4000000 in
theorem l8push_any (base V B cl n cy : Nat) (s : Sh) (y : Option Addr) (A : Nat → Option Addr) (C : Nat → Nat) (L : Nat → Ln) (tn : Nat → Int) (p : Pk) (h : Nat) (w : World)
    (hS : Sits w V (shCells s (some ⟨B, 0, none⟩) 4 cl y n cy) 29) (hbV : base ≤ V) (hVB : V ≠ B) (hVA : ∀ i, i < 4 → ∀ g, A i = some g → g.block ≠ V) (hVy : ∀ g, y = some g → g.block ≠ V)
    (hQ : LQ base w B 4 A C L) (hT : TQ base w y n cy tn B 4 A) (hcn : cntF L 4 ≤ 1000000) (hn : n ≤ 1000) (hh : p.host = (h : Int)) (h4 : h < 4) (htu : hasB tn n (h : Int) = decide ((L h).n ≠ 0)) :
    Calls Try.prog 90 #[.pointer (some ⟨V, 0, none⟩), p.val] w fun e w' =>
      (shpB s L p = false ∧ e = .returned (.bool false) ∧ Below w.heap.size w w') ∨
      (shpB s L p = true ∧ e = .returned (.bool true) ∧ ∃ (A' : Nat → Option Addr) (C' : Nat → Nat) (y' : Option Addr) (n' cy' : Nat) (tn' : Nat → Int), Sits w' V (shCells s (some ⟨B, 0, none⟩) 4 cl y' n' cy') 29 ∧ LQ base w' B 4 A' C' (shpL s L p h) ∧ JO base w' y' n' cy' tn' ∧ (List.range n').map tn' = shpT L ((List.range n).map tn) h ∧ n' ≤ n + 1 ∧ Below base w w') := by
  have HVA : Hid (∀ i, i < 4 → ∀ g, A i = some g → g.block ≠ V) := hVA
  have HVY : Hid (∀ g, y = some g → g.block ≠ V) := hVy
  have HT : Hid (TQ base w y n cy tn B 4 A) := hT
  have HQ : Hid (LQ base w B 4 A C L) := hQ
  have HCN : Hid (cntF L 4 ≤ 1048576) := by show _ ≤ _; omega
  have HCN' : Hid (cntF L 4 ≤ 1000000) := hcn
  have HN : Hid (n ≤ 1000) := hn
  have HH : Hid (p.host = (h : Int)) := hh
  have HTU : Hid (hasB tn n (h : Int) = decide ((L h).n ≠ 0)) := htu
  have hlV := hS.lt
  have hlB := hQ.lt
  have HS : Hid (Sits w V (shCells s (some ⟨B, 0, none⟩) 4 cl y n cy) 29) := hS
  clear hVA hVy hT hQ hcn hn hh htu hS
  obtain ⟨W0, hW0⟩ : ∃ W, w.alloc (.cells (pkCells p) 31) = W := ⟨_, rfl⟩
  have s1 : Sits W0 w.heap.size (pkCells p) 31 := by rw [← hW0]; exact Sits.new _ _ _
  have b0 : Below w.heap.size w W0 := by rw [← hW0]; exact (Below.refl _ w).alloc (Nat.le_refl _) _
  have s0 : Sits W0 V (shCells s (some ⟨B, 0, none⟩) 4 cl y n cy) 29 := Sits.below HS.out b0 hlV
  have HW0 : Hid (w.alloc (.cells (pkCells p) 31) = W0) := hW0
  have HB0 : Hid (Below w.heap.size w W0) := b0
  have HS0 : Hid (Sits _ _ _ _) := s0
  have HS1 : Hid (Sits _ _ _ _) := s1
  have x0 := s0.cell 0
  have x1 := s0.cell 1
  have x2 := s0.cell 2
  have x3 := s0.cell 3
  have x4 := s0.cell 4
  have x5 := s0.cell 5
  have x6 := s0.cell 6
  have p0 := s1.cell 0
  have p1 := s1.cell 1
  have p2 := s1.cell 2
  have p3 := s1.cell 3
  have p4 := s1.cell 4
  have p5 := s1.cell 5
  have l0 := s0.lt
  have l1 := s1.lt
  clear s0 s1 b0 hW0
  have HBB : Hid (∀ w', Below W0.heap.size W0 w' → Below w.heap.size w w') := fun w' hw' => (HB0.out).trans (hw'.mono (HB0.out).size)
  have HLR : Hid (∀ w', Below W0.heap.size W0 w' → LR w'.heap.size w' (some ⟨B, 0, none⟩) 4 L) := fun w' hw' => ((HQ.out).below (HBB.out _ hw')).lr
  go_enter Try.func90, Try.ntmps90
  go_upto_region 1 with fail
  rw [HW0.out]
  clear HW0
  by_cases t0 : s.lim ≤ (cntF L 4 : Int)
  · have t0' : decide (s.lim ≤ (cntF L 4 : Int)) = true := decide_eq_true t0
    have HE : Hid (shpB s L p = false) := by show _ = _; unfold shpB; exact decide_eq_false fun e => by have := e.1; omega
    refine wp_region_quiet (C := fun w' => Below W0.heap.size W0 w') (by kernel_rfl) (by kernel_rfl) ((Below.refl _ _).drew) ?_
    simp only []
    repeat (first
      | go_big_quiet_skip
      | (go_big_quiet_want
         unfold Oper.quiet
         apply Exists.intro
         refine ⟨fun w' hw' => ?_, ?_⟩
         (have z0 := (hw'.cell (p := ⟨V, 0, none⟩) (by show V < _; omega)).trans x0
          have z1 := (hw'.cell (p := ⟨V, 1, none⟩) (by show V < _; omega)).trans x1
          have z2 := (hw'.cell (p := ⟨V, 2, none⟩) (by show V < _; omega)).trans x2
          have z3 := (hw'.cell (p := ⟨V, 3, none⟩) (by show V < _; omega)).trans x3
          have z4 := (hw'.cell (p := ⟨V, 4, none⟩) (by show V < _; omega)).trans x4
          have z5 := (hw'.cell (p := ⟨V, 5, none⟩) (by show V < _; omega)).trans x5
          have z6 := (hw'.cell (p := ⟨V, 6, none⟩) (by show V < _; omega)).trans x6
          have e0 := (hw'.cell (p := ⟨w.heap.size, 0, none⟩) (by show w.heap.size < _; omega)).trans p0
          have e1 := (hw'.cell (p := ⟨w.heap.size, 1, none⟩) (by show w.heap.size < _; omega)).trans p1
          have e2 := (hw'.cell (p := ⟨w.heap.size, 2, none⟩) (by show w.heap.size < _; omega)).trans p2
          have e3 := (hw'.cell (p := ⟨w.heap.size, 3, none⟩) (by show w.heap.size < _; omega)).trans p3
          have e4 := (hw'.cell (p := ⟨w.heap.size, 4, none⟩) (by show w.heap.size < _; omega)).trans p4
          have e5 := (hw'.cell (p := ⟨w.heap.size, 5, none⟩) (by show w.heap.size < _; omega)).trans p5
          go_simp
          first
            | (go_at_call 52; refine (l8count_any s (some ⟨B, 0, none⟩) 4 cl y n cy L _ (by omega) HCN.out (HLR.out _ hw')).mono ?_; rintro e w1 ⟨rfl, hb1⟩; exact ⟨rfl, hw'.trans (hb1.mono hw'.size)⟩)
            | exact rfl)
         simp only [Act.put, List.setIfInBounds_toArray, List.set_cons_zero, List.set_cons_succ]
         go_big_quiet_on))
    refine wpQuiet_nil ?_
    intro w2 hw2
    go_wp2
    go_ret
    exact .inl ⟨HE.out, rfl, HBB.out _ hw2⟩
  have t0' : decide (s.lim ≤ (cntF L 4 : Int)) = false := decide_eq_false t0
  cases t1 : lastB L p
  case false =>
    have HE : Hid (shpB s L p = false) := by show _ = _; unfold shpB; exact decide_eq_false fun e => by have h2 := e.2; unfold lastB at t1; simp [h2] at t1
    refine wp_region_quiet (C := fun w' => Below W0.heap.size W0 w') (by kernel_rfl) (by kernel_rfl) ((Below.refl _ _).drew) ?_
    simp only []
    repeat (first
      | go_big_quiet_skip
      | (go_big_quiet_want
         unfold Oper.quiet
         apply Exists.intro
         refine ⟨fun w' hw' => ?_, ?_⟩
         (have z0 := (hw'.cell (p := ⟨V, 0, none⟩) (by show V < _; omega)).trans x0
          have z1 := (hw'.cell (p := ⟨V, 1, none⟩) (by show V < _; omega)).trans x1
          have z2 := (hw'.cell (p := ⟨V, 2, none⟩) (by show V < _; omega)).trans x2
          have z3 := (hw'.cell (p := ⟨V, 3, none⟩) (by show V < _; omega)).trans x3
          have z4 := (hw'.cell (p := ⟨V, 4, none⟩) (by show V < _; omega)).trans x4
          have z5 := (hw'.cell (p := ⟨V, 5, none⟩) (by show V < _; omega)).trans x5
          have z6 := (hw'.cell (p := ⟨V, 6, none⟩) (by show V < _; omega)).trans x6
          have e0 := (hw'.cell (p := ⟨w.heap.size, 0, none⟩) (by show w.heap.size < _; omega)).trans p0
          have e1 := (hw'.cell (p := ⟨w.heap.size, 1, none⟩) (by show w.heap.size < _; omega)).trans p1
          have e2 := (hw'.cell (p := ⟨w.heap.size, 2, none⟩) (by show w.heap.size < _; omega)).trans p2
          have e3 := (hw'.cell (p := ⟨w.heap.size, 3, none⟩) (by show w.heap.size < _; omega)).trans p3
          have e4 := (hw'.cell (p := ⟨w.heap.size, 4, none⟩) (by show w.heap.size < _; omega)).trans p4
          have e5 := (hw'.cell (p := ⟨w.heap.size, 5, none⟩) (by show w.heap.size < _; omega)).trans p5
          go_simp
          first
            | (go_at_call 52; refine (l8count_any s (some ⟨B, 0, none⟩) 4 cl y n cy L _ (by omega) HCN.out (HLR.out _ hw')).mono ?_; rintro e w1 ⟨rfl, hb1⟩; exact ⟨rfl, hw'.trans (hb1.mono hw'.size)⟩)
            | (go_at_call 101; refine (l8last_any s (some ⟨B, 0, none⟩) cl y n cy L p _ HCN.out (HLR.out _ hw')).mono ?_; rintro e w1 ⟨rfl, hb1⟩; exact ⟨by rw [t1], hw'.trans (hb1.mono hw'.size)⟩)
            | exact rfl)
         simp only [Act.put, List.setIfInBounds_toArray, List.set_cons_zero, List.set_cons_succ]
         go_big_quiet_on))
    refine wpQuiet_nil ?_
    intro w2 hw2
    go_wp2
    go_ret
    exact .inl ⟨HE.out, rfl, HBB.out _ hw2⟩
  case true =>
  have HE : Hid (shpB s L p = true) := by show _ = _; unfold shpB; exact decide_eq_true ⟨by omega, by unfold lastB at t1; simpa using t1⟩
  refine wp_region_quiet (C := fun w' => Below W0.heap.size W0 w') (by kernel_rfl) (by kernel_rfl) ((Below.refl _ _).drew) ?_
  simp only []
  repeat (first
    | go_big_quiet_skip
    | (go_big_quiet_want
       unfold Oper.quiet
       apply Exists.intro
       refine ⟨fun w' hw' => ?_, ?_⟩
       (have z0 := (hw'.cell (p := ⟨V, 0, none⟩) (by show V < _; omega)).trans x0
        have z1 := (hw'.cell (p := ⟨V, 1, none⟩) (by show V < _; omega)).trans x1
        have z2 := (hw'.cell (p := ⟨V, 2, none⟩) (by show V < _; omega)).trans x2
        have z3 := (hw'.cell (p := ⟨V, 3, none⟩) (by show V < _; omega)).trans x3
        have z4 := (hw'.cell (p := ⟨V, 4, none⟩) (by show V < _; omega)).trans x4
        have z5 := (hw'.cell (p := ⟨V, 5, none⟩) (by show V < _; omega)).trans x5
        have z6 := (hw'.cell (p := ⟨V, 6, none⟩) (by show V < _; omega)).trans x6
        have e0 := (hw'.cell (p := ⟨w.heap.size, 0, none⟩) (by show w.heap.size < _; omega)).trans p0
        have e1 := (hw'.cell (p := ⟨w.heap.size, 1, none⟩) (by show w.heap.size < _; omega)).trans p1
        have e2 := (hw'.cell (p := ⟨w.heap.size, 2, none⟩) (by show w.heap.size < _; omega)).trans p2
        have e3 := (hw'.cell (p := ⟨w.heap.size, 3, none⟩) (by show w.heap.size < _; omega)).trans p3
        have e4 := (hw'.cell (p := ⟨w.heap.size, 4, none⟩) (by show w.heap.size < _; omega)).trans p4
        have e5 := (hw'.cell (p := ⟨w.heap.size, 5, none⟩) (by show w.heap.size < _; omega)).trans p5
        go_simp
        first
          | (go_at_call 52; refine (l8count_any s (some ⟨B, 0, none⟩) 4 cl y n cy L _ (by omega) HCN.out (HLR.out _ hw')).mono ?_; rintro e w1 ⟨rfl, hb1⟩; exact ⟨rfl, hw'.trans (hb1.mono hw'.size)⟩)
          | (go_at_call 101; refine (l8last_any s (some ⟨B, 0, none⟩) cl y n cy L p _ HCN.out (HLR.out _ hw')).mono ?_; rintro e w1 ⟨rfl, hb1⟩; exact ⟨by rw [t1], hw'.trans (hb1.mono hw'.size)⟩)
          | exact rfl)
       simp only [Act.put, List.setIfInBounds_toArray, List.set_cons_zero, List.set_cons_succ]
       go_big_quiet_on))
  refine wpQuiet_nil ?_
  intro w2 hw2
  have HW2 : Hid (Below W0.heap.size W0 w2) := hw2
  have q2 := (hw2.cell (p := ⟨w.heap.size, 2, none⟩) l1).trans p2
  simp only [List.getElem?_toArray, List.getElem?_cons_zero, List.getElem?_cons_succ] at q2
  rw [HH.out] at q2
  clear hw2 t0 t0' t1
  go_upto_region 4 with fail
  have BW := HBB.out _ HW2.out
  have lq := (HQ.out).below BW
  have tq := (HT.out).below BW
  have sv := Sits.below HS0.out HW2.out l0
  have sp := Sits.below HS1.out HW2.out l1
  have HLQ : Hid (LQ base w2 B 4 A C L) := lq
  have HTQ : Hid (TQ base w2 y n cy tn B 4 A) := tq
  have HSV : Hid (Sits w2 V (shCells s (some ⟨B, 0, none⟩) 4 cl y n cy) 29) := sv
  have HBW : Hid (Below w.heap.size w w2) := BW
  have z5 := sv.cell 5
  have r0 := sp.cell 0
  have r1 := sp.cell 1
  have r2 := sp.cell 2
  have r3 := sp.cell 3
  have r4 := sp.cell 4
  have r5 := sp.cell 5
  have at0 := (lq.at h4).1
  have lB := lq.lt
  have lV := sv.lt
  have lP := sp.lt
  have po := lq.own h h4
  have HPO : Hid (PO base w2 (A h) (L h).n (C h) (L h).f) := po
  have hnh : (L h).n ≤ 1000000 := Nat.le_trans (cntF_le L h4) HCN'.out
  have h4i : (h : Int) < 4 := by omega
  have hbs : base ≤ w2.heap.size := by omega
  have fB := lq.frozen
  clear lq tq sv sp BW x0 x1 x2 x3 x4 x5 x6 p0 p1 p2 p3 p4 p5 q2 HS0 HS1 po
  have HOB : Hid (∀ g, A h = some g → g.block ≠ B) := (HLQ.out).off h h4
  go_cut [5] from 25 (fun s5 wx => s5 = .int .i64 (h : Int) ∧ ∃ (x' : Option Addr) (c' : Nat), LQ base wx B 4 (fun i => if i = h then x' else A i) (fun i => if i = h then c' else C i) (fun i => if i = h then ⟨(L h).n + 1, fun k => if k = (L h).n then p else (L h).f k, (L h).sh, (L h).cd⟩ else L i) ∧ TQ base wx y n cy tn B 4 (fun i => if i = h then x' else A i) ∧ Sits wx V (shCells s (some ⟨B, 0, none⟩) 4 cl y n cy) 29 ∧ (∀ i, i < 4 → ∀ a, (if i = h then x' else A i) = some a → a.block ≠ V) ∧ Below base w2 wx)
  case first =>
    go_region_law (refine step_append_pk1 (by rfl) _ _ (by rfl) base (A h) (L h).n (C h) (L h).f (by rfl) (PO.below HPO.out (((Below.refl _ _).alloc (Nat.le_refl _) _).drew)) w2.heap.size p (by rfl) (pk_at _ _ _) (by omega) (by simp; omega) ?_; intro g cap' w4 hbo hgrow hat hlt4; have eB : w4.heap[B]? = w2.heap[B]? := (hgrow.block B (by simp; omega) (fun e => by cases hA : A h with | none => rw [hA] at e; cases e | some a => rw [hA] at e; simp [Value.ownBlock] at e; exact HOB.out a hA e.symm)).trans (Below.heap_alloc _ _ B lB); have eV : w4.heap[V]? = w2.heap[V]? := (hgrow.block V (by simp; omega) (fun e => by cases hA : A h with | none => rw [hA] at e; cases e | some a => rw [hA] at e; simp [Value.ownBlock] at e; exact HVA.out h h4 a hA e.symm)).trans (Below.heap_alloc _ _ V lV); have d5 := (cell_of_block eV 5).trans z5; have d0 := (cell_of_block eB (h * 9)).trans at0; have d1 := (frozen_of_block eB (h * 9)).trans (fB (h * 9)))
    all_goals
      go_wp2_with fail
      go_meet
      case rel =>
        exact ⟨rfl, some ⟨g, 0, none⟩, cap', push_step h4 HLQ.out HTQ.out HSV.out HVA.out hVB hbs hbo hgrow hat⟩
  case rest =>
    obtain ⟨rfl, x', c', lq, tq, sv, hva, hb⟩ := hcut
    obtain ⟨A', hA'⟩ : ∃ A', (fun i => if i = h then x' else A i) = A' := ⟨_, rfl⟩
    obtain ⟨C', hC'⟩ : ∃ C', (fun i => if i = h then c' else C i) = C' := ⟨_, rfl⟩
    obtain ⟨L', hL'⟩ : ∃ L', (fun i => if i = h then (⟨(L h).n + 1, fun k => if k = (L h).n then p else (L h).f k, (L h).sh, (L h).cd⟩ : Ln) else L i) = L' := ⟨_, rfl⟩
    have HVA' : Hid (∀ i, i < 4 → ∀ a, A' i = some a → a.block ≠ V) := by rw [← hA']; exact hva
    rw [hA', hC', hL'] at lq
    rw [hA'] at tq
    have HL' : Hid ((fun i => if i = h then (⟨(L h).n + 1, fun k => if k = (L h).n then p else (L h).f k, (L h).sh, (L h).cd⟩ : Ln) else L i) = L') := hL'
    have LQ1 : Hid (LQ base wc B 4 A' C' L') := lq
    have TQ1 : Hid (TQ base wc y n cy tn B 4 A') := tq
    have SV1 : Hid (Sits wc V (shCells s (some ⟨B, 0, none⟩) 4 cl y n cy) 29) := sv
    have HB1 : Hid (Below base w wc) := ((HBW.out).mono (by omega)).trans hb
    have HR1 : Hid (Row .i64 wc y n tn) := tq.1.row
    have z6 := sv.cell 6
    have lV1 := sv.lt
    have hbc : base ≤ wc.heap.size := by have := hb.size; omega
    clear lq tq sv hva hb hA' hC' hL' HLQ HTQ HSV HPO HOB at0 z5 r0 r1 r2 r3 r4 r5 lB lV lP fB
    by_cases hz : (L h).n = 0
    case neg =>
      have hd : hasB tn n (h : Int) = true := by rw [HTU.out]; simpa using hz
      have HEND : Hid (∀ W, LQ base W B 4 A' C' L' → LQ base W B 4 A' C' (shpL s L p h)) := fun W hW => by
        have : L' = shpL s L p h := by
          rw [← HL'.out]; funext i; unfold shpL shpLn; rw [if_neg hz]
        rw [← this]; exact hW
      have HTS : Hid (shpT L ((List.range n).map tn) h = (List.range n).map tn) := by show _ = _; unfold shpT; rw [if_neg hz]
      clear hz
      go_wp2_with (go_at_call 55; refine (l7has_any y n cy tn (h : Int) _ (by have := HN.out; omega) HR1.out).mono ?_; rintro e w9 ⟨rfl, hw9⟩; replace hw9 := hw9.symm; subst hw9; rw [hd])
      go_ret
      exact .inr ⟨HE.out, rfl, A', C', y, n, cy, tn, SV1.out, HEND.out _ LQ1.out, (TQ1.out).1, (HTS.out).symm, Nat.le_succ _, HB1.out⟩
    case pos =>
      have hd : hasB tn n (h : Int) = false := by rw [HTU.out]; simpa using hz
      have HTS : Hid (shpT L ((List.range n).map tn) h = (List.range n).map tn ++ [(h : Int)]) := by show _ = _; unfold shpT; rw [if_pos hz]
      have HL2 : Hid ((fun i => if i = h then (⟨(L' h).n, (L' h).f, s.qt, (L' h).cd⟩ : Ln) else L' i) = shpL s L p h) := by
        show _ = _
        funext i
        unfold shpL shpLn
        by_cases e : i = h
        · rw [if_pos e, if_pos e, if_pos hz, ← HL'.out]; simp
        · rw [if_neg e, if_neg e, ← HL'.out]; simp [e]
      clear hz
      have HRW : Hid ((wc.alloc (.cells #[.int .i64 (h : Int)] 3)).cell? ⟨wc.heap.size, 0, none⟩ = some (.int .i64 (h : Int))) := (Sits.new wc #[.int .i64 (h : Int)] 3).cell 0
      have hni : n ≤ 1000 := HN.out
      go_upto_region 7 with (first
        | (go_at_call 55; refine (l7has_any y n cy tn (h : Int) _ (by have := HN.out; omega) HR1.out).mono ?_; rintro e w9 ⟨rfl, hw9⟩; replace hw9 := hw9.symm; subst hw9; rw [hd])
        | (at_builtin; refine wpList_append_in1 rfl _ _ rfl base y n cy tn rfl (JO.alloc (TQ1.out).1 _) wc.heap.size (h : Int) rfl HRW.out (by omega) (by simp; omega) ?_; intro g6 cy' w6 hj6 hgr hat6 hlt6; obtain ⟨hk6, hy6⟩ := turn_grown hgr hat6; have e6 := hk6 V lV1 (fun a ha e => HVY.out a ha e.symm); have d6 := (cell_of_block e6 6).trans z6; have f6 := (frozen_of_block e6 6).trans (Sits.frozen SV1.out 6); have HK6 : Hid (∀ k, k < wc.heap.size → (∀ a, y = some a → k ≠ a.block) → w6.heap[k]? = wc.heap[k]?) := hk6; have HJ6 : Hid (JO base w6 (some ⟨g6, 0, none⟩) (n + 1) cy' (fun i => if i = n then (h : Int) else tn i)) := hj6; have HY6 : Hid ((∃ b, y = some b ∧ b.block = g6) ∨ wc.heap.size ≤ g6) := hy6; have HB6 : Hid (Below base wc w6) := Below.grown (B := base) (a := wc) ((Below.refl _ wc).alloc hbc _) hgr (by simp; omega) (fun j e => (JO.own_lt (TQ1.out).1 j e).1); clear hgr hk6 hj6 hy6 e6 hat6 hlt6))
      obtain ⟨y', hy'⟩ : ∃ y', (some ⟨g6, 0, none⟩ : Option Addr) = y' := ⟨_, rfl⟩
      replace HY6 : Hid (∀ a, y' = some a → (∃ b, y = some b ∧ b.block = a.block) ∨ wc.heap.size ≤ a.block) := fun a ha => by
        rw [← hy'] at ha; cases ha; exact HY6.out
      rw [hy'] at HJ6 ⊢
      clear hy'
      obtain ⟨v7, hv7⟩ : ∃ v, w6.setCell ⟨V, 6, none⟩ (.slice y' (n + 1) cy') = v := ⟨_, rfl⟩
      have sv7 : Sits v7 V (shCells s (some ⟨B, 0, none⟩) 4 cl y' (n + 1) cy') 29 := by
        rw [← hv7]
        exact (show Sits w6 V (shCells s (some ⟨B, 0, none⟩) 4 cl y n cy) 29 from (HK6.out V lV1 (fun a ha e => HVY.out a ha e.symm)).trans SV1.out).set 6 _
      have hyV : ∀ a, y' = some a → a.block ≠ V := fun a ha e => by
        rcases HY6.out a ha with ⟨b, hb, e2⟩ | e2
        · exact HVY.out b hb (by omega)
        · omega
      have jv7 : JO base v7 y' (n + 1) cy' (fun i => if i = n then (h : Int) else tn i) := by rw [← hv7]; exact (HJ6.out).keep (set_keep _ _ hyV)
      have lq7 : LQ base v7 B 4 A' C' L' := by
        rw [← hv7]
        refine (LQ1.out).keep ?_ fun i hi a ha => ?_
        · rw [Below.heap_setCell _ _ _ B (by show B ≠ V; omega)]
          exact HK6.out B (LQ1.out).lt fun a ha e => (TQ1.out).2.1 a ha e.symm
        · rw [Below.heap_setCell _ _ _ a.block (HVA'.out i hi a ha)]
          exact HK6.out a.block (((LQ1.out).own i hi).under a ha) fun b hb e => (TQ1.out).2.2 i hi a b ha hb e
      have bv7 : Below base w v7 := by rw [← hv7]; exact ((HB1.out).trans HB6.out).setCell hbV _
      have hyB : ∀ a, y' = some a → a.block ≠ B := fun a ha e => by
        rcases HY6.out a ha with ⟨b, hb, e2⟩ | e2
        · exact (TQ1.out).2.1 b hb (by omega)
        · have := (LQ1.out).lt; omega
      rw [hv7]
      have HSV7 : Hid (Sits v7 V (shCells s (some ⟨B, 0, none⟩) 4 cl y' (n + 1) cy') 29) := sv7
      have HJ7 : Hid (JO base v7 y' (n + 1) cy' (fun i => if i = n then (h : Int) else tn i)) := jv7
      have HLQ7 : Hid (LQ base v7 B 4 A' C' L') := lq7
      have HB7 : Hid (Below base w v7) := bv7
      have HYB : Hid (∀ a, y' = some a → a.block ≠ B) := hyB
      have a3 := sv7.cell 3
      have a5 := sv7.cell 5
      have ab := (lq7.at h4).2.1
      have af := lq7.frozen
      clear hv7 sv7 hyV jv7 lq7 bv7 hyB d6 f6 z6 HK6 HJ6 HY6 HB6 LQ1 TQ1 SV1 HB1 HR1 HRW HVA'
      go_region
      all_goals go_wp2
      all_goals
        go_ret
        refine .inr ⟨HE.out, rfl, A', C', y', n + 1, cy', fun i => if i = n then (h : Int) else tn i, Sits.drew' (Sits.other HSV7.out (by omega) _), ?_, JO.drew ((HJ7.out).keep (set_keep _ _ HYB.out)), by rw [HTS.out, map_snoc], Nat.le_refl _, ((HB7.out).setCell (HLQ7.out).lo _).drew⟩
        rw [← HL2.out]
        exact LQ.drew ((HLQ7.out).short h4 s.qt)

end Go.Proofs.Ytmjggolllijamaa
