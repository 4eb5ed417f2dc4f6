/-
  ONE MORE BEHIND ALL: the program's Push.
-/
import Derived.Test.YtkmiijgoinpndaaPushQ
namespace Go.Proofs.Ytkmiijgoinpndaa
open Go.RowKit
set_option linter.unusedVariables false

@[reducible] def SPush (s : Nat) (a : Option Addr) (n c : Nat) (lim : Int) (p : Pk) (w' : World) : Prop := (w'.cell? ⟨s, 0, none⟩ = some (.slice a n c) ∧ w'.cell? ⟨s, 1, none⟩ = some (.int .i64 lim)) ∧ (w'.cell? ⟨s + 1, 0, none⟩ = some (.int .i64 p.id) ∧ w'.cell? ⟨s + 1, 1, none⟩ = some (.int .i64 p.flow) ∧ w'.cell? ⟨s + 1, 2, none⟩ = some (.int .i64 p.host) ∧ w'.cell? ⟨s + 1, 3, none⟩ = some (.int .i64 p.size) ∧ w'.cell? ⟨s + 1, 4, none⟩ = some (.int .i64 p.tm) ∧ w'.cell? ⟨s + 1, 5, none⟩ = some (.int .i64 p.ecn))
theorem push_pk {W : World} {B : Nat} {p : Pk} {t : TypeId} (h : Lies W B (pkCells p) t) : W.cell? ⟨B, 0, none⟩ = some (.int .i64 p.id) ∧ W.cell? ⟨B, 1, none⟩ = some (.int .i64 p.flow) ∧ W.cell? ⟨B, 2, none⟩ = some (.int .i64 p.host) ∧ W.cell? ⟨B, 3, none⟩ = some (.int .i64 p.size) ∧ W.cell? ⟨B, 4, none⟩ = some (.int .i64 p.tm) ∧ W.cell? ⟨B, 5, none⟩ = some (.int .i64 p.ecn) := by
  have := h.pk
  simpa [PAt] using this
theorem lies_new' {W : World} {vs : Array Value} {t : TypeId} {V : Nat} (h : W.heap.size = V) : Lies (W.alloc (.cells vs t)) V vs t := by subst h; exact Lies.new _ _ _
theorem lies_drew {W : World} {vs : Array Value} {t : TypeId} {V : Nat} (h : Lies W V vs t) : Lies W.drew V vs t := h
theorem own_ne_lo {base : Nat} {w : World} {x : Option Addr} {m cap : Nat} {f : Nat → Pk} (h : PO base w x m cap f) {V : Nat} (hV : V < base) : some V ≠ (Value.slice x m cap).ownBlock := fun e => by have := (h.own_lt _ e.symm).1; omega
theorem own_ne_hi {base : Nat} {w : World} {x : Option Addr} {m cap : Nat} {f : Nat → Pk} (h : PO base w x m cap f) {V : Nat} (hV : w.heap.size ≤ V) : some V ≠ (Value.slice x m cap).ownBlock := fun e => by have := (h.own_lt _ e.symm).2; omega
theorem po_drew {base : Nat} {w : World} {x : Option Addr} {m cap : Nat} {f : Nat → Pk} (h : PO base w x m cap f) : PO base w.drew x m cap f := h
theorem po_alloc {base : Nat} {w : World} {x : Option Addr} {m cap : Nat} {f : Nat → Pk} (h : PO base w x m cap f) (o : Obj) : PO base (w.alloc o) x m cap f := h.below ((Below.refl _ _).alloc (Nat.le_refl _) _)

@[reducible] def SF (s : Nat) (a : Option Addr) (n c : Nat) (lim : Int) (w' : World) : Prop := w'.cell? ⟨s, 0, none⟩ = some (.slice a n c) ∧ w'.cell? ⟨s, 1, none⟩ = some (.int .i64 lim)
theorem SF.set {s : Nat} {a : Option Addr} {n c : Nat} {lim : Int} {w' : World} (h : SF s a n c lim w') (B o : Nat) (v : Value) (h1 : B ≠ s) : SF s a n c lim (w'.setCell ⟨B, o, none⟩ v) := by
  obtain ⟨a0, a1⟩ := h
  exact ⟨(World.cell?_setCell_far w' ⟨B, o, none⟩ ⟨s, 0, none⟩ v h1).trans a0, (World.cell?_setCell_far w' ⟨B, o, none⟩ ⟨s, 1, none⟩ v h1).trans a1⟩
theorem PR.drew' {n₀ : Nat} {w : World} {a : Option Addr} {n : Nat} {f : Nat → Pk} (h : PR n₀ w a n f) : PR n₀ w.drew a n f := h
theorem Lies.set1 {W : World} {V : Nat} {a b : Value} {t : TypeId} (h : Lies W V #[a, b] t) (b' : Value) : Lies (W.setCell ⟨V, 1, none⟩ b') V #[a, b'] t := by
  have h' : W.heap[V]? = some (.cells #[a, b] t) := h
  show (W.heap.modify V _)[V]? = _
  rw [Array.getElem?_modify]
  simp [h']

set_option maxRecDepth 100000 in
set_option maxHeartbeats 4000000 in
theorem ipush_any (a : Option Addr) (n c : Nat) (f : Nat → Pk) (lim : Int) (p : Pk) (w : World) (hn : n ≤ 1048576) (hnc : n ≤ c) (hP : PR w.heap.size w a n f) :
    Calls Try.prog 5 #[fiVal a n c lim, p.val] w fun e w' => ∃ (x : Option Addr) (cap : Nat), e = .returned (.tuple #[fiVal x (pushN f n lim p) cap (pushL f n lim p), .bool (pushB f n lim p)]) ∧ PO w.heap.size w' x (pushN f n lim p) cap (pushF f n p) ∧ Below w.heap.size w w' := by
  have HP : Hid (PR w.heap.size w a n f) := hP
  clear hP
  obtain ⟨p0, p1, p2, p3, p4, p5⟩ := p
  simp only [fiVal, Pk.val]
  obtain ⟨W0, hW0⟩ : ∃ W0, ((w.alloc (.cells #[.slice a n c, .int .i64 lim] 25)).alloc (.cells #[.int .i64 p0, .int .i64 p1, .int .i64 p2, .int .i64 p3, .int .i64 p4, .int .i64 p5] 27)).alloc (.cells #[.slice none 0 0, .int .i64 0] 25) = W0 := ⟨_, rfl⟩
  have B0 : Below w.heap.size w W0 := by rw [← hW0]; exact (((Below.refl _ w).alloc (Nat.le_refl _) _).alloc (by simp) _).alloc (by simp; omega) _
  have lF : Lies W0 w.heap.size #[.slice a n c, .int .i64 lim] 25 := by rw [← hW0]; exact ((Lies.new _ _ _).alloc _).alloc _
  have lP : Lies W0 (w.heap.size + 1) (pkCells ⟨p0, p1, p2, p3, p4, p5⟩) 27 := by rw [← hW0]; have := (Lies.new (w.alloc (.cells #[.slice a n c, .int .i64 lim] 25)) (pkCells ⟨p0, p1, p2, p3, p4, p5⟩) 27).alloc (.cells #[.slice none 0 0, .int .i64 0] 25); simpa using this
  have lR : Lies W0 (w.heap.size + 1 + 1) #[.slice none 0 0, .int .i64 0] 25 := by rw [← hW0]; have := Lies.new ((w.alloc (.cells #[.slice a n c, .int .i64 lim] 25)).alloc (.cells (pkCells ⟨p0, p1, p2, p3, p4, p5⟩) 27)) #[.slice none 0 0, .int .i64 0] 25; simpa using this
  have H0 : Hid (PR W0.heap.size W0 a n f) := (PR.below HP.out B0).mono B0.size
  obtain ⟨xf0, xf1⟩ := fi2_cells lF
  obtain ⟨xp0, xp1, xp2, xp3, xp4, xp5⟩ := lP.pk
  simp only [Nat.zero_add] at xp1 xp2 xp3 xp4 xp5
  cases hf : fifoB f n lim
  case false =>
    have ho : pushOk f n lim ⟨p0, p1, p2, p3, p4, p5⟩ = false := by unfold pushOk; rw [hf]; rfl
    have hB : pushB f n lim ⟨p0, p1, p2, p3, p4, p5⟩ = false := by unfold pushB; rw [ho]; rfl
    have hN : pushN f n lim ⟨p0, p1, p2, p3, p4, p5⟩ = 0 := by unfold pushN; rw [ho]; rfl
    have hL : pushL f n lim ⟨p0, p1, p2, p3, p4, p5⟩ = 0 := by unfold pushL; rw [ho]; rfl
    rw [hB, hN, hL]
    clear hB hN hL ho
    go_enter Try.func5, Try.ntmps5
    go_wp2_with ((go_at_call 10; refine (ififoOk_any a n c f lim _ (by omega) hnc H0.out).mono ?_; rintro e w1 ⟨rfl, b1⟩; rw [hf]; obtain ⟨r0, r1⟩ := fi2_cells (lR.below b1 lR.lt); have fr := (lR.below b1 lR.lt).frozen; obtain ⟨q0, q1, q2, q3, q4, q5⟩ := (lP.below b1 lP.lt).pk; simp only [Nat.zero_add] at q1 q2 q3 q4 q5))
    refine bodyPost_ret (v := .tuple #[.agg #[.slice none 0 0, .int .i64 0], .bool false]) (by simp [results, Try.results5, go_sem, r0, r1]) rfl ⟨none, 0, rfl, PO.nil _ _ _, ?_⟩
    have B1 := B0.trans (b1.mono B0.size)
    exact (B1.setCell (by show w.heap.size ≤ w.heap.size + 1 + 1; omega) _).setCell (by show w.heap.size ≤ w.heap.size + 1 + 1; omega) _
  case true =>
  cases hg : (Pk.mk p0 p1 p2 p3 p4 p5).good
  case false =>
    have ho : pushOk f n lim ⟨p0, p1, p2, p3, p4, p5⟩ = false := by unfold pushOk; rw [hg]; simp
    have hB : pushB f n lim ⟨p0, p1, p2, p3, p4, p5⟩ = false := by unfold pushB; rw [ho]; rfl
    have hN : pushN f n lim ⟨p0, p1, p2, p3, p4, p5⟩ = 0 := by unfold pushN; rw [ho]; rfl
    have hL : pushL f n lim ⟨p0, p1, p2, p3, p4, p5⟩ = 0 := by unfold pushL; rw [ho]; rfl
    rw [hB, hN, hL]
    clear hB hN hL ho
    go_enter Try.func5, Try.ntmps5
    go_wp2_with (first | (go_at_call 10; refine (ififoOk_any a n c f lim _ (by omega) hnc H0.out).mono ?_; rintro e w1 ⟨rfl, b1⟩; rw [hf]; obtain ⟨r0, r1⟩ := fi2_cells (lR.below b1 lR.lt); have fr := (lR.below b1 lR.lt).frozen; obtain ⟨q0, q1, q2, q3, q4, q5⟩ := (lP.below b1 lP.lt).pk; simp only [Nat.zero_add] at q1 q2 q3 q4 q5) | (go_at_call 12; refine (ipktOk_any ⟨p0, p1, p2, p3, p4, p5⟩ _).mono ?_; rintro e w2 ⟨rfl, b2⟩; rw [hg]; have lR2 := (lR.below b1 lR.lt).below b2.1 (lR.below b1 lR.lt).lt; obtain ⟨s0, s1⟩ := fi2_cells lR2; have fs := lR2.frozen))
    refine bodyPost_ret (v := .tuple #[.agg #[.slice none 0 0, .int .i64 0], .bool false]) (by simp [results, Try.results5, go_sem, s0, s1]) rfl ⟨none, 0, rfl, PO.nil _ _ _, ?_⟩
    have B1 := B0.trans (b1.mono B0.size)
    have B2 := B1.trans (b2.1.mono B1.size)
    exact (B2.setCell (by show w.heap.size ≤ w.heap.size + 1 + 1; omega) _).setCell (by show w.heap.size ≤ w.heap.size + 1 + 1; omega) _
  case true =>
    have hn40 : n ≤ 40 := by have := fifo_lim hf; omega
    have ho : pushOk f n lim ⟨p0, p1, p2, p3, p4, p5⟩ = true := by unfold pushOk; rw [hf, hg]; rfl
    have hL : pushL f n lim ⟨p0, p1, p2, p3, p4, p5⟩ = lim := by unfold pushL; rw [ho]; rfl
    obtain ⟨Np, hN⟩ : ∃ N, pushN f n lim ⟨p0, p1, p2, p3, p4, p5⟩ = N := ⟨_, rfl⟩
    obtain ⟨okp, hB⟩ : ∃ b, pushB f n lim ⟨p0, p1, p2, p3, p4, p5⟩ = b := ⟨_, rfl⟩
    rw [hL, hN, hB]
    have HNp : Hid (pushN f n lim ⟨p0, p1, p2, p3, p4, p5⟩ = Np) := hN
    have HBp : Hid (pushB f n lim ⟨p0, p1, p2, p3, p4, p5⟩ = okp) := hB
    clear hN hB
    obtain ⟨g, hgf⟩ : ∃ g, pushF f n ⟨p0, p1, p2, p3, p4, p5⟩ = g := ⟨_, rfl⟩
    have HGF : Hid (pushF f n ⟨p0, p1, p2, p3, p4, p5⟩ = g) := hgf
    rw [hgf]
    go_enter Try.func5, Try.ntmps5
    go_upto_region 3 with (first | (go_at_call 10; refine (ififoOk_any a n c f lim _ (by omega) hnc H0.out).mono ?_; rintro e w1 ⟨rfl, b1⟩; rw [hf]; have lF1 := lF.below b1 lF.lt; have lR1 := lR.below b1 lR.lt; have lP1 := lP.below b1 lP.lt; obtain ⟨q0, q1, q2, q3, q4, q5⟩ := lP1.pk; simp only [Nat.zero_add] at q1 q2 q3 q4 q5) | (go_at_call 12; refine (ipktOk_any ⟨p0, p1, p2, p3, p4, p5⟩ _).mono ?_; rintro e w2 ⟨rfl, b2⟩; rw [hg]; have lF2 := lF1.below b2.1 lF1.lt; have lR2 := lR1.below b2.1 lR1.lt; have lP2 := lP1.below b2.1 lP1.lt; have B2 := (B0.trans (b1.mono B0.size)).trans (b2.1.mono (Nat.le_trans B0.size b1.size))))
    have H2 : Hid (PR w2.heap.size w2 a n f) := (PR.below HP.out B2).mono B2.size
    have hlt2 : w.heap.size + 1 + 1 < w2.heap.size := lR2.lt
    have hSB : ∀ W, Below w2.heap.size w2 W → SPush w.heap.size a n c lim ⟨p0, p1, p2, p3, p4, p5⟩ W := fun W hW => ⟨fi2_cells (lF2.below hW lF2.lt), push_pk (lP2.below hW lP2.lt)⟩
    clear q0 q1 q2 q3 q4 q5 xf0 xf1 xp0 xp1 xp2 xp3 xp4 xp5 hW0 lF1 lR1 lP1 lF lR lP H0
    go_cut [6] from 16 (fun s wx => ∃ (V g4 c4 : Nat), s = .pointer (some ⟨V, 0, none⟩) ∧ Lies wx V #[.slice (some ⟨g4, 0, none⟩) (n + 1) c4, .int .i64 lim] 25 ∧ PO w2.heap.size wx (some ⟨g4, 0, none⟩) (n + 1) c4 g ∧ Below w2.heap.size w2 wx)
    case first =>
      go_region_held3 (fun w' => SPush w.heap.size a n c lim ⟨p0, p1, p2, p3, p4, p5⟩ w') (first | exact hSB _ (by (repeat first | (with_reducible exact Below.refl _ _) | (with_reducible assumption) | (with_reducible apply Below.drew) | (with_reducible refine Below.setCell ?_ (by first | omega | (simp; done) | (simp; omega)) _) | (with_reducible refine Below.alloc ?_ (by first | omega | (simp; done) | (simp; omega)) _))) | fail)
        (first | (go_at_call 20; refine (copied_any a n c f _ ((PR.below H2.out (by (repeat first | (with_reducible exact Below.refl _ _) | (with_reducible assumption) | (with_reducible apply Below.drew) | (with_reducible refine Below.setCell ?_ (by first | omega | (simp; done) | (simp; omega)) _) | (with_reducible refine Below.alloc ?_ (by first | omega | (simp; done) | (simp; omega)) _)))).mono (by first | omega | (simp; done) | (simp; omega))) (by omega)).mono ?_; rintro e w3 ⟨x3, c3, rfl, hpo', b3⟩; have hb3 : Below w2.heap.size w2 w3 := Below.trans (by (repeat first | (with_reducible exact Below.refl _ _) | (with_reducible assumption) | (with_reducible apply Below.drew) | (with_reducible refine Below.setCell ?_ (by first | omega | (simp; done) | (simp; omega)) _) | (with_reducible refine Below.alloc ?_ (by first | omega | (simp; done) | (simp; omega)) _))) (b3.mono (by first | omega | (simp; done) | (simp; omega))); have hs3 := b3.size; simp at hs3; have hpo : PO w2.heap.size w3 x3 n c3 f := hpo'.mono (by first | omega | (simp; done) | (simp; omega))) | (refine step_append_pk1 (by rfl) _ _ (by rfl) w2.heap.size x3 n c3 f (by rfl) (by (repeat first | (with_reducible exact hpo) | (with_reducible refine po_drew ?_) | (with_reducible refine po_alloc ?_ _))) _ ⟨p0, p1, p2, p3, p4, p5⟩ (by rfl) (Lies.pk (t := 27) (by (repeat first | (with_reducible refine lies_new' ?_; (simp; done)) | (with_reducible refine Lies.alloc ?_ _) | (with_reducible refine lies_drew ?_) | (with_reducible refine Lies.below ?_ b3 (by first | omega | (simp; done) | (simp; omega)))))) (by omega) (by first | omega | (simp; done) | (simp; omega)) ?_; intro g4 c4 w4 hpo4 hgr4 hat4 hlt4; have hb4 : Below w2.heap.size w2 w4 := Below.grown (B := w2.heap.size) (a := w2) (by (repeat first | (with_reducible exact Below.refl _ _) | (with_reducible assumption) | (with_reducible apply Below.drew) | (with_reducible refine Below.setCell ?_ (by first | omega | (simp; done) | (simp; omega)) _) | (with_reducible refine Below.alloc ?_ (by first | omega | (simp; done) | (simp; omega)) _))) hgr4 (by first | omega | (simp; done) | (simp; omega)) (fun k e => (hpo.own_lt k e).1); have hs4 := hb4.size; (first | (have vz : Lies w4 (w2.heap.size) #[.slice none 0 0, .int .i64 0] 25 := Lies.kept ((Lies.below (lies_drew (Lies.new w2 #[.slice none 0 0, .int .i64 0] 25)) b3 (Lies.lt (Lies.new w2 #[.slice none 0 0, .int .i64 0] 25))).alloc _) hgr4 (own_ne_lo hpo' (Lies.lt (Lies.new w2 #[.slice none 0 0, .int .i64 0] 25))); obtain ⟨z0, z1⟩ := fi2_cells vz; have fz := vz.frozen) | (have vz : Lies w4 (w2.heap.size) #[.slice none 0 0, .int .i64 0] 25 := Lies.kept (Lies.below (lies_drew ((Lies.new w2 #[.slice none 0 0, .int .i64 0] 25).alloc _)) b3 (Lies.lt ((Lies.new w2 #[.slice none 0 0, .int .i64 0] 25).alloc _))) hgr4 (own_ne_lo hpo' (Lies.lt ((Lies.new w2 #[.slice none 0 0, .int .i64 0] 25).alloc _))); obtain ⟨z0, z1⟩ := fi2_cells vz; have fz := vz.frozen) | (have vz : Lies w4 (w3.heap.size) #[.slice none 0 0, .int .i64 0] 25 := Lies.kept ((Lies.new w3 #[.slice none 0 0, .int .i64 0] 25).alloc _) hgr4 (own_ne_hi hpo' (Nat.le_refl _)); obtain ⟨z0, z1⟩ := fi2_cells vz; have fz := vz.frozen) | (have vz : Lies w4 (w3.heap.size + 1) #[.slice none 0 0, .int .i64 0] 25 := Lies.kept (lies_new' (World.size_alloc _ _)) hgr4 (own_ne_hi hpo' (Nat.le_succ _)); obtain ⟨z0, z1⟩ := fi2_cells vz; have fz := vz.frozen) | (have vz : Lies w4 (w2.heap.size + 1) #[.slice none 0 0, .int .i64 0] 25 := Lies.kept (Lies.below (lies_drew (lies_new' (World.size_alloc _ _))) b3 (Lies.lt (lies_new' (vs := #[.slice none 0 0, .int .i64 0]) (t := 25) (World.size_alloc _ _)))) hgr4 (own_ne_lo hpo' (Lies.lt (lies_new' (vs := #[.slice none 0 0, .int .i64 0]) (t := 25) (World.size_alloc _ _)))); obtain ⟨z0, z1⟩ := fi2_cells vz; have fz := vz.frozen) | (have vz : Lies w4 (w3.heap.size) #[.slice none 0 0, .int .i64 0] 25 := Lies.kept ((Lies.new w3 #[.slice none 0 0, .int .i64 0] 25)) hgr4 (own_ne_hi hpo' (Nat.le_refl _)); obtain ⟨z0, z1⟩ := fi2_cells vz; have fz := vz.frozen) | skip)))
      all_goals
        (go_wp2_with fail)
        go_meet
        case rel =>
          have hpo5 : PO w2.heap.size w4 (some ⟨g4, 0, none⟩) (n + 1) c4 g := by rw [← HGF.out]; exact hpo4
          have hat5 := hat4.imp_left (fun e => hpo'.own_lt _ e)
          simp at hat5
          refine ⟨_, g4, c4, rfl, ?_, ?_, ?_⟩
          · first
              | (with_reducible exact lies_new' rfl)
              | (with_reducible exact (vz.set0 _).set1 _)
          · first
              | (with_reducible exact po_alloc hpo5 _)
              | (with_reducible refine PO.set_ne (PO.set_ne hpo5 ?_ _ _) ?_ _ _ <;> omega)
          · repeat first | (with_reducible exact hb4) | (with_reducible refine Below.setCell ?_ (by first | omega | (simp; done) | (simp; omega)) _) | (with_reducible refine Below.alloc ?_ (by first | omega | (simp; done) | (simp; omega)) _)
    case rest =>
      obtain ⟨V3, g4, c4, rfl, lO5, po5, b35⟩ := hcut
      have lF5 := lF2.below b35 lF2.lt
      have lR5 := lR2.below b35 lR2.lt
      have H5 : Hid (PR wc.heap.size wc (some ⟨g4, 0, none⟩) (n + 1) g) := po5.zi.pr
      have hc4 := po5.cap
      clear hSB
      obtain ⟨v0, v1⟩ := fi2_cells lO5
      cases hq : fifoB g (n + 1) lim
      case true =>
        obtain rfl : Np = n + 1 := by rw [← HNp.out]; unfold pushN; rw [ho, HGF.out, hq]; rfl
        obtain rfl : okp = true := by rw [← HBp.out]; unfold pushB; rw [ho, HGF.out, hq]; rfl
        clear HNp HBp
        go_wp2_with (go_at_call 10; refine (ififoOk_any _ (n + 1) c4 g lim _ (by omega) hc4 H5.out).mono ?_; rintro e w6 ⟨rfl, b6⟩; rw [hq]; obtain ⟨o0, o1⟩ := fi2_cells (lO5.below b6 lO5.lt); obtain ⟨r0, r1⟩ := fi2_cells (lR5.below b6 lR5.lt); have fr := (lR5.below b6 lR5.lt).frozen)
        refine bodyPost_ret (v := .tuple #[.agg #[.slice (some ⟨g4, 0, none⟩) (n + 1) c4, .int .i64 lim], .bool true]) (by simp [results, Try.results5, go_sem, r0, r1]) rfl ⟨_, c4, rfl, ?_, ?_⟩
        · exact (((po5.below b6).far hlt2 _ _).far hlt2 _ _).mono B2.size
        · have B6 := (B2.trans (b35.mono B2.size)).trans (b6.mono (Nat.le_trans B2.size b35.size))
          exact (B6.setCell (by show w.heap.size ≤ w.heap.size + 1 + 1; omega) _).setCell (by show w.heap.size ≤ w.heap.size + 1 + 1; omega) _
      case false =>
        obtain rfl : n = Np := by rw [← HNp.out]; unfold pushN; rw [ho, HGF.out, hq]; rfl
        obtain rfl : okp = false := by rw [← HBp.out]; unfold pushB; rw [ho, HGF.out, hq]; rfl
        clear HNp HBp
        have hgf2 : ∀ i, i < n → f i = g i := fun i hi => by rw [← HGF.out]; unfold pushF; rw [if_neg (by omega)]
        have HG2 : Hid (∀ i, i < n → f i = g i) := hgf2
        clear hgf2
        go_wp2_with (go_at_call 10; refine (ififoOk_any _ (n + 1) c4 g lim _ (by omega) hc4 H5.out).mono ?_; rintro e w6 ⟨rfl, b6⟩; rw [hq]; have lF6 := lF5.below b6 lF5.lt; have lR6 := lR5.below b6 lR5.lt; have hS1 : SF w.heap.size a n c lim w6 := fi2_cells lF6)
        have B6 := (B2.trans (b35.mono B2.size)).trans (b6.mono (Nat.le_trans B2.size b35.size))
        have hlt6 : w.heap.size + 1 + 1 < w6.heap.size := lR6.lt
        have hm2 : w.heap.size + 1 + 1 ≠ w.heap.size := by omega
        have H6 : Hid (PR w6.heap.size w6 a n f) := (PR.below HP.out B6).mono B6.size
        obtain ⟨xg0, xg1⟩ := fi2_cells lF6
        go_region_held3 (fun w' => w'.cell? ⟨w.heap.size, 0, none⟩ = some (.slice a n c) ∧ w'.cell? ⟨w.heap.size, 1, none⟩ = some (.int .i64 lim)) (first | (with_reducible exact hS2) | (with_reducible exact (hS2.set (w.heap.size + 1 + 1) 0 _ hm2).set (w.heap.size + 1 + 1) 1 _ hm2) | exact ⟨xg0, xg1⟩ | fail) (first | (go_at_call 20; refine (copied_any a n c f _ (PR.drew' H6.out) (by omega)).mono ?_; rintro e w7 ⟨x7, c7, rfl, hpo7, b7⟩; have lR7 := Lies.below (W := w6.drew) lR6 b7 lR6.lt; have hS2 : SF w.heap.size a n c lim w7 := fi2_cells (Lies.below (W := w6.drew) lF6 b7 lF6.lt); obtain ⟨g0, g1⟩ := hS2; have hS2 : SF w.heap.size a n c lim w7 := ⟨g0, g1⟩; obtain ⟨rr0, rr1⟩ := fi2_cells lR7; have fr2 := lR7.frozen))
        all_goals
          go_wp2
          refine bodyPost_ret (v := .tuple #[.agg #[.slice x7 n c7, .int .i64 lim], .bool false]) (by simp [results, Try.results5, go_sem, rr0, rr1]) rfl ⟨x7, c7, rfl, ?_, ?_⟩
          · exact (((hpo7.far (by show _ < w6.heap.size; omega) _ _).far (by show _ < w6.heap.size; omega) _ _).mono B6.size).congr HG2.out
          · have B7 := B6.drew.trans (b7.mono B6.size)
            exact (B7.setCell (by show w.heap.size ≤ w.heap.size + 1 + 1; omega) _).setCell (by show w.heap.size ≤ w.heap.size + 1 + 1; omega) _

end Go.Proofs.Ytkmiijgoinpndaa
