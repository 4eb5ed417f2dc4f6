/-
  ONE MORE BEHIND ALL: Push OF BOTH SIDES.
-/
import Derived.Test.YtfjdlfoonjnllakAppPk
import Derived.Deep.Cut
namespace Go.Proofs.Ytfjdlfoonjnllak
open Go.RowKit
set_option linter.unusedVariables false

/-- The list with p behind its first n. -/
def pushF (f : Nat → Pk) (n : Nat) (p : Pk) : Nat → Pk := fun i => if i = n then p else f i
def pushOk (f : Nat → Pk) (n : Nat) (lim : Int) (p : Pk) : Bool := fifoB f n lim && p.good
def pushN (f : Nat → Pk) (n : Nat) (lim : Int) (p : Pk) : Nat := if pushOk f n lim p then (if fifoB (pushF f n p) (n + 1) lim then n + 1 else n) else 0
def pushL (f : Nat → Pk) (n : Nat) (lim : Int) (p : Pk) : Int := if pushOk f n lim p then lim else 0
def pushB (f : Nat → Pk) (n : Nat) (lim : Int) (p : Pk) : Bool := pushOk f n lim p && fifoB (pushF f n p) (n + 1) lim
theorem PO.congr {base : Nat} {w : World} {x : Option Addr} {m cap : Nat} {f g : Nat → Pk} (h : PO base w x m cap f) (e : ∀ i, i < m → f i = g i) : PO base w x m cap g := by
  have : cellsL f m = cellsL g m := by
    unfold cellsL
    refine List.map_congr_left fun o ho => ?_
    have ho' : o < m * 6 := List.mem_range.1 ho
    unfold flat
    rw [e (o / 6) (by omega)]
  unfold PO at *
  rw [← this]
  exact h

theorem fifo_lim {f : Nat → Pk} {n : Nat} {lim : Int} (h : fifoB f n lim = true) : (n : Int) ≤ 40 := by
  unfold fifoB inB at h
  simp only [Bool.and_eq_true, decide_eq_true_eq] at h
  omega
theorem pushN_le (f : Nat → Pk) (n : Nat) (lim : Int) (p : Pk) (hn : n ≤ 1048576) : pushN f n lim p ≤ 1048576 := by
  unfold pushN
  cases ho : pushOk f n lim p
  · simp
  · have hf : fifoB f n lim = true := by unfold pushOk at ho; simp at ho; exact ho.1
    have := fifo_lim hf
    simp only [if_true]
    split <;> omega

set_option maxRecDepth 100000 in
set_option maxHeartbeats 4000000 in
theorem spush_any (a : Option Addr) (n c : Nat) (f : Nat → Pk) (lim : Int) (p : Pk) (w : World) (hn : n ≤ 1048576) (hnc : n ≤ c) (hP : PR w.heap.size w a n f) :
    Calls Try.prog 15 #[fiVal a n c lim, p.val] w fun e w' => ∃ (x : Option Addr) (cap : Nat), e = .returned (.tuple #[fiVal x (pushN f n lim p) cap (pushL f n lim p), .bool (pushB f n lim p)]) ∧ PO w.heap.size w' x (pushN f n lim p) cap (pushF f n p) ∧ Below w.heap.size w w' := by
  have HP : Hid (PR w.heap.size w a n f) := hP
  clear hP
  obtain ⟨p0, p1, p2, p3, p4, p5⟩ := p
  simp only [fiVal, Pk.val]
  obtain ⟨W0, hW0⟩ : ∃ W0, ((w.alloc (.cells #[.slice a n c, .int .i64 lim] 24)).alloc (.cells #[.int .i64 p0, .int .i64 p1, .int .i64 p2, .int .i64 p3, .int .i64 p4, .int .i64 p5] 38)).alloc (.cells #[.slice none 0 0, .int .i64 0] 24) = W0 := ⟨_, rfl⟩
  have B0 : Below w.heap.size w W0 := by rw [← hW0]; exact (((Below.refl _ w).alloc (Nat.le_refl _) _).alloc (by simp) _).alloc (by simp; omega) _
  have lF : Lies W0 w.heap.size #[.slice a n c, .int .i64 lim] 24 := by rw [← hW0]; exact ((Lies.new _ _ _).alloc _).alloc _
  have lP : Lies W0 (w.heap.size + 1) (pkCells ⟨p0, p1, p2, p3, p4, p5⟩) 38 := by rw [← hW0]; have := (Lies.new (w.alloc (.cells #[.slice a n c, .int .i64 lim] 24)) (pkCells ⟨p0, p1, p2, p3, p4, p5⟩) 38).alloc (.cells #[.slice none 0 0, .int .i64 0] 24); simpa using this
  have lR : Lies W0 (w.heap.size + 1 + 1) #[.slice none 0 0, .int .i64 0] 24 := by rw [← hW0]; have := Lies.new ((w.alloc (.cells #[.slice a n c, .int .i64 lim] 24)).alloc (.cells (pkCells ⟨p0, p1, p2, p3, p4, p5⟩) 38)) #[.slice none 0 0, .int .i64 0] 24; simpa using this
  have H0 : Hid (PR W0.heap.size W0 a n f) := (PR.below HP.out B0).mono B0.size
  obtain ⟨xf0, xf1⟩ := fi2_cells lF
  obtain ⟨xp0, xp1, xp2, xp3, xp4, xp5⟩ := lP.pk
  simp only [Nat.zero_add] at xp1 xp2 xp3 xp4 xp5
  cases hf : fifoB f n lim
  case false =>
    have ho : pushOk f n lim ⟨p0, p1, p2, p3, p4, p5⟩ = false := by unfold pushOk; rw [hf]; rfl
    have hB : pushB f n lim ⟨p0, p1, p2, p3, p4, p5⟩ = false := by unfold pushB; rw [ho]; rfl
    have hN : pushN f n lim ⟨p0, p1, p2, p3, p4, p5⟩ = 0 := by unfold pushN; rw [ho]; rfl
    have hL : pushL f n lim ⟨p0, p1, p2, p3, p4, p5⟩ = 0 := by unfold pushL; rw [ho]; rfl
    rw [hB, hN, hL]
    clear hB hN hL ho
    go_enter Try.func15, Try.ntmps15
    go_wp2_with ((go_at_call 31; refine (sfifoOk_any a n c f lim _ (by omega) hnc H0.out).mono ?_; rintro e w1 ⟨rfl, b1⟩; rw [hf]; obtain ⟨r0, r1⟩ := fi2_cells (lR.below b1 lR.lt); have fr := (lR.below b1 lR.lt).frozen; obtain ⟨q0, q1, q2, q3, q4, q5⟩ := (lP.below b1 lP.lt).pk; simp only [Nat.zero_add] at q1 q2 q3 q4 q5))
    refine bodyPost_ret (v := .tuple #[.agg #[.slice none 0 0, .int .i64 0], .bool false]) (by simp [results, Try.results15, go_sem, r0, r1]) rfl ⟨none, 0, rfl, PO.nil _ _ _, ?_⟩
    have B1 := B0.trans (b1.mono B0.size)
    exact (B1.setCell (by show w.heap.size ≤ w.heap.size + 1 + 1; omega) _).setCell (by show w.heap.size ≤ w.heap.size + 1 + 1; omega) _
  case true =>
  cases hg : (Pk.mk p0 p1 p2 p3 p4 p5).good
  case false =>
    have ho : pushOk f n lim ⟨p0, p1, p2, p3, p4, p5⟩ = false := by unfold pushOk; rw [hg]; simp
    have hB : pushB f n lim ⟨p0, p1, p2, p3, p4, p5⟩ = false := by unfold pushB; rw [ho]; rfl
    have hN : pushN f n lim ⟨p0, p1, p2, p3, p4, p5⟩ = 0 := by unfold pushN; rw [ho]; rfl
    have hL : pushL f n lim ⟨p0, p1, p2, p3, p4, p5⟩ = 0 := by unfold pushL; rw [ho]; rfl
    rw [hB, hN, hL]
    clear hB hN hL ho
    go_enter Try.func15, Try.ntmps15
    go_wp2_with (first | (go_at_call 31; refine (sfifoOk_any a n c f lim _ (by omega) hnc H0.out).mono ?_; rintro e w1 ⟨rfl, b1⟩; rw [hf]; obtain ⟨r0, r1⟩ := fi2_cells (lR.below b1 lR.lt); have fr := (lR.below b1 lR.lt).frozen; obtain ⟨q0, q1, q2, q3, q4, q5⟩ := (lP.below b1 lP.lt).pk; simp only [Nat.zero_add] at q1 q2 q3 q4 q5) | (go_at_call 37; refine (spktOk_any ⟨p0, p1, p2, p3, p4, p5⟩ _).mono ?_; rintro e w2 ⟨rfl, b2⟩; rw [hg]; have lR2 := (lR.below b1 lR.lt).below b2.1 (lR.below b1 lR.lt).lt; obtain ⟨s0, s1⟩ := fi2_cells lR2; have fs := lR2.frozen))
    refine bodyPost_ret (v := .tuple #[.agg #[.slice none 0 0, .int .i64 0], .bool false]) (by simp [results, Try.results15, go_sem, s0, s1]) rfl ⟨none, 0, rfl, PO.nil _ _ _, ?_⟩
    have B1 := B0.trans (b1.mono B0.size)
    have B2 := B1.trans (b2.1.mono B1.size)
    exact (B2.setCell (by show w.heap.size ≤ w.heap.size + 1 + 1; omega) _).setCell (by show w.heap.size ≤ w.heap.size + 1 + 1; omega) _
  case true =>
    have hn40 : n ≤ 40 := by have := fifo_lim hf; omega
    have ho : pushOk f n lim ⟨p0, p1, p2, p3, p4, p5⟩ = true := by unfold pushOk; rw [hf, hg]; rfl
    have hL : pushL f n lim ⟨p0, p1, p2, p3, p4, p5⟩ = lim := by unfold pushL; rw [ho]; rfl
    obtain ⟨Np, hN⟩ : ∃ N, pushN f n lim ⟨p0, p1, p2, p3, p4, p5⟩ = N := ⟨_, rfl⟩
    obtain ⟨okp, hB⟩ : ∃ b, pushB f n lim ⟨p0, p1, p2, p3, p4, p5⟩ = b := ⟨_, rfl⟩
    rw [hL, hN, hB]
    have HNp : Hid (pushN f n lim ⟨p0, p1, p2, p3, p4, p5⟩ = Np) := hN
    have HBp : Hid (pushB f n lim ⟨p0, p1, p2, p3, p4, p5⟩ = okp) := hB
    clear hN hB
    obtain ⟨g, hgf⟩ : ∃ g, pushF f n ⟨p0, p1, p2, p3, p4, p5⟩ = g := ⟨_, rfl⟩
    have HGF : Hid (pushF f n ⟨p0, p1, p2, p3, p4, p5⟩ = g) := hgf
    rw [hgf]
    go_enter Try.func15, Try.ntmps15
    go_wp2_with (first | (go_at_call 31; refine (sfifoOk_any a n c f lim _ (by omega) hnc H0.out).mono ?_; rintro e w1 ⟨rfl, b1⟩; rw [hf]; have lF1 := lF.below b1 lF.lt; have lR1 := lR.below b1 lR.lt; have lP1 := lP.below b1 lP.lt; obtain ⟨q0, q1, q2, q3, q4, q5⟩ := lP1.pk; simp only [Nat.zero_add] at q1 q2 q3 q4 q5) | (go_at_call 37; refine (spktOk_any ⟨p0, p1, p2, p3, p4, p5⟩ _).mono ?_; rintro e w2 ⟨rfl, b2⟩; rw [hg]; have lF2 := lF1.below b2.1 lF1.lt; have lR2 := lR1.below b2.1 lR1.lt; have lP2 := lP1.below b2.1 lP1.lt; obtain ⟨f0', f1'⟩ := fi2_cells lF2; have B2 := (B0.trans (b1.mono B0.size)).trans (b2.1.mono (Nat.le_trans B0.size b1.size))))
    have H2 : Hid (PR w2.heap.size w2 a n f) := (PR.below HP.out B2).mono B2.size
    clear f0' f1'
    go_wp2_with (first | (go_at_call 38; refine (l3own_any a n c lim f _ H2.out (by omega)).mono ?_; rintro e w3 ⟨x3, c3, rfl, hpo, b3⟩; have lF3 := lF2.below b3 lF2.lt; have lR3 := lR2.below b3 lR2.lt; have lP3 := lP2.below b3 lP2.lt; obtain ⟨q0, q1, q2, q3, q4, q5⟩ := lP3.pk; simp only [Nat.zero_add] at q1 q2 q3 q4 q5; have ltP := lP3.lt) | (at_builtin; refine wpList_append_pk1 rfl _ _ rfl w2.heap.size x3 n c3 f rfl (hpo.below (by go_grown)) (w3.heap.size + 1) ⟨p0, p1, p2, p3, p4, p5⟩ rfl (Lies.pk (t := 38) (by have := Lies.new (w3.alloc (.cells #[.slice x3 n c3, .int .i64 lim] 24)) (pkCells ⟨p0, p1, p2, p3, p4, p5⟩) 38; simpa using this)) (by omega) (Nat.le_trans b3.size (by simp; omega)) ?_; intro g4 c4 w4 hpo4 hgr4 hat4 hlt4; have hne4 : some w3.heap.size ≠ (Value.slice x3 n c3).ownBlock := (fun e => by have := (hpo.own_lt _ e.symm).2; omega); have lO4 : Lies w4 w3.heap.size #[.slice x3 n c3, .int .i64 lim] 24 := Lies.kept ((Lies.new _ _ _).alloc _) hgr4 hne4; obtain ⟨o0, o1⟩ := fi2_cells lO4; have fo := lO4.frozen))
    have hg4 : g4 ≠ w3.heap.size := by
      rcases hat4 with e | e
      · have := (hpo.own_lt _ e).2; omega
      · simp at e; omega
    have b34 : Below w2.heap.size w2 w4 := Below.grown (B := w2.heap.size) (a := w2) ((b3.alloc b3.size _).alloc (by have := b3.size; simp; omega) _) hgr4 (by have := b3.size; simp; omega) (fun k e => (hpo.own_lt k e).1)
    have b35 : Below w2.heap.size w2 (w4.setCell ⟨w3.heap.size, 0, none⟩ (.slice (some ⟨g4, 0, none⟩) (n + 1) c4)) := b34.setCell b3.size _
    have po5 : PO w2.heap.size (w4.setCell ⟨w3.heap.size, 0, none⟩ (.slice (some ⟨g4, 0, none⟩) (n + 1) c4)) (some ⟨g4, 0, none⟩) (n + 1) c4 g := by rw [← HGF.out]; exact hpo4.set_ne hg4 _ _
    have lO5 := lO4.set0 (.slice (some ⟨g4, 0, none⟩) (n + 1) c4)
    obtain ⟨w5, hw5⟩ : ∃ x, w4.setCell ⟨w3.heap.size, 0, none⟩ (.slice (some ⟨g4, 0, none⟩) (n + 1) c4) = x := ⟨_, rfl⟩
    rw [hw5] at b35 po5 lO5 ⊢
    obtain ⟨V3, hV3⟩ : ∃ n, w3.heap.size = n := ⟨_, rfl⟩
    rw [hV3] at lO5 ⊢
    have lF5 := lF2.below b35 lF2.lt
    have lR5 := lR2.below b35 lR2.lt
    have H5 : Hid (PR w5.heap.size w5 (some ⟨g4, 0, none⟩) (n + 1) g) := po5.zi.pr
    have hc4 := po5.cap
    clear hw5 o0 o1 fo lO4 hne4 hat4 hlt4 hgr4 hpo4 b34 hg4 lF3 lR3 lP3 q0 q1 q2 q3 q4 q5 ltP hpo hV3 b3
    cases hq : fifoB g (n + 1) lim
    case true =>
      obtain rfl : Np = n + 1 := by rw [← HNp.out]; unfold pushN; rw [ho, HGF.out, hq]; rfl
      obtain rfl : okp = true := by rw [← HBp.out]; unfold pushB; rw [ho, HGF.out, hq]; rfl
      clear HNp HBp
      go_wp2_with (go_at_call 31; refine (sfifoOk_any _ (n + 1) c4 g lim _ (by omega) hc4 H5.out).mono ?_; rintro e w6 ⟨rfl, b6⟩; rw [hq]; obtain ⟨o0, o1⟩ := fi2_cells (lO5.below b6 lO5.lt); obtain ⟨r0, r1⟩ := fi2_cells (lR5.below b6 lR5.lt); have fr := (lR5.below b6 lR5.lt).frozen)
      refine bodyPost_ret (v := .tuple #[.agg #[.slice (some ⟨g4, 0, none⟩) (n + 1) c4, .int .i64 lim], .bool true]) (by simp [results, Try.results15, go_sem, r0, r1]) rfl ⟨_, c4, rfl, ?_, ?_⟩
      · have hlt2 : w.heap.size + 1 + 1 < w2.heap.size := lR2.lt
        exact (((po5.below b6).far hlt2 _ _).far hlt2 _ _).mono B2.size
      · have B6 := (B2.trans (b35.mono B2.size)).trans (b6.mono (Nat.le_trans B2.size b35.size))
        exact (B6.setCell (by show w.heap.size ≤ w.heap.size + 1 + 1; omega) _).setCell (by show w.heap.size ≤ w.heap.size + 1 + 1; omega) _
    case false =>
      obtain rfl : n = Np := by rw [← HNp.out]; unfold pushN; rw [ho, HGF.out, hq]; rfl
      obtain rfl : okp = false := by rw [← HBp.out]; unfold pushB; rw [ho, HGF.out, hq]; rfl
      clear HNp HBp
      have hgf2 : ∀ i, i < n → f i = g i := fun i hi => by rw [← HGF.out]; unfold pushF; rw [if_neg (by omega)]
      have HG2 : Hid (∀ i, i < n → f i = g i) := hgf2
      clear hgf2
      go_wp2_with (first | (go_at_call 31; refine (sfifoOk_any _ (n + 1) c4 g lim _ (by omega) hc4 H5.out).mono ?_; rintro e w6 ⟨rfl, b6⟩; rw [hq]; obtain ⟨o0, o1⟩ := fi2_cells (lF5.below b6 lF5.lt)) | (go_at_call 38; refine (l3own_any a n c lim f _ ((PR.below H2.out (b35.trans (b6.mono b35.size))).mono (Nat.le_trans b35.size b6.size)) (by omega)).mono ?_; rintro e w7 ⟨x7, c7, rfl, hpo7, b7⟩; have lR7 := (lR5.below b6 lR5.lt).below b7 (lR5.below b6 lR5.lt).lt; obtain ⟨r0, r1⟩ := fi2_cells lR7; have fr := lR7.frozen))
      refine bodyPost_ret (v := .tuple #[.agg #[.slice x7 n c7, .int .i64 lim], .bool false]) (by simp [results, Try.results15, go_sem, r0, r1]) rfl ⟨_, c7, rfl, ?_, ?_⟩
      · have hlt2 : w.heap.size + 1 + 1 < w6.heap.size := (lR5.below b6 lR5.lt).lt
        exact (((hpo7.far hlt2 _ _).far hlt2 _ _).mono (Nat.le_trans B2.size (Nat.le_trans b35.size b6.size))).congr HG2.out
      · have B6 := (B2.trans (b35.mono B2.size)).trans (b6.mono (Nat.le_trans B2.size b35.size))
        have B7 := B6.trans (b7.mono B6.size)
        exact (B7.setCell (by show w.heap.size ≤ w.heap.size + 1 + 1; omega) _).setCell (by show w.heap.size ≤ w.heap.size + 1 + 1; omega) _

end Go.Proofs.Ytfjdlfoonjnllak
