/-
  THE FIRST ONE OUT: Pop OF BOTH SIDES.
-/
import Derived.Test.YtmjggolllijamaaAppPk
namespace Go.Proofs.Ytmjggolllijamaa
open Go.RowKit
set_option linter.unusedVariables false

def popF (f : Nat → Pk) : Nat → Pk := fun i => f (i + 1)
def popN (f : Nat → Pk) (n : Nat) (lim : Int) : Nat := if fifoB f n lim then n - 1 else 0
def popL (f : Nat → Pk) (n : Nat) (lim : Int) : Int := if fifoB f n lim then lim else 0
def popB (f : Nat → Pk) (n : Nat) (lim : Int) : Bool := fifoB f n lim && decide (0 < n)
def popP (f : Nat → Pk) (n : Nat) (lim : Int) : Pk := if popB f n lim then f 0 else ⟨0, 0, 0, 0, 0, 0⟩
theorem PR.tail {n₀ : Nat} {w : World} {b off n : Nat} {f : Nat → Pk} (h : ∀ i, i < n → PAt w b (off + i * 6) (f i)) (hb : b < n₀) : PR n₀ w (some ⟨b, off + 6, none⟩) (n - 1) (popF f) :=
  .inr ⟨b, off + 6, rfl, hb, fun i hi => by have := h (i + 1) (by omega); rw [show off + 6 + i * 6 = off + (i + 1) * 6 by omega]; exact this⟩
theorem PAt.drew {w : World} {b o : Nat} {p : Pk} (h : PAt w b o p) : PAt w.drew b o p := h

/-- What the last statement of Pop reads. -/
@[reducible] def SPop (s : Nat) (a : Option Addr) (n c : Nat) (lim : Int) (b off : Nat) (p0 : Pk) (w' : World) : Prop := (w'.cell? ⟨s, 0, none⟩ = some (.slice a n c) ∧ w'.cell? ⟨s, 1, none⟩ = some (.int .i64 lim)) ∧ (w'.cell? ⟨b, off, none⟩ = some (.int .i64 p0.id) ∧ w'.cell? ⟨b, off + 1, none⟩ = some (.int .i64 p0.flow) ∧ w'.cell? ⟨b, off + 2, none⟩ = some (.int .i64 p0.host) ∧ w'.cell? ⟨b, off + 3, none⟩ = some (.int .i64 p0.size) ∧ w'.cell? ⟨b, off + 4, none⟩ = some (.int .i64 p0.tm) ∧ w'.cell? ⟨b, off + 5, none⟩ = some (.int .i64 p0.ecn))
theorem SPop.set {s : Nat} {a : Option Addr} {n c : Nat} {lim : Int} {b off : Nat} {p0 : Pk} {w' : World} (h : SPop s a n c lim b off p0 w') (B o : Nat) (v : Value) (h1 : B ≠ s) (h2 : B ≠ b) : SPop s a n c lim b off p0 (w'.setCell ⟨B, o, none⟩ v) := by
  obtain ⟨⟨a0, a1⟩, c0, c1, c2, c3, c4, c5⟩ := h
  exact ⟨⟨(World.cell?_setCell_far w' ⟨B, o, none⟩ ⟨s, 0, none⟩ v h1).trans a0, (World.cell?_setCell_far w' ⟨B, o, none⟩ ⟨s, 1, none⟩ v h1).trans a1⟩, (World.cell?_setCell_far w' ⟨B, o, none⟩ ⟨b, off, none⟩ v h2).trans c0, (World.cell?_setCell_far w' ⟨B, o, none⟩ ⟨b, off + 1, none⟩ v h2).trans c1, (World.cell?_setCell_far w' ⟨B, o, none⟩ ⟨b, off + 2, none⟩ v h2).trans c2, (World.cell?_setCell_far w' ⟨B, o, none⟩ ⟨b, off + 3, none⟩ v h2).trans c3, (World.cell?_setCell_far w' ⟨B, o, none⟩ ⟨b, off + 4, none⟩ v h2).trans c4, (World.cell?_setCell_far w' ⟨B, o, none⟩ ⟨b, off + 5, none⟩ v h2).trans c5⟩

theorem SPop.alloc {s : Nat} {a : Option Addr} {n c : Nat} {lim : Int} {b off : Nat} {p0 : Pk} {w' : World} (h : SPop s a n c lim b off p0 w') (o : Obj) : SPop s a n c lim b off p0 (w'.alloc o).drew := by
  obtain ⟨⟨a0, a1⟩, c0, c1, c2, c3, c4, c5⟩ := h
  exact ⟨⟨(World.cell?_alloc_lt _ _ _ (World.block_lt_of_cell? w' _ a0)).trans a0, (World.cell?_alloc_lt _ _ _ (World.block_lt_of_cell? w' _ a1)).trans a1⟩, (World.cell?_alloc_lt _ _ _ (World.block_lt_of_cell? w' _ c0)).trans c0, (World.cell?_alloc_lt _ _ _ (World.block_lt_of_cell? w' _ c1)).trans c1, (World.cell?_alloc_lt _ _ _ (World.block_lt_of_cell? w' _ c2)).trans c2, (World.cell?_alloc_lt _ _ _ (World.block_lt_of_cell? w' _ c3)).trans c3, (World.cell?_alloc_lt _ _ _ (World.block_lt_of_cell? w' _ c4)).trans c4, (World.cell?_alloc_lt _ _ _ (World.block_lt_of_cell? w' _ c5)).trans c5⟩

set_option maxRecDepth 100000 in
set_option maxHeartbeats 4000000 in
theorem ipop_any (a : Option Addr) (n c : Nat) (f : Nat → Pk) (lim : Int) (w : World) (hn : n ≤ 1048576) (hnc : n ≤ c) (hP : PR w.heap.size w a n f) :
    Calls Try.prog 67 #[fiVal a n c lim] w fun e w' => ∃ (x : Option Addr) (cap : Nat), e = .returned (.tuple #[fiVal x (popN f n lim) cap (popL f n lim), (popP f n lim).val, .bool (popB f n lim)]) ∧ PO w.heap.size w' x (popN f n lim) cap (popF f) ∧ Below w.heap.size w w' := by
  have HP : Hid (PR w.heap.size w a n f) := hP
  clear hP
  simp only [fiVal]
  obtain ⟨W0, hW0⟩ : ∃ W0, ((w.alloc (.cells #[.slice a n c, .int .i64 lim] 84)).alloc (.cells #[.slice none 0 0, .int .i64 0] 84)).alloc (.cells #[.int .i64 0, .int .i64 0, .int .i64 0, .int .i64 0, .int .i64 0, .int .i64 0] 31) = W0 := ⟨_, rfl⟩
  have B0 : Below w.heap.size w W0 := by rw [← hW0]; exact (((Below.refl _ w).alloc (Nat.le_refl _) _).alloc (by simp) _).alloc (by simp; omega) _
  have lF : Lies W0 w.heap.size #[.slice a n c, .int .i64 lim] 84 := by rw [← hW0]; exact ((Lies.new _ _ _).alloc _).alloc _
  have lR : Lies W0 (w.heap.size + 1) #[.slice none 0 0, .int .i64 0] 84 := by rw [← hW0]; have := (Lies.new (w.alloc (.cells #[.slice a n c, .int .i64 lim] 84)) #[.slice none 0 0, .int .i64 0] 84).alloc (.cells #[.int .i64 0, .int .i64 0, .int .i64 0, .int .i64 0, .int .i64 0, .int .i64 0] 31); simpa using this
  have lP : Lies W0 (w.heap.size + 1 + 1) (pkCells ⟨0, 0, 0, 0, 0, 0⟩) 31 := by rw [← hW0]; have := Lies.new ((w.alloc (.cells #[.slice a n c, .int .i64 lim] 84)).alloc (.cells #[.slice none 0 0, .int .i64 0] 84)) (pkCells ⟨0, 0, 0, 0, 0, 0⟩) 31; simpa using this
  have hs0 : W0.heap.size = w.heap.size + 3 := by rw [← hW0]; simp
  have HS0 : Hid (W0.heap.size = w.heap.size + 3) := hs0
  have H0 : Hid (PR W0.heap.size W0 a n f) := (PR.below HP.out B0).mono B0.size
  obtain ⟨xf0, xf1⟩ := fi2_cells lF
  clear hs0
  cases hf : fifoB f n lim
  case false =>
    have hB : popB f n lim = false := by unfold popB; rw [hf]; rfl
    have hN : popN f n lim = 0 := by unfold popN; rw [hf]; rfl
    have hL : popL f n lim = 0 := by unfold popL; rw [hf]; rfl
    have hp : popP f n lim = ⟨0, 0, 0, 0, 0, 0⟩ := by unfold popP; rw [hB]; rfl
    rw [hB, hN, hL, hp]
    clear hB hN hL hp
    go_enter Try.func67, Try.ntmps67
    go_wp2_with (go_at_call 74; refine (ififoOk_any a n c f lim _ hn hnc H0.out).mono ?_; rintro e w1 ⟨rfl, b1⟩; rw [hf]; obtain ⟨r0, r1⟩ := fi2_cells (lR.below b1 lR.lt); obtain ⟨q0, q1, q2, q3, q4, q5⟩ := (lP.below b1 lP.lt).pk; simp only [Nat.zero_add] at q1 q2 q3 q4 q5; have fr := (lR.below b1 lR.lt).frozen; have fp := (lP.below b1 lP.lt).frozen)
    refine bodyPost_ret (v := .tuple #[.agg #[.slice none 0 0, .int .i64 0], .agg #[.int .i64 0, .int .i64 0, .int .i64 0, .int .i64 0, .int .i64 0, .int .i64 0], .bool false]) (by simp [results, Try.results67, go_sem, r0, r1, q0, q1, q2, q3, q4, q5]) rfl ⟨none, 0, rfl, PO.nil _ _ _, ?_⟩
    have B1 := B0.trans (b1.mono B0.size)
    exact (((((((B1.setCell (by show w.heap.size ≤ w.heap.size + 1; omega) _).setCell (by show w.heap.size ≤ w.heap.size + 1; omega) _).setCell (by show w.heap.size ≤ w.heap.size + 1 + 1; omega) _).setCell (by show w.heap.size ≤ w.heap.size + 1 + 1; omega) _).setCell (by show w.heap.size ≤ w.heap.size + 1 + 1; omega) _).setCell (by show w.heap.size ≤ w.heap.size + 1 + 1; omega) _).setCell (by show w.heap.size ≤ w.heap.size + 1 + 1; omega) _).setCell (by show w.heap.size ≤ w.heap.size + 1 + 1; omega) _
  case true =>
  by_cases hz : n = 0
  · subst hz
    have hB : popB f 0 lim = false := by unfold popB; simp
    have hN : popN f 0 lim = 0 := by unfold popN; rw [hf]; rfl
    have hL : popL f 0 lim = lim := by unfold popL; rw [hf]; rfl
    have hp : popP f 0 lim = ⟨0, 0, 0, 0, 0, 0⟩ := by unfold popP; rw [hB]; rfl
    rw [hB, hN, hL, hp]
    clear hB hN hL hp
    go_enter Try.func67, Try.ntmps67
    go_wp2_with (go_at_call 74; refine (ififoOk_any a 0 c f lim _ hn hnc H0.out).mono ?_; rintro e w1 ⟨rfl, b1⟩; rw [hf]; obtain ⟨xg0, xg1⟩ := fi2_cells (lF.below b1 lF.lt); obtain ⟨r0, r1⟩ := fi2_cells (lR.below b1 lR.lt); obtain ⟨q0, q1, q2, q3, q4, q5⟩ := (lP.below b1 lP.lt).pk; simp only [Nat.zero_add] at q1 q2 q3 q4 q5; have fr := (lR.below b1 lR.lt).frozen; have fp := (lP.below b1 lP.lt).frozen)
    refine bodyPost_ret (v := .tuple #[.agg #[.slice none 0 0, .int .i64 lim], .agg #[.int .i64 0, .int .i64 0, .int .i64 0, .int .i64 0, .int .i64 0, .int .i64 0], .bool false]) (by simp [results, Try.results67, go_sem, r0, r1, q0, q1, q2, q3, q4, q5]) rfl ⟨none, 0, rfl, PO.nil _ _ _, ?_⟩
    have B1 := B0.trans (b1.mono B0.size)
    exact (((((((B1.setCell (by show w.heap.size ≤ w.heap.size + 1; omega) _).setCell (by show w.heap.size ≤ w.heap.size + 1; omega) _).setCell (by show w.heap.size ≤ w.heap.size + 1 + 1; omega) _).setCell (by show w.heap.size ≤ w.heap.size + 1 + 1; omega) _).setCell (by show w.heap.size ≤ w.heap.size + 1 + 1; omega) _).setCell (by show w.heap.size ≤ w.heap.size + 1 + 1; omega) _).setCell (by show w.heap.size ≤ w.heap.size + 1 + 1; omega) _).setCell (by show w.heap.size ≤ w.heap.size + 1 + 1; omega) _
  · have hz' : ((n : Int) == 0) = false := by simpa using hz
    have hzi : (1 : Int) ≤ (n : Int) := by omega
    have hzj : (0 : Int) < (n : Int) := by omega
    have hzk : 0 < n := by omega
    have hB : popB f n lim = true := by unfold popB; rw [hf]; simp; omega
    have hN : popN f n lim = n - 1 := by unfold popN; rw [hf]; rfl
    have hL : popL f n lim = lim := by unfold popL; rw [hf]; rfl
    have hp : popP f n lim = f 0 := by unfold popP; rw [hB]; rfl
    rw [hB, hN, hL, hp]
    clear hB hN hL hp
    obtain ⟨b, off, rfl, hbl, hcs⟩ := PR.at HP.out (show 0 < n by omega)
    have HC : Hid (∀ i, i < n → PAt w b (off + i * 6) (f i)) := hcs
    clear hcs
    generalize hp0 : f 0 = p0
    by_cases hc1 : c = 1
    · obtain rfl : n = 1 := by omega
      subst hc1
      go_enter Try.func67, Try.ntmps67
      go_wp2_with (go_at_call 74; refine (ififoOk_any _ 1 1 f lim _ hn hnc H0.out).mono ?_; rintro e w1 ⟨rfl, b1⟩; rw [hf]; obtain ⟨xg0, xg1⟩ := fi2_cells (lF.below b1 lF.lt); obtain ⟨r0, r1⟩ := fi2_cells (lR.below b1 lR.lt); obtain ⟨q0, q1, q2, q3, q4, q5⟩ := (lP.below b1 lP.lt).pk; simp only [Nat.zero_add] at q1 q2 q3 q4 q5; have fr := (lR.below b1 lR.lt).frozen; have fp := (lP.below b1 lP.lt).frozen)
      have B1 := B0.trans (b1.mono B0.size)
      have lF1 := lF.below b1 lF.lt
      have lR1 := lR.below b1 lR.lt
      have lP1 := lP.below b1 lP.lt
      have hs1 : w.heap.size + 1 + 1 < w1.heap.size := lP1.lt
      have hn1 : w.heap.size + 1 ≠ b := by omega
      have hn2 : w.heap.size + 1 + 1 ≠ b := by omega
      have hm1 : w.heap.size + 1 ≠ w.heap.size := by omega
      have hm2 : w.heap.size + 1 + 1 ≠ w.heap.size := by omega
      obtain ⟨d0, d1, d2, d3, d4, d5⟩ := (HC.out 0 (by omega)).below B1 hbl
      rw [hp0] at d0 d1 d2 d3 d4 d5
      simp only [Nat.zero_mul, Nat.add_zero] at d0 d1 d2 d3 d4 d5
      go_region_held3 (fun w' => (w'.cell? ⟨w.heap.size, 0, none⟩ = some (.slice (some ⟨b, off, none⟩) 1 1) ∧ w'.cell? ⟨w.heap.size, 1, none⟩ = some (.int .i64 lim)) ∧ (w'.cell? ⟨b, off, none⟩ = some (.int .i64 p0.id) ∧ w'.cell? ⟨b, off + 1, none⟩ = some (.int .i64 p0.flow) ∧ w'.cell? ⟨b, off + 2, none⟩ = some (.int .i64 p0.host) ∧ w'.cell? ⟨b, off + 3, none⟩ = some (.int .i64 p0.size) ∧ w'.cell? ⟨b, off + 4, none⟩ = some (.int .i64 p0.tm) ∧ w'.cell? ⟨b, off + 5, none⟩ = some (.int .i64 p0.ecn))) (first | (with_reducible exact hS2) | (with_reducible exact (hS2.set (w.heap.size + 1) 0 _ hm1 hn1).set (w.heap.size + 1) 1 _ hm1 hn1) | (with_reducible exact ((((((((hS2.set (w.heap.size + 1) 0 _ hm1 hn1).set (w.heap.size + 1) 1 _ hm1 hn1).set (w.heap.size + 1 + 1) 0 _ hm2 hn2).set (w.heap.size + 1 + 1) 1 _ hm2 hn2).set (w.heap.size + 1 + 1) 2 _ hm2 hn2).set (w.heap.size + 1 + 1) 3 _ hm2 hn2).set (w.heap.size + 1 + 1) 4 _ hm2 hn2).set (w.heap.size + 1 + 1) 5 _ hm2 hn2)) | exact ⟨⟨xg0, xg1⟩, d0, d1, d2, d3, d4, d5⟩ | fail) (first | (go_at_call 64; refine (copied_any _ 0 _ (popF f) _ (.inl rfl) (by omega)).mono ?_; rintro e w2 ⟨x, cap, rfl, hpo, b2⟩; obtain ⟨g0, g1⟩ := fi2_cells (Lies.below (W := w1.drew) lF1 b2 lF1.lt); have lR2 := Lies.below (W := w1.drew) lR1 b2 lR1.lt; have lP2 := Lies.below (W := w1.drew) lP1 b2 lP1.lt; obtain ⟨rr0, rr1⟩ := fi2_cells lR2; have fr2 := lR2.frozen; have fp2 := lP2.frozen; obtain ⟨pp0, pp1, pp2, pp3, pp4, pp5⟩ := lP2.pk; simp only [Nat.zero_add] at pp1 pp2 pp3 pp4 pp5; obtain ⟨e0, e1, e2, e3, e4, e5⟩ := (PAt.drew (w := w1) (p := p0) ⟨d0, d1, d2, d3, d4, d5⟩).below b2 (Nat.lt_of_lt_of_le hbl B1.size); have hS2 : SPop w.heap.size (some ⟨b, off, none⟩) 1 1 lim b off p0 w2 := ⟨⟨g0, g1⟩, e0, e1, e2, e3, e4, e5⟩))
      all_goals
        go_wp2
        refine bodyPost_ret (v := .tuple #[.agg #[.slice x 0 cap, .int .i64 lim], .agg #[.int .i64 p0.id, .int .i64 p0.flow, .int .i64 p0.host, .int .i64 p0.size, .int .i64 p0.tm, .int .i64 p0.ecn], .bool true]) (by simp [results, Try.results67, go_sem, rr0, rr1, pp0, pp1, pp2, pp3, pp4, pp5]) rfl ⟨x, cap, rfl, ?_, ?_⟩
        · exact ((((((((hpo.far (by show _ < w1.heap.size; omega) _ _).far (by show _ < w1.heap.size; omega) _ _).far (by show _ < w1.heap.size; omega) _ _).far (by show _ < w1.heap.size; omega) _ _).far (by show _ < w1.heap.size; omega) _ _).far (by show _ < w1.heap.size; omega) _ _).far (by show _ < w1.heap.size; omega) _ _).far (by show _ < w1.heap.size; omega) _ _).mono B1.size
        · have B2 := B1.drew.trans (b2.mono B1.size)
          exact (((((((B2.setCell (by show w.heap.size ≤ w.heap.size + 1; omega) _).setCell (by show w.heap.size ≤ w.heap.size + 1; omega) _).setCell (by show w.heap.size ≤ w.heap.size + 1 + 1; omega) _).setCell (by show w.heap.size ≤ w.heap.size + 1 + 1; omega) _).setCell (by show w.heap.size ≤ w.heap.size + 1 + 1; omega) _).setCell (by show w.heap.size ≤ w.heap.size + 1 + 1; omega) _).setCell (by show w.heap.size ≤ w.heap.size + 1 + 1; omega) _).setCell (by show w.heap.size ≤ w.heap.size + 1 + 1; omega) _
    · go_enter Try.func67, Try.ntmps67
      go_wp2_with (go_at_call 74; refine (ififoOk_any _ n c f lim _ hn hnc H0.out).mono ?_; rintro e w1 ⟨rfl, b1⟩; rw [hf]; obtain ⟨xg0, xg1⟩ := fi2_cells (lF.below b1 lF.lt); obtain ⟨r0, r1⟩ := fi2_cells (lR.below b1 lR.lt); obtain ⟨q0, q1, q2, q3, q4, q5⟩ := (lP.below b1 lP.lt).pk; simp only [Nat.zero_add] at q1 q2 q3 q4 q5; have fr := (lR.below b1 lR.lt).frozen; have fp := (lP.below b1 lP.lt).frozen)
      have B1 := B0.trans (b1.mono B0.size)
      have lF1 := lF.below b1 lF.lt
      have lR1 := lR.below b1 lR.lt
      have lP1 := lP.below b1 lP.lt
      have hs1 : w.heap.size + 1 + 1 < w1.heap.size := lP1.lt
      have hn1 : w.heap.size + 1 ≠ b := by omega
      have hn2 : w.heap.size + 1 + 1 ≠ b := by omega
      have hm1 : w.heap.size + 1 ≠ w.heap.size := by omega
      have hm2 : w.heap.size + 1 + 1 ≠ w.heap.size := by omega
      obtain ⟨d0, d1, d2, d3, d4, d5⟩ := (HC.out 0 (by omega)).below B1 hbl
      rw [hp0] at d0 d1 d2 d3 d4 d5
      simp only [Nat.zero_mul, Nat.add_zero] at d0 d1 d2 d3 d4 d5
      go_region_held3 (fun w' => (w'.cell? ⟨w.heap.size, 0, none⟩ = some (.slice (some ⟨b, off, none⟩) n c) ∧ w'.cell? ⟨w.heap.size, 1, none⟩ = some (.int .i64 lim)) ∧ (w'.cell? ⟨b, off, none⟩ = some (.int .i64 p0.id) ∧ w'.cell? ⟨b, off + 1, none⟩ = some (.int .i64 p0.flow) ∧ w'.cell? ⟨b, off + 2, none⟩ = some (.int .i64 p0.host) ∧ w'.cell? ⟨b, off + 3, none⟩ = some (.int .i64 p0.size) ∧ w'.cell? ⟨b, off + 4, none⟩ = some (.int .i64 p0.tm) ∧ w'.cell? ⟨b, off + 5, none⟩ = some (.int .i64 p0.ecn))) (first | (with_reducible exact hS2) | (with_reducible exact (hS2.set (w.heap.size + 1) 0 _ hm1 hn1).set (w.heap.size + 1) 1 _ hm1 hn1) | (with_reducible exact ((((((((hS2.set (w.heap.size + 1) 0 _ hm1 hn1).set (w.heap.size + 1) 1 _ hm1 hn1).set (w.heap.size + 1 + 1) 0 _ hm2 hn2).set (w.heap.size + 1 + 1) 1 _ hm2 hn2).set (w.heap.size + 1 + 1) 2 _ hm2 hn2).set (w.heap.size + 1 + 1) 3 _ hm2 hn2).set (w.heap.size + 1 + 1) 4 _ hm2 hn2).set (w.heap.size + 1 + 1) 5 _ hm2 hn2)) | exact ⟨⟨xg0, xg1⟩, d0, d1, d2, d3, d4, d5⟩ | fail) (first | (go_at_call 64; refine (copied_any (some ⟨b, off + 6, none⟩) (n - 1) (c - 1) (popF f) _ ((PR.tail (w := w1.drew) (fun i hi => PAt.drew ((HC.out i hi).below B1 hbl)) (Nat.lt_of_lt_of_le hbl B1.size))) (by omega)).mono ?_; rintro e w2 ⟨x, cap, rfl, hpo, b2⟩; obtain ⟨g0, g1⟩ := fi2_cells (Lies.below (W := w1.drew) lF1 b2 lF1.lt); have lR2 := Lies.below (W := w1.drew) lR1 b2 lR1.lt; have lP2 := Lies.below (W := w1.drew) lP1 b2 lP1.lt; obtain ⟨rr0, rr1⟩ := fi2_cells lR2; have fr2 := lR2.frozen; have fp2 := lP2.frozen; obtain ⟨pp0, pp1, pp2, pp3, pp4, pp5⟩ := lP2.pk; simp only [Nat.zero_add] at pp1 pp2 pp3 pp4 pp5; obtain ⟨e0, e1, e2, e3, e4, e5⟩ := (PAt.drew (w := w1) (p := p0) ⟨d0, d1, d2, d3, d4, d5⟩).below b2 (Nat.lt_of_lt_of_le hbl B1.size); have hS2 : SPop w.heap.size (some ⟨b, off, none⟩) n c lim b off p0 w2 := ⟨⟨g0, g1⟩, e0, e1, e2, e3, e4, e5⟩))
      all_goals
        go_wp2
        refine bodyPost_ret (v := .tuple #[.agg #[.slice x (n - 1) cap, .int .i64 lim], .agg #[.int .i64 p0.id, .int .i64 p0.flow, .int .i64 p0.host, .int .i64 p0.size, .int .i64 p0.tm, .int .i64 p0.ecn], .bool true]) (by simp [results, Try.results67, go_sem, rr0, rr1, pp0, pp1, pp2, pp3, pp4, pp5]) rfl ⟨x, cap, rfl, ?_, ?_⟩
        · exact ((((((((hpo.far (by show _ < w1.heap.size; omega) _ _).far (by show _ < w1.heap.size; omega) _ _).far (by show _ < w1.heap.size; omega) _ _).far (by show _ < w1.heap.size; omega) _ _).far (by show _ < w1.heap.size; omega) _ _).far (by show _ < w1.heap.size; omega) _ _).far (by show _ < w1.heap.size; omega) _ _).far (by show _ < w1.heap.size; omega) _ _).mono B1.size
        · have B2 := B1.drew.trans (b2.mono B1.size)
          exact (((((((B2.setCell (by show w.heap.size ≤ w.heap.size + 1; omega) _).setCell (by show w.heap.size ≤ w.heap.size + 1; omega) _).setCell (by show w.heap.size ≤ w.heap.size + 1 + 1; omega) _).setCell (by show w.heap.size ≤ w.heap.size + 1 + 1; omega) _).setCell (by show w.heap.size ≤ w.heap.size + 1 + 1; omega) _).setCell (by show w.heap.size ≤ w.heap.size + 1 + 1; omega) _).setCell (by show w.heap.size ≤ w.heap.size + 1 + 1; omega) _).setCell (by show w.heap.size ≤ w.heap.size + 1 + 1; omega) _

end Go.Proofs.Ytmjggolllijamaa
