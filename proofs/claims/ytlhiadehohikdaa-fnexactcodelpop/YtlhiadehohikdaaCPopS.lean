/-
  THE SPECIFICATION's CodelPop.
-/
import Derived.Test.YtlhiadehohikdaaPopS
import Derived.Test.YtlhiadehohikdaaPopS2
namespace Go.Proofs.Ytlhiadehohikdaa
open Go.RowKit
set_option linter.unusedVariables false

theorem l5pop_any (c : Cd) (B : Nat) (t : TypeId) (a : Option Addr) (n cap : Nat) (f : Nat → Pk) (lim now : Int) (w : World) (hs : Sits w B (cdCells c) t) (hnc : n ≤ cap) (hP : PR w.heap.size w a n f) (Pb : Nat → Prop) (hPb : ∀ b, Pb b → b ≠ B) (hPn : ∀ b, w.heap.size ≤ b → Pb b) (hab : 0 < n → ∀ b off, a = some ⟨b, off, none⟩ → Pb b) (hl : lookB c f n lim now = true) (R : Res) (hR : popR f n now c = R) :
    Calls Try.prog 21 #[.pointer (some ⟨B, 0, none⟩), .slice a n cap, .int .i64 now] w fun e w' => ∃ (a' : Option Addr) (k : Nat) (y : Option Addr) (l : Nat), e = .returned (.tuple #[.slice a' (n - R.m) k, .slice y R.m l]) ∧ Sits w' B (cdCells R.c) t ∧ PR w'.heap.size w' a' (n - R.m) (outF f R) ∧ (0 < n - R.m → ∀ b off, a' = some ⟨b, off, none⟩ → Pb b) ∧ n - R.m ≤ k ∧ PO w.heap.size w' y R.m l f ∧ Save B w.heap.size w w' := by
  cases hb : lateB c f n now
  · refine (l5pop_calm c B t a n cap f lim now w hs hnc hP hl hb).mono ?_
    rintro e w' ⟨rfl, s1, v1⟩
    unfold popR at hR
    rw [if_pos hb] at hR
    subst hR
    refine ⟨a, cap, none, 0, rfl, s1, ?_, fun h => hab h, hnc, PO.nil _ _ _, v1⟩
    show PR _ w' a n (shiftF f 0)
    rw [shiftF_0]
    rcases (show n = 0 ∨ 0 < n by omega) with e | e
    · exact .inl e
    · exact (hP.save v1 (fun b o e' => hPb b (hab e b o e'))).mono v1.size
  · replace hab := hab (late_pos hb)
    cases hd : c.dr
    · refine (l5pop_begin c B t a n cap f lim now w hs hnc hP Pb hPb hPn hab hl hb hd R hR).mono ?_
      rintro e w' ⟨a', k, y, l, rfl, r1, r2, r3, r4⟩
      exact ⟨a', k, y, l, rfl, r1, r2, fun _ => r3, r4⟩
    · refine (l5pop_drop c B t a n cap f lim now w hs hnc hP Pb hPb hPn hab hl hb hd R hR).mono ?_
      rintro e w' ⟨a', k, y, l, rfl, r1, r2, r3, r4⟩
      exact ⟨a', k, y, l, rfl, r1, r2, fun _ => r3, r4⟩

theorem SV.keep {s : Nat} {r : Cd} {v : Nat} {a : Option Addr} {n c : Nat} {lim : Int} {w w' : World} (h : SV s r v a n c lim w) (e : ∀ k, k = s ∨ k = v → w'.heap[k]? = w.heap[k]?) : SV s r v a n c lim w' := by
  obtain ⟨⟨a0, a1, a2, a3, a4, a5, a6⟩, b0, b1⟩ := h
  have f : ∀ (k i : Nat) (y : Value), (k = s ∨ k = v) → w.cell? ⟨k, i, none⟩ = some y → w'.cell? ⟨k, i, none⟩ = some y := fun k i y hk hy => (World.cell?_of_block (w := w) (e k hk)).trans hy
  exact ⟨⟨f _ _ _ (.inl rfl) a0, f _ _ _ (.inl rfl) a1, f _ _ _ (.inl rfl) a2, f _ _ _ (.inl rfl) a3, f _ _ _ (.inl rfl) a4, f _ _ _ (.inl rfl) a5, f _ _ _ (.inl rfl) a6⟩, f _ _ _ (.inr rfl) b0, f _ _ _ (.inr rfl) b1⟩
theorem SV.set {s : Nat} {r : Cd} {v : Nat} {a : Option Addr} {n c : Nat} {lim : Int} {w' : World} (h : SV s r v a n c lim w') {B o : Nat} {x : Value} (h1 : B ≠ s) (h2 : B ≠ v) : SV s r v a n c lim (w'.setCell ⟨B, o, none⟩ x) :=
  h.keep fun k hk => Below.heap_setCell w' ⟨B, o, none⟩ x k (by show k ≠ B; rcases hk with rfl | rfl <;> omega)
theorem SV.drew {s : Nat} {r : Cd} {v : Nat} {a : Option Addr} {n c : Nat} {lim : Int} {w' : World} (h : SV s r v a n c lim w') : SV s r v a n c lim w'.drew := h

/-- What the last statement reads: the Codel, the queue's limit, the first one left. -/
@[reducible] def SG (s : Nat) (r : Cd) (v : Nat) (lim : Int) (b off : Nat) (p : Pk) (w' : World) : Prop := (w'.cell? ⟨s, 0, none⟩ = some (.int .i64 r.tg) ∧ w'.cell? ⟨s, 1, none⟩ = some (.int .i64 r.iv) ∧ w'.cell? ⟨s, 2, none⟩ = some (.int .i64 r.fi) ∧ w'.cell? ⟨s, 3, none⟩ = some (.int .i64 r.nx) ∧ w'.cell? ⟨s, 4, none⟩ = some (.int .i64 r.ct) ∧ w'.cell? ⟨s, 5, none⟩ = some (.int .i64 r.la) ∧ w'.cell? ⟨s, 6, none⟩ = some (.bool r.dr)) ∧ w'.cell? ⟨v, 1, none⟩ = some (.int .i64 lim) ∧ (w'.cell? ⟨b, off, none⟩ = some (.int .i64 p.id) ∧ w'.cell? ⟨b, off + 1, none⟩ = some (.int .i64 p.flow) ∧ w'.cell? ⟨b, off + 2, none⟩ = some (.int .i64 p.host) ∧ w'.cell? ⟨b, off + 3, none⟩ = some (.int .i64 p.size) ∧ w'.cell? ⟨b, off + 4, none⟩ = some (.int .i64 p.tm) ∧ w'.cell? ⟨b, off + 5, none⟩ = some (.int .i64 p.ecn))
theorem SG.keep {s : Nat} {r : Cd} {v : Nat} {lim : Int} {b off : Nat} {p : Pk} {w w' : World} (h : SG s r v lim b off p w) (e : ∀ k, k = s ∨ k = v ∨ k = b → w'.heap[k]? = w.heap[k]?) : SG s r v lim b off p w' := by
  obtain ⟨⟨a0, a1, a2, a3, a4, a5, a6⟩, b1, c0, c1, c2, c3, c4, c5⟩ := h
  have f : ∀ (k i : Nat) (y : Value), (k = s ∨ k = v ∨ k = b) → w.cell? ⟨k, i, none⟩ = some y → w'.cell? ⟨k, i, none⟩ = some y := fun k i y hk hy => (World.cell?_of_block (w := w) (e k hk)).trans hy
  exact ⟨⟨f _ _ _ (.inl rfl) a0, f _ _ _ (.inl rfl) a1, f _ _ _ (.inl rfl) a2, f _ _ _ (.inl rfl) a3, f _ _ _ (.inl rfl) a4, f _ _ _ (.inl rfl) a5, f _ _ _ (.inl rfl) a6⟩, f _ _ _ (.inr (.inl rfl)) b1, f _ _ _ (.inr (.inr rfl)) c0, f _ _ _ (.inr (.inr rfl)) c1, f _ _ _ (.inr (.inr rfl)) c2, f _ _ _ (.inr (.inr rfl)) c3, f _ _ _ (.inr (.inr rfl)) c4, f _ _ _ (.inr (.inr rfl)) c5⟩
theorem SG.set {s : Nat} {r : Cd} {v : Nat} {lim : Int} {b off : Nat} {p : Pk} {w' : World} (h : SG s r v lim b off p w') {B o : Nat} {x : Value} (h1 : B ≠ s) (h2 : B ≠ v) (h3 : B ≠ b) : SG s r v lim b off p (w'.setCell ⟨B, o, none⟩ x) :=
  h.keep fun k hk => Below.heap_setCell w' ⟨B, o, none⟩ x k (by show k ≠ B; rcases hk with rfl | rfl | rfl <;> omega)
theorem SG.drew {s : Nat} {r : Cd} {v : Nat} {lim : Int} {b off : Nat} {p : Pk} {w' : World} (h : SG s r v lim b off p w') : SG s r v lim b off p w'.drew := h
theorem SG.below {s : Nat} {r : Cd} {v : Nat} {lim : Int} {b off : Nat} {p : Pk} {w w' : World} (h : SG s r v lim b off p w) {n : Nat} (hb : Below n w w') (h1 : s < n) (h2 : v < n) (h3 : b < n) : SG s r v lim b off p w' :=
  h.keep fun k hk => hb.block k (by rcases hk with rfl | rfl | rfl <;> omega)

set_option maxRecDepth 100000 in
set_option maxHeartbeats 4000000 in
theorem scodelPop_any (c : Cd) (a : Option Addr) (n cap : Nat) (f : Nat → Pk) (lim now : Int) (w : World) (hn : n ≤ 1048576) (hnc : n ≤ cap) (hP : PR w.heap.size w a n f) (h0 : -9223372036854775808 ≤ now) (h1 : now ≤ 9223372036854775807) :
    Calls Try.prog 5 #[c.val, fiVal a n cap lim, .int .i64 now] w fun e w' => ∃ (x : Option Addr) (k : Nat) (y : Option Addr) (l : Nat), e = .returned (.tuple #[(popC c f n lim now).val, fiVal x (popK c f n lim now) k (popT c f n lim now), .slice y (popM c f n lim now) l, (popU c f n lim now).val, .bool (popO c f n lim now)]) ∧ (ZI w.heap.size w'.heap.size w' y (popM c f n lim now * 6) (flat f) ∧ ZI w.heap.size w'.heap.size w' x (popK c f n lim now * 6) (flat (popQ c f n lim now))) ∧ Below w.heap.size w w' := by
  have HP : Hid (PR w.heap.size w a n f) := hP
  clear hP
  obtain ⟨W0, hW0⟩ : ∃ W0, ((((w.alloc (.cells #[.int .i64 c.tg, .int .i64 c.iv, .int .i64 c.fi, .int .i64 c.nx, .int .i64 c.ct, .int .i64 c.la, .bool c.dr] 28)).alloc (.cells #[.slice a n cap, .int .i64 lim] 31)).alloc (.cells #[.int .i64 0, .int .i64 0, .int .i64 0, .int .i64 0, .int .i64 0, .int .i64 0, .bool false] 28)).alloc (.cells #[.slice none 0 0, .int .i64 0] 31)).alloc (.cells #[.int .i64 0, .int .i64 0, .int .i64 0, .int .i64 0, .int .i64 0, .int .i64 0] 33) = W0 := ⟨_, rfl⟩
  have B0 : Below w.heap.size w W0 := by rw [← hW0]; go_grown
  have lC : Sits W0 w.heap.size (cdCells c) 28 := by rw [← hW0]; exact ((((Sits.new _ _ _).alloc _).alloc _).alloc _).alloc _
  have lF : Sits W0 (w.heap.size + 1) #[.slice a n cap, .int .i64 lim] 31 := by rw [← hW0]; exact (((Sits.new' (by simp)).alloc _).alloc _).alloc _
  have lR : Sits W0 (w.heap.size + 1 + 1) (cdCells ⟨0, 0, 0, 0, 0, 0, false⟩) 28 := by rw [← hW0]; exact ((Sits.new' (by simp)).alloc _).alloc _
  have lQ : Sits W0 (w.heap.size + 1 + 1 + 1) #[.slice none 0 0, .int .i64 0] 31 := by rw [← hW0]; exact (Sits.new' (by simp)).alloc _
  have lP : Sits W0 (w.heap.size + 1 + 1 + 1 + 1) (pkCells ⟨0, 0, 0, 0, 0, 0⟩) 33 := by rw [← hW0]; exact Sits.new' (by simp)
  have H0 : Hid (PR W0.heap.size W0 a n f) := (PR.below HP.out B0).mono B0.size
  have LC : Hid (Sits W0 w.heap.size (cdCells c) 28) := lC
  have LF : Hid (Sits W0 (w.heap.size + 1) #[.slice a n cap, .int .i64 lim] 31) := lF
  have LR : Hid (Sits W0 (w.heap.size + 1 + 1) (cdCells ⟨0, 0, 0, 0, 0, 0, false⟩) 28) := lR
  have LQ : Hid (Sits W0 (w.heap.size + 1 + 1 + 1) #[.slice none 0 0, .int .i64 0] 31) := lQ
  have LP : Hid (Sits W0 (w.heap.size + 1 + 1 + 1 + 1) (pkCells ⟨0, 0, 0, 0, 0, 0⟩) 33) := lP
  have hs0 : w.heap.size + 1 + 1 + 1 + 1 < W0.heap.size := lP.lt
  obtain ⟨c0, c1, c2, c3, c4, c5, c6⟩ := cd_cells lC
  have x0 : W0.cell? ⟨w.heap.size + 1, 0, none⟩ = some (.slice a n cap) := lF.cell 0
  have x1 : W0.cell? ⟨w.heap.size + 1, 1, none⟩ = some (.int .i64 lim) := lF.cell 1
  clear lC lF lR lQ lP
  cases hl : lookB c f n lim now
  case false =>
    have HE : Hid ((popC c f n lim now = Cd.zero ∧ popK c f n lim now = 0 ∧ popT c f n lim now = 0) ∧ popM c f n lim now = 0 ∧ popU c f n lim now = ⟨0, 0, 0, 0, 0, 0⟩ ∧ popO c f n lim now = false) := by
      have hO : popO c f n lim now = false := by unfold popO; rw [hl]; rfl
      exact ⟨⟨by unfold popC; rw [hl]; rfl, by unfold popK; rw [hl]; rfl, by unfold popT; rw [hl]; rfl⟩, by unfold popM; rw [hl]; rfl, by unfold popU; rw [hO]; rfl, hO⟩
    have hcs : c.good = false ∨ (c.good = true ∧ fifoB f n lim = false) ∨ (c.good = true ∧ fifoB f n lim = true ∧ mayB f n now = false) := by
      unfold lookB at hl
      cases h1 : c.good
      · exact .inl rfl
      · cases h2 : fifoB f n lim
        · exact .inr (.inl ⟨rfl, rfl⟩)
        · rw [h1, h2] at hl; exact .inr (.inr ⟨rfl, rfl, by simpa using hl⟩)
    clear hl
    rcases hcs with hg | ⟨hg, hf⟩ | ⟨hg, hf, hm⟩
    · go_enter Try.func5, Try.ntmps5
      go_wp2_with (first | (go_at_call 18; refine (scodelOk_any c _).mono ?_; rintro e w1 ⟨rfl, k1⟩; rw [hg]; have b1 := k1.1; clear k1; clear c0 c1 c2 c3 c4 c5 c6 x0 x1; obtain ⟨c0, c1, c2, c3, c4, c5, c6⟩ := cd_cells (Sits.below LC.out b1 LC.out.lt); have x0 : w1.cell? ⟨w.heap.size + 1, 0, none⟩ = some (.slice a n cap) := (Sits.below LF.out b1 LF.out.lt).cell 0; have x1 : w1.cell? ⟨w.heap.size + 1, 1, none⟩ = some (.int .i64 lim) := (Sits.below LF.out b1 LF.out.lt).cell 1; have sR := Sits.below LR.out b1 LR.out.lt; have sQ := Sits.below LQ.out b1 LQ.out.lt; have sP := Sits.below LP.out b1 LP.out.lt; obtain ⟨r0, r1, r2, r3, r4, r5, r6⟩ := cd_cells sR; have fr := sR.frozen; have fq := sQ.frozen; have fo := sP.frozen; have q0 : w1.cell? ⟨w.heap.size + 1 + 1 + 1, 0, none⟩ = some (.slice none 0 0) := sQ.cell 0; have q1 : w1.cell? ⟨w.heap.size + 1 + 1 + 1, 1, none⟩ = some (.int .i64 0) := sQ.cell 1; have o0 : w1.cell? ⟨w.heap.size + 1 + 1 + 1 + 1, 0, none⟩ = some (.int .i64 0) := sP.cell 0; have o1 : w1.cell? ⟨w.heap.size + 1 + 1 + 1 + 1, 1, none⟩ = some (.int .i64 0) := sP.cell 1; have o2 : w1.cell? ⟨w.heap.size + 1 + 1 + 1 + 1, 2, none⟩ = some (.int .i64 0) := sP.cell 2; have o3 : w1.cell? ⟨w.heap.size + 1 + 1 + 1 + 1, 3, none⟩ = some (.int .i64 0) := sP.cell 3; have o4 : w1.cell? ⟨w.heap.size + 1 + 1 + 1 + 1, 4, none⟩ = some (.int .i64 0) := sP.cell 4; have o5 : w1.cell? ⟨w.heap.size + 1 + 1 + 1 + 1, 5, none⟩ = some (.int .i64 0) := sP.cell 5; dsimp only at *))
      have b5 := B0.trans (b1.mono B0.size)
      have bs := b1.size
      refine bodyPost_ret (ret_pop (q := Cd.zero) (p := ⟨0, 0, 0, 0, 0, 0⟩) (v := .slice none 0 0) (u := .int .i64 0) (L := .slice none 0 0) (b := false) (t1 := 28) (t2 := 31) (t3 := 33) (B1 := w.heap.size + 1 + 1) (B2 := w.heap.size + 1 + 1 + 1) (B3 := w.heap.size + 1 + 1 + 1 + 1) Try.results5 rfl rfl rfl rfl rfl ?_ ?_ ?_) rfl ⟨none, 0, none, 0, ?_, ⟨?_, ?_⟩, ?_⟩
      · exact laid_1 (W := w1) (B := w.heap.size + 1 + 1) (q := Cd.zero) (v := .slice none 0 0) (u := .int .i64 0) (p := ⟨0, 0, 0, 0, 0, 0⟩) (Sits.below LR.out b1 LR.out.lt)
      · exact laid_2 (W := w1) (B := w.heap.size + 1 + 1) (q := Cd.zero) (v := .slice none 0 0) (u := .int .i64 0) (p := ⟨0, 0, 0, 0, 0, 0⟩) (Sits.below LQ.out b1 LQ.out.lt)
      · exact laid_3 (W := w1) (B := w.heap.size + 1 + 1) (q := Cd.zero) (v := .slice none 0 0) (u := .int .i64 0) (p := ⟨0, 0, 0, 0, 0, 0⟩) (Sits.below LP.out b1 LP.out.lt)
      · rw [HE.out.1.1, HE.out.1.2.1, HE.out.1.2.2, HE.out.2.1, HE.out.2.2.1, HE.out.2.2.2]
      · rw [HE.out.2.1]; exact .inl (by omega)
      · rw [HE.out.1.2.1]; exact .inl (by omega)
      · exact laid_b (W := w1) (B := w.heap.size + 1 + 1) (q := Cd.zero) (v := .slice none 0 0) (u := .int .i64 0) (p := ⟨0, 0, 0, 0, 0, 0⟩) b5 (by omega)
    · go_enter Try.func5, Try.ntmps5
      go_wp2_with (first | (go_at_call 18; refine (scodelOk_any c _).mono ?_; rintro e w1 ⟨rfl, k1⟩; rw [hg]; have b1 := k1.1; clear k1; clear c0 c1 c2 c3 c4 c5 c6 x0 x1; obtain ⟨c0, c1, c2, c3, c4, c5, c6⟩ := cd_cells (Sits.below LC.out b1 LC.out.lt); have x0 : w1.cell? ⟨w.heap.size + 1, 0, none⟩ = some (.slice a n cap) := (Sits.below LF.out b1 LF.out.lt).cell 0; have x1 : w1.cell? ⟨w.heap.size + 1, 1, none⟩ = some (.int .i64 lim) := (Sits.below LF.out b1 LF.out.lt).cell 1) | (go_at_call 19; refine (sfifoOk_any a n cap f lim _ hn hnc ((PR.below H0.out b1).mono b1.size)).mono ?_; rintro e w2 ⟨rfl, bb⟩; rw [hf]; replace b1 := b1.trans (bb.mono b1.size); clear bb; clear c0 c1 c2 c3 c4 c5 c6 x0 x1; obtain ⟨c0, c1, c2, c3, c4, c5, c6⟩ := cd_cells (Sits.below LC.out b1 LC.out.lt); have x0 : w2.cell? ⟨w.heap.size + 1, 0, none⟩ = some (.slice a n cap) := (Sits.below LF.out b1 LF.out.lt).cell 0; have x1 : w2.cell? ⟨w.heap.size + 1, 1, none⟩ = some (.int .i64 lim) := (Sits.below LF.out b1 LF.out.lt).cell 1; have sR := Sits.below LR.out b1 LR.out.lt; have sQ := Sits.below LQ.out b1 LQ.out.lt; have sP := Sits.below LP.out b1 LP.out.lt; obtain ⟨r0, r1, r2, r3, r4, r5, r6⟩ := cd_cells sR; have fr := sR.frozen; have fq := sQ.frozen; have fo := sP.frozen; have q0 : w2.cell? ⟨w.heap.size + 1 + 1 + 1, 0, none⟩ = some (.slice none 0 0) := sQ.cell 0; have q1 : w2.cell? ⟨w.heap.size + 1 + 1 + 1, 1, none⟩ = some (.int .i64 0) := sQ.cell 1; have o0 : w2.cell? ⟨w.heap.size + 1 + 1 + 1 + 1, 0, none⟩ = some (.int .i64 0) := sP.cell 0; have o1 : w2.cell? ⟨w.heap.size + 1 + 1 + 1 + 1, 1, none⟩ = some (.int .i64 0) := sP.cell 1; have o2 : w2.cell? ⟨w.heap.size + 1 + 1 + 1 + 1, 2, none⟩ = some (.int .i64 0) := sP.cell 2; have o3 : w2.cell? ⟨w.heap.size + 1 + 1 + 1 + 1, 3, none⟩ = some (.int .i64 0) := sP.cell 3; have o4 : w2.cell? ⟨w.heap.size + 1 + 1 + 1 + 1, 4, none⟩ = some (.int .i64 0) := sP.cell 4; have o5 : w2.cell? ⟨w.heap.size + 1 + 1 + 1 + 1, 5, none⟩ = some (.int .i64 0) := sP.cell 5; dsimp only at *))
      have b5 := B0.trans (b1.mono B0.size)
      have bs := b1.size
      refine bodyPost_ret (ret_pop (q := Cd.zero) (p := ⟨0, 0, 0, 0, 0, 0⟩) (v := .slice none 0 0) (u := .int .i64 0) (L := .slice none 0 0) (b := false) (t1 := 28) (t2 := 31) (t3 := 33) (B1 := w.heap.size + 1 + 1) (B2 := w.heap.size + 1 + 1 + 1) (B3 := w.heap.size + 1 + 1 + 1 + 1) Try.results5 rfl rfl rfl rfl rfl ?_ ?_ ?_) rfl ⟨none, 0, none, 0, ?_, ⟨?_, ?_⟩, ?_⟩
      · exact laid_1 (W := w2) (B := w.heap.size + 1 + 1) (q := Cd.zero) (v := .slice none 0 0) (u := .int .i64 0) (p := ⟨0, 0, 0, 0, 0, 0⟩) (Sits.below LR.out b1 LR.out.lt)
      · exact laid_2 (W := w2) (B := w.heap.size + 1 + 1) (q := Cd.zero) (v := .slice none 0 0) (u := .int .i64 0) (p := ⟨0, 0, 0, 0, 0, 0⟩) (Sits.below LQ.out b1 LQ.out.lt)
      · exact laid_3 (W := w2) (B := w.heap.size + 1 + 1) (q := Cd.zero) (v := .slice none 0 0) (u := .int .i64 0) (p := ⟨0, 0, 0, 0, 0, 0⟩) (Sits.below LP.out b1 LP.out.lt)
      · rw [HE.out.1.1, HE.out.1.2.1, HE.out.1.2.2, HE.out.2.1, HE.out.2.2.1, HE.out.2.2.2]
      · rw [HE.out.2.1]; exact .inl (by omega)
      · rw [HE.out.1.2.1]; exact .inl (by omega)
      · exact laid_b (W := w2) (B := w.heap.size + 1 + 1) (q := Cd.zero) (v := .slice none 0 0) (u := .int .i64 0) (p := ⟨0, 0, 0, 0, 0, 0⟩) b5 (by omega)
    · go_enter Try.func5, Try.ntmps5
      go_wp2_with (first | (go_at_call 18; refine (scodelOk_any c _).mono ?_; rintro e w1 ⟨rfl, k1⟩; rw [hg]; have b1 := k1.1; clear k1; clear c0 c1 c2 c3 c4 c5 c6 x0 x1; obtain ⟨c0, c1, c2, c3, c4, c5, c6⟩ := cd_cells (Sits.below LC.out b1 LC.out.lt); have x0 : w1.cell? ⟨w.heap.size + 1, 0, none⟩ = some (.slice a n cap) := (Sits.below LF.out b1 LF.out.lt).cell 0; have x1 : w1.cell? ⟨w.heap.size + 1, 1, none⟩ = some (.int .i64 lim) := (Sits.below LF.out b1 LF.out.lt).cell 1) | (go_at_call 19; refine (sfifoOk_any a n cap f lim _ hn hnc ((PR.below H0.out b1).mono b1.size)).mono ?_; rintro e w2 ⟨rfl, bb⟩; rw [hf]; replace b1 := b1.trans (bb.mono b1.size); clear bb; clear c0 c1 c2 c3 c4 c5 c6 x0 x1; obtain ⟨c0, c1, c2, c3, c4, c5, c6⟩ := cd_cells (Sits.below LC.out b1 LC.out.lt); have x0 : w2.cell? ⟨w.heap.size + 1, 0, none⟩ = some (.slice a n cap) := (Sits.below LF.out b1 LF.out.lt).cell 0; have x1 : w2.cell? ⟨w.heap.size + 1, 1, none⟩ = some (.int .i64 lim) := (Sits.below LF.out b1 LF.out.lt).cell 1; have sR := Sits.below LR.out b1 LR.out.lt; have sQ := Sits.below LQ.out b1 LQ.out.lt; have sP := Sits.below LP.out b1 LP.out.lt; obtain ⟨r0, r1, r2, r3, r4, r5, r6⟩ := cd_cells sR; have fr := sR.frozen; have fq := sQ.frozen; have fo := sP.frozen; have q0 : w2.cell? ⟨w.heap.size + 1 + 1 + 1, 0, none⟩ = some (.slice none 0 0) := sQ.cell 0; have q1 : w2.cell? ⟨w.heap.size + 1 + 1 + 1, 1, none⟩ = some (.int .i64 0) := sQ.cell 1; have o0 : w2.cell? ⟨w.heap.size + 1 + 1 + 1 + 1, 0, none⟩ = some (.int .i64 0) := sP.cell 0; have o1 : w2.cell? ⟨w.heap.size + 1 + 1 + 1 + 1, 1, none⟩ = some (.int .i64 0) := sP.cell 1; have o2 : w2.cell? ⟨w.heap.size + 1 + 1 + 1 + 1, 2, none⟩ = some (.int .i64 0) := sP.cell 2; have o3 : w2.cell? ⟨w.heap.size + 1 + 1 + 1 + 1, 3, none⟩ = some (.int .i64 0) := sP.cell 3; have o4 : w2.cell? ⟨w.heap.size + 1 + 1 + 1 + 1, 4, none⟩ = some (.int .i64 0) := sP.cell 4; have o5 : w2.cell? ⟨w.heap.size + 1 + 1 + 1 + 1, 5, none⟩ = some (.int .i64 0) := sP.cell 5; dsimp only at *) | (go_at_call 20; refine (l5may_any a n cap f now _ hn ((PR.below H0.out b1).mono b1.size)).mono ?_; rintro e w3 ⟨rfl, h3⟩; rw [h3, hm]; clear h3))
      have b5 := B0.trans (b1.mono B0.size)
      have bs := b1.size
      refine bodyPost_ret (ret_pop (q := Cd.zero) (p := ⟨0, 0, 0, 0, 0, 0⟩) (v := .slice none 0 0) (u := .int .i64 0) (L := .slice none 0 0) (b := false) (t1 := 28) (t2 := 31) (t3 := 33) (B1 := w.heap.size + 1 + 1) (B2 := w.heap.size + 1 + 1 + 1) (B3 := w.heap.size + 1 + 1 + 1 + 1) Try.results5 rfl rfl rfl rfl rfl ?_ ?_ ?_) rfl ⟨none, 0, none, 0, ?_, ⟨?_, ?_⟩, ?_⟩
      · exact laid_1 (W := w2) (B := w.heap.size + 1 + 1) (q := Cd.zero) (v := .slice none 0 0) (u := .int .i64 0) (p := ⟨0, 0, 0, 0, 0, 0⟩) (Sits.below LR.out b1 LR.out.lt)
      · exact laid_2 (W := w2) (B := w.heap.size + 1 + 1) (q := Cd.zero) (v := .slice none 0 0) (u := .int .i64 0) (p := ⟨0, 0, 0, 0, 0, 0⟩) (Sits.below LQ.out b1 LQ.out.lt)
      · exact laid_3 (W := w2) (B := w.heap.size + 1 + 1) (q := Cd.zero) (v := .slice none 0 0) (u := .int .i64 0) (p := ⟨0, 0, 0, 0, 0, 0⟩) (Sits.below LP.out b1 LP.out.lt)
      · rw [HE.out.1.1, HE.out.1.2.1, HE.out.1.2.2, HE.out.2.1, HE.out.2.2.1, HE.out.2.2.2]
      · rw [HE.out.2.1]; exact .inl (by omega)
      · rw [HE.out.1.2.1]; exact .inl (by omega)
      · exact laid_b (W := w2) (B := w.heap.size + 1 + 1) (q := Cd.zero) (v := .slice none 0 0) (u := .int .i64 0) (p := ⟨0, 0, 0, 0, 0, 0⟩) b5 (by omega)
  case true =>
    obtain ⟨hg, hf, hi, hlast⟩ := look_parts hl
    have hm : mayB f n now = true := by unfold mayB; rw [hi]; simpa using hlast
    obtain ⟨R, hR⟩ : ∃ R, popR f n now c = R := ⟨_, rfl⟩
    have hRm : R.m ≤ n := by rw [← hR]; exact popR_le f n now c
    have hn40 : n ≤ 40 := by have := fifo_nums hf; omega
    have HAB : Hid (0 < n → ∀ b off, a = some ⟨b, off, none⟩ → (b < w.heap.size ∨ w.heap.size + 1 + 1 + 1 + 1 < b)) := by
      intro hz b off e
      obtain ⟨b', off', e', h', _⟩ := PR.at HP.out hz
      rw [e] at e'
      simp only [Option.some.injEq, Addr.mk.injEq] at e'
      omega
    have hfo := fifo_out hf R hRm
    obtain ⟨N, hN⟩ : ∃ N, n - R.m = N := ⟨_, rfl⟩
    have HE : Hid ((popC c f n lim now = R.c ∧ popK c f n lim now = N - 1 ∧ popT c f n lim now = lim) ∧ popM c f n lim now = R.m ∧ popQ c f n lim now = popF (outF f R) ∧ popO c f n lim now = decide (0 < N)) := by
      refine ⟨⟨?_, ?_, ?_⟩, ?_, ?_, ?_⟩
      · unfold popC; rw [hl, hR]; rfl
      · unfold popK; rw [hl, hR, hN]; rfl
      · unfold popT; rw [hl]; rfl
      · unfold popM; rw [hl, hR]; rfl
      · unfold popQ; rw [hR]
      · unfold popO; rw [hl, hR, ← hN, Bool.eq_iff_iff]; simp; omega
    have HUU : Hid (popU c f n lim now = if 0 < N then outF f R 0 else ⟨0, 0, 0, 0, 0, 0⟩) := by
      show _ = _
      unfold popU
      rw [HE.out.2.2.2, hR]
      by_cases e : 0 < N <;> simp [e]
    obtain ⟨M, hM⟩ : ∃ M, R.m = M := ⟨_, rfl⟩
    obtain ⟨G, hG⟩ : ∃ G, outF f R = G := ⟨_, rfl⟩
    obtain ⟨Q, hQ⟩ : ∃ Q, R.c = Q := ⟨_, rfl⟩
    have hNn : N ≤ 40 := by omega
    have hMn : M ≤ 40 := by omega
    have H5 : Hid (∀ W, Sits W w.heap.size (cdCells c) 28 → PR W.heap.size W a n f → w.heap.size + 1 + 1 + 1 + 1 < W.heap.size → Calls Try.prog 21 #[.pointer (some ⟨w.heap.size, 0, none⟩), .slice a n cap, .int .i64 now] W fun e w' => ∃ (a' : Option Addr) (k : Nat) (y : Option Addr) (l : Nat), e = .returned (.tuple #[.slice a' N k, .slice y M l]) ∧ Sits w' w.heap.size (cdCells Q) 28 ∧ PR w'.heap.size w' a' N G ∧ (0 < N → ∀ b off, a' = some ⟨b, off, none⟩ → (b < w.heap.size ∨ w.heap.size + 1 + 1 + 1 + 1 < b)) ∧ N ≤ k ∧ PO W.heap.size w' y M l f ∧ Save w.heap.size W.heap.size W w') := fun W q1 q2 q3 => by
      have := l5pop_any c w.heap.size 28 a n cap f lim now W q1 hnc q2 (fun b => b < w.heap.size ∨ w.heap.size + 1 + 1 + 1 + 1 < b) (fun b hb => by omega) (fun b hb => by omega) HAB.out hl R hR
      rw [hN, hM, hG, hQ] at this
      exact this
    rw [hM, hQ, hG] at HE
    rw [hG] at HUU
    clear hlast hR hN hM hQ hG hfo
    rcases (show N = 0 ∨ 0 < N by omega) with hz | hz
    · subst hz
      go_enter Try.func5, Try.ntmps5
      go_wp2_with (first | (go_at_call 18; refine (scodelOk_any c _).mono ?_; rintro e w1 ⟨rfl, k1⟩; rw [hg]; have b1 := k1.1; clear k1; clear c0 c1 c2 c3 c4 c5 c6 x0 x1; obtain ⟨c0, c1, c2, c3, c4, c5, c6⟩ := cd_cells (Sits.below LC.out b1 LC.out.lt); have x0 : w1.cell? ⟨w.heap.size + 1, 0, none⟩ = some (.slice a n cap) := (Sits.below LF.out b1 LF.out.lt).cell 0; have x1 : w1.cell? ⟨w.heap.size + 1, 1, none⟩ = some (.int .i64 lim) := (Sits.below LF.out b1 LF.out.lt).cell 1) | (go_at_call 19; refine (sfifoOk_any a n cap f lim _ hn hnc ((PR.below H0.out b1).mono b1.size)).mono ?_; rintro e w2 ⟨rfl, bb⟩; rw [hf]; replace b1 := b1.trans (bb.mono b1.size); clear bb; clear c0 c1 c2 c3 c4 c5 c6 x0 x1; obtain ⟨c0, c1, c2, c3, c4, c5, c6⟩ := cd_cells (Sits.below LC.out b1 LC.out.lt); have x0 : w2.cell? ⟨w.heap.size + 1, 0, none⟩ = some (.slice a n cap) := (Sits.below LF.out b1 LF.out.lt).cell 0; have x1 : w2.cell? ⟨w.heap.size + 1, 1, none⟩ = some (.int .i64 lim) := (Sits.below LF.out b1 LF.out.lt).cell 1) | (go_at_call 20; refine (l5may_any a n cap f now _ hn ((PR.below H0.out b1).mono b1.size)).mono ?_; rintro e w3 ⟨rfl, h3⟩; rw [h3, hm]; clear h3) | (go_at_call 21; refine (H5.out w2 (Sits.below LC.out b1 LC.out.lt) ((PR.below H0.out b1).mono b1.size) (by have := (Sits.below LP.out b1 LP.out.lt).lt; omega)).mono ?_; rintro e w4 ⟨a4, k4, y4, l4, rfl, s4, p4, hb4, hk4, d4, v4⟩; have hs4 := v4.size) | (at_builtin; refine wpList_append_pk rfl _ _ rfl w4.heap.size _ rfl (pk_empty _ _ _ (Nat.le_refl _) (World.alloc_heap_new w4 _)) y4 M l4 f rfl ((PR.below (ZI.pr (PO.zi d4)) ((Below.refl _ _).alloc (Nat.le_refl _) _)).mono (by simp)) (by omega) (by simp) ?_; intro y5 l5 w5 d5 g5; have b45 : Below w4.heap.size w4 w5 := ((Below.refl w4.heap.size w4).alloc (Nat.le_refl _) _).grown g5 (by simp) (fun _ e => ownB e); clear g5; have hs2 : w.heap.size + 1 + 1 + 1 + 1 < w2.heap.size := (Sits.below LP.out b1 LP.out.lt).lt; have sC := Sits.below s4 b45 (Sits.lt s4); have sF := Sits.below (Sits.save (Sits.below LF.out b1 LF.out.lt) v4 (by omega) (by omega)) b45 (by omega); have sR := Sits.below (Sits.save (Sits.below LR.out b1 LR.out.lt) v4 (by omega) (by omega)) b45 (by omega); have sQ := Sits.below (Sits.save (Sits.below LQ.out b1 LQ.out.lt) v4 (by omega) (by omega)) b45 (by omega); have sP := Sits.below (Sits.save (Sits.below LP.out b1 LP.out.lt) v4 (by omega) (by omega)) b45 (by omega); have b24 : Below w.heap.size w2 w4 := ⟨v4.os, v4.tape, v4.output, v4.size, fun k hk => v4.block k (by omega) (by omega)⟩; have b05 : Below w.heap.size w w5 := ((B0.trans (b1.mono B0.size)).trans b24).trans (b45.mono (by omega)); have hs5 := b45.size; clear c0 c1 c2 c3 c4 c5 c6 x0 x1; obtain ⟨c0, c1, c2, c3, c4, c5, c6⟩ := cd_cells sC; have x0 : w5.cell? ⟨w.heap.size + 1, 0, none⟩ = some (.slice a n cap) := sF.cell 0; have x1 : w5.cell? ⟨w.heap.size + 1, 1, none⟩ = some (.int .i64 lim) := sF.cell 1; have SR5 : Hid (Sits w5 (w.heap.size + 1 + 1) (cdCells ⟨0, 0, 0, 0, 0, 0, false⟩) 28) := sR; have SQ5 : Hid (Sits w5 (w.heap.size + 1 + 1 + 1) #[.slice none 0 0, .int .i64 0] 31) := sQ; have SP5 : Hid (Sits w5 (w.heap.size + 1 + 1 + 1 + 1) (pkCells ⟨0, 0, 0, 0, 0, 0⟩) 33) := sP; obtain ⟨r0, r1, r2, r3, r4, r5, r6⟩ := cd_cells sR; have fr := sR.frozen; have fq := sQ.frozen; have fo := sP.frozen; have q0 : w5.cell? ⟨w.heap.size + 1 + 1 + 1, 0, none⟩ = some (.slice none 0 0) := sQ.cell 0; have q1 : w5.cell? ⟨w.heap.size + 1 + 1 + 1, 1, none⟩ = some (.int .i64 0) := sQ.cell 1; have o0 : w5.cell? ⟨w.heap.size + 1 + 1 + 1 + 1, 0, none⟩ = some (.int .i64 0) := sP.cell 0; have o1 : w5.cell? ⟨w.heap.size + 1 + 1 + 1 + 1, 1, none⟩ = some (.int .i64 0) := sP.cell 1; have o2 : w5.cell? ⟨w.heap.size + 1 + 1 + 1 + 1, 2, none⟩ = some (.int .i64 0) := sP.cell 2; have o3 : w5.cell? ⟨w.heap.size + 1 + 1 + 1 + 1, 3, none⟩ = some (.int .i64 0) := sP.cell 3; have o4 : w5.cell? ⟨w.heap.size + 1 + 1 + 1 + 1, 4, none⟩ = some (.int .i64 0) := sP.cell 4; have o5 : w5.cell? ⟨w.heap.size + 1 + 1 + 1 + 1, 5, none⟩ = some (.int .i64 0) := sP.cell 5; dsimp only at r0 r1 r2 r3 r4 r5 r6; clear sC sF sR sQ sP))
      have hS0 : SV w.heap.size Q (w.heap.size + 1) a n cap lim w5 := ⟨⟨c0, c1, c2, c3, c4, c5, c6⟩, x0, x1⟩
      set_option maxRecDepth 100000 in go_region_held3 (fun w' => SV w.heap.size Q (w.heap.size + 1) a n cap lim w') (first | (repeat first | (with_reducible exact hS0) | (with_reducible refine SV.drew ?_) | (with_reducible refine SV.set ?_ (by omega) (by omega)))) (fail)
      go_wp2
      refine bodyPost_ret (ret_pop (q := Q) (p := ⟨0, 0, 0, 0, 0, 0⟩) (v := .slice none 0 0) (u := .int .i64 lim) (L := .slice y5 M l5) (b := false) (t1 := 28) (t2 := 31) (t3 := 33) (B1 := w.heap.size + 1 + 1) (B2 := w.heap.size + 1 + 1 + 1) (B3 := w.heap.size + 1 + 1 + 1 + 1) Try.results5 rfl rfl rfl rfl rfl ?_ ?_ ?_) rfl ⟨none, 0, y5, l5, ?_, ⟨?_, ?_⟩, ?_⟩
      · exact Sits.drew (laid_1 (W := w5) (B := w.heap.size + 1 + 1) (q := Q) (v := .slice none 0 0) (u := .int .i64 lim) (p := ⟨0, 0, 0, 0, 0, 0⟩) SR5.out)
      · exact Sits.drew (laid_2 (W := w5) (B := w.heap.size + 1 + 1) (q := Q) (v := .slice none 0 0) (u := .int .i64 lim) (p := ⟨0, 0, 0, 0, 0, 0⟩) SQ5.out)
      · exact Sits.drew (laid_3 (W := w5) (B := w.heap.size + 1 + 1) (q := Q) (v := .slice none 0 0) (u := .int .i64 lim) (p := ⟨0, 0, 0, 0, 0, 0⟩) SP5.out)
      · rw [HE.out.1.1, HE.out.1.2.1, HE.out.1.2.2, HE.out.2.1, HE.out.2.2.2, HUU.out]; rfl
      · rw [HE.out.2.1]; exact ZI.wide (zi_drew (laid_z (W := w5) (B := w.heap.size + 1 + 1) (q := Q) (v := .slice none 0 0) (u := .int .i64 lim) (p := ⟨0, 0, 0, 0, 0, 0⟩) (PO.zi d5) (by omega))) (by omega) (by rw [size_drew]; exact Nat.le_of_eq (laid_s w5 (w.heap.size + 1 + 1) Q (.slice none 0 0) (.int .i64 lim) ⟨0, 0, 0, 0, 0, 0⟩).symm)
      · rw [HE.out.1.2.1]; exact .inl (by omega)
      · exact (laid_b (W := w5) (B := w.heap.size + 1 + 1) (q := Q) (v := .slice none 0 0) (u := .int .i64 lim) (p := ⟨0, 0, 0, 0, 0, 0⟩) b05 (by omega)).drew
    · have hz' : ((N : Int) == 0) = false := by simp; omega
      go_enter Try.func5, Try.ntmps5
      go_wp2_with (first | (go_at_call 18; refine (scodelOk_any c _).mono ?_; rintro e w1 ⟨rfl, k1⟩; rw [hg]; have b1 := k1.1; clear k1; clear c0 c1 c2 c3 c4 c5 c6 x0 x1; obtain ⟨c0, c1, c2, c3, c4, c5, c6⟩ := cd_cells (Sits.below LC.out b1 LC.out.lt); have x0 : w1.cell? ⟨w.heap.size + 1, 0, none⟩ = some (.slice a n cap) := (Sits.below LF.out b1 LF.out.lt).cell 0; have x1 : w1.cell? ⟨w.heap.size + 1, 1, none⟩ = some (.int .i64 lim) := (Sits.below LF.out b1 LF.out.lt).cell 1) | (go_at_call 19; refine (sfifoOk_any a n cap f lim _ hn hnc ((PR.below H0.out b1).mono b1.size)).mono ?_; rintro e w2 ⟨rfl, bb⟩; rw [hf]; replace b1 := b1.trans (bb.mono b1.size); clear bb; clear c0 c1 c2 c3 c4 c5 c6 x0 x1; obtain ⟨c0, c1, c2, c3, c4, c5, c6⟩ := cd_cells (Sits.below LC.out b1 LC.out.lt); have x0 : w2.cell? ⟨w.heap.size + 1, 0, none⟩ = some (.slice a n cap) := (Sits.below LF.out b1 LF.out.lt).cell 0; have x1 : w2.cell? ⟨w.heap.size + 1, 1, none⟩ = some (.int .i64 lim) := (Sits.below LF.out b1 LF.out.lt).cell 1) | (go_at_call 20; refine (l5may_any a n cap f now _ hn ((PR.below H0.out b1).mono b1.size)).mono ?_; rintro e w3 ⟨rfl, h3⟩; rw [h3, hm]; clear h3) | (go_at_call 21; refine (H5.out w2 (Sits.below LC.out b1 LC.out.lt) ((PR.below H0.out b1).mono b1.size) (by have := (Sits.below LP.out b1 LP.out.lt).lt; omega)).mono ?_; rintro e w4 ⟨a4, k4, y4, l4, rfl, s4, p4, hb4, hk4, d4, v4⟩; have hs4 := v4.size) | (at_builtin; refine wpList_append_pk rfl _ _ rfl w4.heap.size _ rfl (pk_empty _ _ _ (Nat.le_refl _) (World.alloc_heap_new w4 _)) y4 M l4 f rfl ((PR.below (ZI.pr (PO.zi d4)) ((Below.refl _ _).alloc (Nat.le_refl _) _)).mono (by simp)) (by omega) (by simp) ?_; intro y5 l5 w5 d5 g5; have b45 : Below w4.heap.size w4 w5 := ((Below.refl w4.heap.size w4).alloc (Nat.le_refl _) _).grown g5 (by simp) (fun _ e => ownB e); clear g5; have hs2 : w.heap.size + 1 + 1 + 1 + 1 < w2.heap.size := (Sits.below LP.out b1 LP.out.lt).lt; have sC := Sits.below s4 b45 (Sits.lt s4); have sF := Sits.below (Sits.save (Sits.below LF.out b1 LF.out.lt) v4 (by omega) (by omega)) b45 (by omega); have sR := Sits.below (Sits.save (Sits.below LR.out b1 LR.out.lt) v4 (by omega) (by omega)) b45 (by omega); have sQ := Sits.below (Sits.save (Sits.below LQ.out b1 LQ.out.lt) v4 (by omega) (by omega)) b45 (by omega); have sP := Sits.below (Sits.save (Sits.below LP.out b1 LP.out.lt) v4 (by omega) (by omega)) b45 (by omega); have b24 : Below w.heap.size w2 w4 := ⟨v4.os, v4.tape, v4.output, v4.size, fun k hk => v4.block k (by omega) (by omega)⟩; have b05 : Below w.heap.size w w5 := ((B0.trans (b1.mono B0.size)).trans b24).trans (b45.mono (by omega)); have hs5 := b45.size; clear c0 c1 c2 c3 c4 c5 c6 x0 x1; obtain ⟨c0, c1, c2, c3, c4, c5, c6⟩ := cd_cells sC; have x0 : w5.cell? ⟨w.heap.size + 1, 0, none⟩ = some (.slice a n cap) := sF.cell 0; have x1 : w5.cell? ⟨w.heap.size + 1, 1, none⟩ = some (.int .i64 lim) := sF.cell 1; have SR5 : Hid (Sits w5 (w.heap.size + 1 + 1) (cdCells ⟨0, 0, 0, 0, 0, 0, false⟩) 28) := sR; have SQ5 : Hid (Sits w5 (w.heap.size + 1 + 1 + 1) #[.slice none 0 0, .int .i64 0] 31) := sQ; have SP5 : Hid (Sits w5 (w.heap.size + 1 + 1 + 1 + 1) (pkCells ⟨0, 0, 0, 0, 0, 0⟩) 33) := sP; obtain ⟨r0, r1, r2, r3, r4, r5, r6⟩ := cd_cells sR; have fr := sR.frozen; have fq := sQ.frozen; have fo := sP.frozen; have q0 : w5.cell? ⟨w.heap.size + 1 + 1 + 1, 0, none⟩ = some (.slice none 0 0) := sQ.cell 0; have q1 : w5.cell? ⟨w.heap.size + 1 + 1 + 1, 1, none⟩ = some (.int .i64 0) := sQ.cell 1; have o0 : w5.cell? ⟨w.heap.size + 1 + 1 + 1 + 1, 0, none⟩ = some (.int .i64 0) := sP.cell 0; have o1 : w5.cell? ⟨w.heap.size + 1 + 1 + 1 + 1, 1, none⟩ = some (.int .i64 0) := sP.cell 1; have o2 : w5.cell? ⟨w.heap.size + 1 + 1 + 1 + 1, 2, none⟩ = some (.int .i64 0) := sP.cell 2; have o3 : w5.cell? ⟨w.heap.size + 1 + 1 + 1 + 1, 3, none⟩ = some (.int .i64 0) := sP.cell 3; have o4 : w5.cell? ⟨w.heap.size + 1 + 1 + 1 + 1, 4, none⟩ = some (.int .i64 0) := sP.cell 4; have o5 : w5.cell? ⟨w.heap.size + 1 + 1 + 1 + 1, 5, none⟩ = some (.int .i64 0) := sP.cell 5; dsimp only at r0 r1 r2 r3 r4 r5 r6; clear sC sF sR sQ sP))
      obtain ⟨b, off, rfl, hbl, hcs⟩ := PR.at p4 hz
      have hbz := hb4 hz b off rfl
      obtain ⟨P, hP0⟩ : ∃ P, G 0 = P := ⟨_, rfl⟩
      have HC : Hid (∀ i, i < N → PAt w5 b (off + i * 6) (G i)) := fun i hi => (hcs i hi).below b45 hbl
      obtain ⟨d0, d1, d2, d3, d4', d5'⟩ := HC.out 0 hz
      rw [hP0] at d0 d1 d2 d3 d4' d5'
      simp only [Nat.zero_mul, Nat.add_zero] at d0 d1 d2 d3 d4' d5'
      have hni : (0 : Int) < (N : Int) := by omega
      have hn1 : (1 : Int) ≤ (N : Int) := by omega
      have hS1 : SG w.heap.size Q (w.heap.size + 1) lim b off P w5 := ⟨⟨c0, c1, c2, c3, c4, c5, c6⟩, x1, d0, d1, d2, d3, d4', d5'⟩
      have hSa : ∀ o, SG w.heap.size Q (w.heap.size + 1) lim b off P (w5.alloc o).drew := fun o => (hS1.below ((Below.refl w5.heap.size w5).alloc (Nat.le_refl _) o) (by omega) (by omega) (by omega)).drew
      have HP0 : Hid (G 0 = P) := hP0
      clear hcs
      by_cases hc1 : k4 = 1
      · obtain rfl : N = 1 := by omega
        subst hc1
        set_option maxRecDepth 100000 in go_region_held3 (fun w' => SG w.heap.size Q (w.heap.size + 1) lim b off P w') (first | (with_reducible exact hSa _) | (repeat first | (with_reducible exact hS1) | (with_reducible exact hS2) | (with_reducible refine SG.drew ?_) | (with_reducible refine SG.set ?_ (by omega) (by omega) (by omega)))) (first | (refine step_append_pk (by rfl) _ _ (by rfl) w5.heap.size (.slice (some ⟨w5.heap.size, 0, none⟩) 0 0) (by rfl) (pk_empty_new _ _ _ (by simp) (by omega)) _ (0) _ (popF G) (by rfl) (.inl rfl) (by omega) (by simp) ?_; intro x6 k6 w6 hpo hgrow; have b56 : Below w5.heap.size w5 w6 := Below.grown (B := w5.heap.size) (a := w5) (by go_grown) hgrow (by simp) (fun _ e => ownB e); clear hgrow; have hS2 : SG w.heap.size Q (w.heap.size + 1) lim b off P w6 := hS1.below b56 (by omega) (by omega) (by omega); have sR := Sits.below SR5.out b56 (by omega); have sQ := Sits.below SQ5.out b56 (by omega); have sP := Sits.below SP5.out b56 (by omega); clear r0 r1 r2 r3 r4 r5 r6 fr fq fo q0 q1 o0 o1 o2 o3 o4 o5; obtain ⟨r0, r1, r2, r3, r4, r5, r6⟩ := cd_cells sR; have fr := sR.frozen; have fq := sQ.frozen; have fo := sP.frozen; have q0 : w6.cell? ⟨w.heap.size + 1 + 1 + 1, 0, none⟩ = some (.slice none 0 0) := sQ.cell 0; have q1 : w6.cell? ⟨w.heap.size + 1 + 1 + 1, 1, none⟩ = some (.int .i64 0) := sQ.cell 1; have o0 : w6.cell? ⟨w.heap.size + 1 + 1 + 1 + 1, 0, none⟩ = some (.int .i64 0) := sP.cell 0; have o1 : w6.cell? ⟨w.heap.size + 1 + 1 + 1 + 1, 1, none⟩ = some (.int .i64 0) := sP.cell 1; have o2 : w6.cell? ⟨w.heap.size + 1 + 1 + 1 + 1, 2, none⟩ = some (.int .i64 0) := sP.cell 2; have o3 : w6.cell? ⟨w.heap.size + 1 + 1 + 1 + 1, 3, none⟩ = some (.int .i64 0) := sP.cell 3; have o4 : w6.cell? ⟨w.heap.size + 1 + 1 + 1 + 1, 4, none⟩ = some (.int .i64 0) := sP.cell 4; have o5 : w6.cell? ⟨w.heap.size + 1 + 1 + 1 + 1, 5, none⟩ = some (.int .i64 0) := sP.cell 5; dsimp only at r0 r1 r2 r3 r4 r5 r6; have SR6 : Hid (Sits w6 (w.heap.size + 1 + 1) (cdCells ⟨0, 0, 0, 0, 0, 0, false⟩) 28) := sR; have SQ6 : Hid (Sits w6 (w.heap.size + 1 + 1 + 1) #[.slice none 0 0, .int .i64 0] 31) := sQ; have SP6 : Hid (Sits w6 (w.heap.size + 1 + 1 + 1 + 1) (pkCells ⟨0, 0, 0, 0, 0, 0⟩) 33) := sP; clear sR sQ sP))
        all_goals
          have hs6 := b56.size
          go_wp2
          refine bodyPost_ret (ret_pop (q := Q) (p := P) (v := .slice x6 (0) k6) (u := .int .i64 lim) (L := .slice y5 M l5) (b := true) (t1 := 28) (t2 := 31) (t3 := 33) (B1 := w.heap.size + 1 + 1) (B2 := w.heap.size + 1 + 1 + 1) (B3 := w.heap.size + 1 + 1 + 1 + 1) Try.results5 rfl rfl rfl rfl rfl ?_ ?_ ?_) rfl ⟨x6, k6, y5, l5, ?_, ⟨?_, ?_⟩, ?_⟩
          · exact laid_1 (W := w6) (B := w.heap.size + 1 + 1) (q := Q) (v := .slice x6 (0) k6) (u := .int .i64 lim) (p := P) SR6.out
          · exact laid_2 (W := w6) (B := w.heap.size + 1 + 1) (q := Q) (v := .slice x6 (0) k6) (u := .int .i64 lim) (p := P) SQ6.out
          · exact laid_3 (W := w6) (B := w.heap.size + 1 + 1) (q := Q) (v := .slice x6 (0) k6) (u := .int .i64 lim) (p := P) SP6.out
          · rw [HE.out.1.1, HE.out.1.2.1, HE.out.1.2.2, HE.out.2.1, HE.out.2.2.2, HUU.out, if_pos hz, hP0, decide_eq_true hz]
          · rw [HE.out.2.1]; exact ZI.wide (laid_z (W := w6) (B := w.heap.size + 1 + 1) (q := Q) (v := .slice x6 (0) k6) (u := .int .i64 lim) (p := P) (ZI.below (PO.zi d5) b56) (by omega)) (by omega) (Nat.le_trans hs6 (Nat.le_of_eq (laid_s w6 (w.heap.size + 1 + 1) Q (.slice x6 (0) k6) (.int .i64 lim) P).symm))
          · rw [HE.out.1.2.1, HE.out.2.2.1]; exact ZI.wide (laid_z (W := w6) (B := w.heap.size + 1 + 1) (q := Q) (v := .slice x6 (0) k6) (u := .int .i64 lim) (p := P) (PO.zi hpo) (by omega)) (by omega) (Nat.le_of_eq (laid_s w6 (w.heap.size + 1 + 1) Q (.slice x6 (0) k6) (.int .i64 lim) P).symm)
          · exact laid_b (W := w6) (B := w.heap.size + 1 + 1) (q := Q) (v := .slice x6 (0) k6) (u := .int .i64 lim) (p := P) (b05.trans (b56.mono b05.size)) (by omega)
      · have hc2 : ¬ k4 - 1 = 0 := by omega
        have hc3 : (1 : Int) ≤ (k4 : Int) := by omega
        set_option maxRecDepth 100000 in go_region_held3 (fun w' => SG w.heap.size Q (w.heap.size + 1) lim b off P w') (first | (with_reducible exact hSa _) | (repeat first | (with_reducible exact hS1) | (with_reducible exact hS2) | (with_reducible refine SG.drew ?_) | (with_reducible refine SG.set ?_ (by omega) (by omega) (by omega)))) (first | (refine step_append_pk (by rfl) _ _ (by rfl) w5.heap.size (.slice (some ⟨w5.heap.size, 0, none⟩) 0 0) (by rfl) (pk_empty_new _ _ _ (by simp) (by omega)) (some ⟨b, off + 6, none⟩) (N - 1) (k4 - 1) (popF G) (by rfl) (PR.tail (fun i hi => (HC.out i hi).below (w' := (w5.alloc (.cells #[] 33)).drew) (n₀ := w5.heap.size) (by go_grown) (by omega)) (by simp; omega)) (by omega) (by simp) ?_; intro x6 k6 w6 hpo hgrow; have b56 : Below w5.heap.size w5 w6 := Below.grown (B := w5.heap.size) (a := w5) (by go_grown) hgrow (by simp) (fun _ e => ownB e); clear hgrow; have hS2 : SG w.heap.size Q (w.heap.size + 1) lim b off P w6 := hS1.below b56 (by omega) (by omega) (by omega); have sR := Sits.below SR5.out b56 (by omega); have sQ := Sits.below SQ5.out b56 (by omega); have sP := Sits.below SP5.out b56 (by omega); clear r0 r1 r2 r3 r4 r5 r6 fr fq fo q0 q1 o0 o1 o2 o3 o4 o5; obtain ⟨r0, r1, r2, r3, r4, r5, r6⟩ := cd_cells sR; have fr := sR.frozen; have fq := sQ.frozen; have fo := sP.frozen; have q0 : w6.cell? ⟨w.heap.size + 1 + 1 + 1, 0, none⟩ = some (.slice none 0 0) := sQ.cell 0; have q1 : w6.cell? ⟨w.heap.size + 1 + 1 + 1, 1, none⟩ = some (.int .i64 0) := sQ.cell 1; have o0 : w6.cell? ⟨w.heap.size + 1 + 1 + 1 + 1, 0, none⟩ = some (.int .i64 0) := sP.cell 0; have o1 : w6.cell? ⟨w.heap.size + 1 + 1 + 1 + 1, 1, none⟩ = some (.int .i64 0) := sP.cell 1; have o2 : w6.cell? ⟨w.heap.size + 1 + 1 + 1 + 1, 2, none⟩ = some (.int .i64 0) := sP.cell 2; have o3 : w6.cell? ⟨w.heap.size + 1 + 1 + 1 + 1, 3, none⟩ = some (.int .i64 0) := sP.cell 3; have o4 : w6.cell? ⟨w.heap.size + 1 + 1 + 1 + 1, 4, none⟩ = some (.int .i64 0) := sP.cell 4; have o5 : w6.cell? ⟨w.heap.size + 1 + 1 + 1 + 1, 5, none⟩ = some (.int .i64 0) := sP.cell 5; dsimp only at r0 r1 r2 r3 r4 r5 r6; have SR6 : Hid (Sits w6 (w.heap.size + 1 + 1) (cdCells ⟨0, 0, 0, 0, 0, 0, false⟩) 28) := sR; have SQ6 : Hid (Sits w6 (w.heap.size + 1 + 1 + 1) #[.slice none 0 0, .int .i64 0] 31) := sQ; have SP6 : Hid (Sits w6 (w.heap.size + 1 + 1 + 1 + 1) (pkCells ⟨0, 0, 0, 0, 0, 0⟩) 33) := sP; clear sR sQ sP))
        all_goals
          have hs6 := b56.size
          go_wp2
          refine bodyPost_ret (ret_pop (q := Q) (p := P) (v := .slice x6 (N - 1) k6) (u := .int .i64 lim) (L := .slice y5 M l5) (b := true) (t1 := 28) (t2 := 31) (t3 := 33) (B1 := w.heap.size + 1 + 1) (B2 := w.heap.size + 1 + 1 + 1) (B3 := w.heap.size + 1 + 1 + 1 + 1) Try.results5 rfl rfl rfl rfl rfl ?_ ?_ ?_) rfl ⟨x6, k6, y5, l5, ?_, ⟨?_, ?_⟩, ?_⟩
          · exact laid_1 (W := w6) (B := w.heap.size + 1 + 1) (q := Q) (v := .slice x6 (N - 1) k6) (u := .int .i64 lim) (p := P) SR6.out
          · exact laid_2 (W := w6) (B := w.heap.size + 1 + 1) (q := Q) (v := .slice x6 (N - 1) k6) (u := .int .i64 lim) (p := P) SQ6.out
          · exact laid_3 (W := w6) (B := w.heap.size + 1 + 1) (q := Q) (v := .slice x6 (N - 1) k6) (u := .int .i64 lim) (p := P) SP6.out
          · rw [HE.out.1.1, HE.out.1.2.1, HE.out.1.2.2, HE.out.2.1, HE.out.2.2.2, HUU.out, if_pos hz, hP0, decide_eq_true hz]
          · rw [HE.out.2.1]; exact ZI.wide (laid_z (W := w6) (B := w.heap.size + 1 + 1) (q := Q) (v := .slice x6 (N - 1) k6) (u := .int .i64 lim) (p := P) (ZI.below (PO.zi d5) b56) (by omega)) (by omega) (Nat.le_trans hs6 (Nat.le_of_eq (laid_s w6 (w.heap.size + 1 + 1) Q (.slice x6 (N - 1) k6) (.int .i64 lim) P).symm))
          · rw [HE.out.1.2.1, HE.out.2.2.1]; exact ZI.wide (laid_z (W := w6) (B := w.heap.size + 1 + 1) (q := Q) (v := .slice x6 (N - 1) k6) (u := .int .i64 lim) (p := P) (PO.zi hpo) (by omega)) (by omega) (Nat.le_of_eq (laid_s w6 (w.heap.size + 1 + 1) Q (.slice x6 (N - 1) k6) (.int .i64 lim) P).symm)
          · exact laid_b (W := w6) (B := w.heap.size + 1 + 1) (q := Q) (v := .slice x6 (N - 1) k6) (u := .int .i64 lim) (p := P) (b05.trans (b56.mono b05.size)) (by omega)

end Go.Proofs.Ytlhiadehohikdaa
