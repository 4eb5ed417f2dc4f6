/-
  THE SPECIFICATION's l5pop.
-/
import Derived.Test.YtlhiadehohikdaaHitS
import Derived.Test.YtlhiadehohikdaaCPopL
namespace Go.Proofs.Ytlhiadehohikdaa
open Go.RowKit
set_option linter.unusedVariables false

theorem Sits.save {B H : Nat} {w w' : World} {V : Nat} {vs : Array Value} {t : TypeId} (h : Sits w V vs t) (hs : Save B H w w') (hV : V < H) (hn : V ≠ B) : Sits w' V vs t := (hs.block V hV hn).trans h

set_option maxRecDepth 100000 in
set_option maxHeartbeats 4000000 in
theorem l5pop_calm (c : Cd) (B : Nat) (t : TypeId) (a : Option Addr) (n cap : Nat) (f : Nat → Pk) (lim now : Int) (w : World) (hs : Sits w B (cdCells c) t) (hnc : n ≤ cap) (hP : PR w.heap.size w a n f) (hl : lookB c f n lim now = true) (hb : lateB c f n now = false) :
    Calls Try.prog 21 #[.pointer (some ⟨B, 0, none⟩), .slice a n cap, .int .i64 now] w fun e w' => e = .returned (.tuple #[.slice a n cap, .slice none 0 0]) ∧ Sits w' B (cdCells (dropR.noDr (lateC c f n now))) t ∧ Save B w.heap.size w w' := by
  have HS : Hid (Sits w B (cdCells c) t) := hs
  have HP : Hid (PR w.heap.size w a n f) := hP
  clear hs hP
  obtain ⟨hg, hf, hi, _⟩ := look_parts hl
  obtain ⟨n0, n1⟩ : 0 ≤ now ∧ now ≤ 1000000000000 := by simpa [inB] using hi
  obtain ⟨f1, f2, f3, f4⟩ := fifo_nums hf
  have HA : Hid (∀ j, j < n → (f j).good = true) := fun j hj => (f4 j hj).1
  have hn40 : n ≤ 40 := by omega
  have hdr := (lateC_nx c f n now).2.2.2.2.1
  obtain ⟨q, hq⟩ : ∃ q, lateC c f n now = q := ⟨_, rfl⟩
  have HQ : Hid (lateC c f n now = q) := hq
  rw [hq] at hdr ⊢
  clear hq f4 hf hi
  by_cases hz : n = 0
  · subst hz
    go_enter Try.func21, Try.ntmps21
    go_wp2_with (go_at_call 28; refine (l5late_any c B t a 0 cap f now w HS.out hn40 HP.out HA.out hg n0 n1).mono ?_; rintro e w1 ⟨rfl, s1, o1⟩; rw [hb]; rw [HQ.out] at s1; obtain ⟨c0, c1, c2, c3, c4, c5, c6⟩ := cd_cells s1; have fz := s1.frozen; have S1 : Hid _ := s1; clear s1)
    refine bodyPost_ret (v := .tuple #[.slice a 0 cap, .slice none 0 0]) (by simp [results, Try.results21, go_sem]) rfl ⟨rfl, cd_s6 S1.out false, (Save.of_only o1 (Nat.le_refl _)).set 6 _⟩
  have hz' : ((n : Int) == 0) = false := by simpa using hz
  cases hd : c.dr
  · rw [hd] at hdr
    have HN : Hid (dropR.noDr q = q) := by show _ = _; unfold dropR.noDr; rw [← hdr]
    go_enter Try.func21, Try.ntmps21
    go_wp2_with (go_at_call 28; refine (l5late_any c B t a n cap f now w HS.out hn40 HP.out HA.out hg n0 n1).mono ?_; rintro e w1 ⟨rfl, s1, o1⟩; rw [hb]; rw [HQ.out] at s1; obtain ⟨c0, c1, c2, c3, c4, c5, c6⟩ := cd_cells s1; rw [hdr] at c6; have fz := s1.frozen; have S1 : Hid _ := s1; clear s1)
    refine bodyPost_ret (v := .tuple #[.slice a n cap, .slice none 0 0]) (by simp [results, Try.results21, go_sem]) rfl ⟨rfl, by rw [HN.out]; exact S1.out, Save.of_only o1 (Nat.le_refl _)⟩
  · rw [hd] at hdr
    go_enter Try.func21, Try.ntmps21
    go_wp2_with (go_at_call 28; refine (l5late_any c B t a n cap f now w HS.out hn40 HP.out HA.out hg n0 n1).mono ?_; rintro e w1 ⟨rfl, s1, o1⟩; rw [hb]; rw [HQ.out] at s1; obtain ⟨c0, c1, c2, c3, c4, c5, c6⟩ := cd_cells s1; rw [hdr] at c6; have fz := s1.frozen; have S1 : Hid _ := s1; clear s1)
    go_loopw [1, 8, 9, 10] (fun l d lt mk W => l = .slice a n cap ∧ d = .slice none 0 0 ∧ mk = .bool false ∧ Sits W B (cdCells (dropR.noDr q)) t ∧ Save B w.heap.size w W) (fun _ _ _ _ _ => 0)
    case atStart => exact ⟨rfl, rfl, rfl, cd_s6 S1.out false, (Save.of_only o1 (Nat.le_refl _)).set 6 _⟩
    case round =>
      obtain ⟨rfl, rfl, rfl, s2, b2⟩ := hrel
      obtain ⟨z0, z1, z2, z3, z4, z5, z6⟩ := cd_cells s2
      dsimp only [dropR.noDr] at z0 z1 z2 z3 z4 z5 z6
      have S2 : Hid _ := s2
      have B2 : Hid _ := b2
      clear s2 b2 c0 c1 c2 c3 c4 c5 c6 fz
      go_wp2
      refine bodyPost_ret (v := .tuple #[.slice a n cap, .slice none 0 0]) (by simp [results, Try.results21, go_sem]) rfl ⟨rfl, S2.out, B2.out⟩

/-- Where the loop stands. -/
inductive Spin (Pb : Nat → Prop) (B H : Nat) (t : TypeId) (f : Nat → Pk) (n : Nat) (lim now : Int) (R : Res) (W : World) : Value → Value → Value → Prop where
  | go (c : Cd) (m : Nat) (a : Option Addr) (k : Nat) (y : Option Addr) (l : Nat) (hs : Sits W B (cdCells c) t) (hd : c.dr = true) (hP : PR H W a (n - m) (shiftF f m)) (hab : ∀ b off, a = some ⟨b, off, none⟩ → Pb b) (hk : n - m ≤ k) (hy : PO H W y m l f) (hm : m < n) (hl : lookB c (shiftF f m) (n - m) lim now = true) (hR : dropR f n now (n - m) c m = R) : Spin Pb B H t f n lim now R W (.slice a (n - m) k) (.slice y m l) (.bool false)
  | fin (a : Option Addr) (k : Nat) (y : Option Addr) (l : Nat) (mk : Bool) (hs : Sits W B (cdCells R.c) t) (hP : PR W.heap.size W a (n - R.m) (outF f R)) (hab : ∀ b off, a = some ⟨b, off, none⟩ → Pb b) (hk : n - R.m ≤ k) (hy : PO H W y R.m l f) (hx : R.c.dr = false ∨ (R.c.dr = true ∧ now < R.c.nx) ∨ (R.c.dr = true ∧ ¬ now < R.c.nx ∧ mk = true)) : Spin Pb B H t f n lim now R W (.slice a (n - R.m) k) (.slice y R.m l) (.bool mk)
def slen (v : Value) : Nat := match v with | .slice _ n _ => n | _ => 0
def unmk (v : Value) : Nat := match v with | .bool true => 0 | _ => 1

set_option maxRecDepth 100000 in
set_option maxHeartbeats 8000000 in
theorem l5pop_drop (c : Cd) (B : Nat) (t : TypeId) (a : Option Addr) (n cap : Nat) (f : Nat → Pk) (lim now : Int) (w : World) (hs : Sits w B (cdCells c) t) (hnc : n ≤ cap) (hP : PR w.heap.size w a n f) (Pb : Nat → Prop) (hPb : ∀ b, Pb b → b ≠ B) (hPn : ∀ b, w.heap.size ≤ b → Pb b) (hab : ∀ b off, a = some ⟨b, off, none⟩ → Pb b) (hl : lookB c f n lim now = true) (hb : lateB c f n now = true) (hd : c.dr = true) (R : Res) (hR : popR f n now c = R) :
    Calls Try.prog 21 #[.pointer (some ⟨B, 0, none⟩), .slice a n cap, .int .i64 now] w fun e w' => ∃ (a' : Option Addr) (k : Nat) (y : Option Addr) (l : Nat), e = .returned (.tuple #[.slice a' (n - R.m) k, .slice y R.m l]) ∧ Sits w' B (cdCells R.c) t ∧ PR w'.heap.size w' a' (n - R.m) (outF f R) ∧ (∀ b off, a' = some ⟨b, off, none⟩ → Pb b) ∧ n - R.m ≤ k ∧ PO w.heap.size w' y R.m l f ∧ Save B w.heap.size w w' := by
  have HS : Hid (Sits w B (cdCells c) t) := hs
  have hBl := hs.lt
  have HP : Hid (PR w.heap.size w a n f) := hP
  have HAB : Hid (∀ b off, a = some ⟨b, off, none⟩ → Pb b) := hab
  clear hs hP hab
  obtain ⟨hg, hf, hi, _⟩ := look_parts hl
  obtain ⟨n0, n1⟩ : 0 ≤ now ∧ now ≤ 1000000000000 := by simpa [inB] using hi
  obtain ⟨f1, f2, f3, f4⟩ := fifo_nums hf
  have HA : Hid (∀ j, j < n → (f j).good = true) := fun j hj => (f4 j hj).1
  have hn40 : n ≤ 40 := by omega
  have hdr := (lateC_nx c f n now).2.2.2.2.1
  have hgq := lateC_good (f := f) (n := n) hg n0 n1
  have hnz := late_pos hb
  obtain ⟨q, hq⟩ : ∃ q, lateC c f n now = q := ⟨_, rfl⟩
  have HQ : Hid (lateC c f n now = q) := hq
  have HR : Hid (dropR f n now n q 0 = R) := by
    show _ = _
    unfold popR at hR
    rw [if_neg (by rw [hb]; decide), hd, hq] at hR
    simpa using hR
  have HLQ : Hid (lookB q f n lim now = true) := look_cong hl (by rw [← hq]; exact hgq)
  rw [hq, hd] at hdr
  clear hq f4 hf hi hR hgq hl
  have hz' : ((n : Int) == 0) = false := by simp; omega
  go_enter Try.func21, Try.ntmps21
  go_wp2_with (go_at_call 28; refine (l5late_any c B t a n cap f now w HS.out hn40 HP.out HA.out hg n0 n1).mono ?_; rintro e w1 ⟨rfl, s1, o1⟩; rw [hb]; rw [HQ.out] at s1; obtain ⟨c0, c1, c2, c3, c4, c5, c6⟩ := cd_cells s1; rw [hdr] at c6; have fz := s1.frozen; have S1 : Hid _ := s1; clear s1)
  clear c0 c1 c2 c3 c4 c5 c6 fz
  go_loopw [1, 8, 9, 10] (fun l d lt mk W => (∃ b, lt = .bool b) ∧ Spin Pb B w.heap.size t f n lim now R W l d mk ∧ Save B w.heap.size w W) (fun l d lt mk W => 2 * slen l + unmk mk)
  case atStart =>
    refine ⟨⟨_, rfl⟩, ?_, Save.of_only o1 (Nat.le_refl _)⟩
    exact Spin.go q 0 a cap none 0 S1.out hdr (by rw [shiftF_0]; exact PR.save HP.out (Save.of_only o1 (Nat.le_refl _)) (fun b o e => hPb b (HAB.out b o e))) HAB.out hnc (PO.nil _ _ _) hnz (by rw [shiftF_0]; exact HLQ.out) HR.out
  case round =>
    obtain ⟨⟨b0, rfl⟩, hsp, hsv⟩ := hrel
    have SV : Hid _ := hsv
    have hsz := hsv.size
    clear hsv
    cases hsp with
    | fin a k y l mk hs hP hab hk hy hx =>
      obtain ⟨z0, z1, z2, z3, z4, z5, z6⟩ := cd_cells hs
      have hs' : Hid _ := hs
      have hP' : Hid _ := hP
      have hy' : Hid _ := hy
      have hab' : Hid _ := hab
      clear hs hP hy hab
      rcases hx with e1 | ⟨e1, e2⟩ | ⟨e1, e2, e3⟩
      all_goals
        rw [e1] at z6
        try (have e2' : decide (R.c.nx ≤ now) = true := by simp; omega)
        try subst e3
        go_wp2
        refine bodyPost_ret (v := .tuple #[.slice a (n - R.m) k, .slice y R.m l]) (by simp [results, Try.results21, go_sem]) rfl ⟨a, k, y, l, rfl, hs'.out, hP'.out, hab'.out, by first | exact hk | omega, hy'.out, SV.out⟩
    | go c m a k y l hs hd hP hab hk hy hm hl hR =>
      obtain ⟨hg, hf, hi, _⟩ := look_parts hl
      obtain ⟨g1, g2, g3, g4, g5, g6, g7, g8, g9, g10, g11⟩ := c.good_iff.1 hg
      obtain ⟨v1, v2, v3, v4⟩ := fifo_nums hf
      have hgu := upC_good hg
      have HA2 : Hid (∀ j, j < n - m → (shiftF f m j).good = true) := fun j hj => (v4 j hj).1
      obtain ⟨k', hk'⟩ : ∃ k', n - m = k' + 1 := ⟨n - m - 1, by omega⟩
      have hR' := hR
      rw [hk', dropR] at hR'
      have HK' : Hid (n - m = k' + 1) := hk'
      clear hf hi v1 v2 v3 v4 hk'
      obtain ⟨z0, z1, z2, z3, z4, z5, z6⟩ := cd_cells hs
      have fz := hs.frozen
      rw [hd] at z6
      have KS : Hid (Sits wr B (cdCells c) t) := hs
      have KP : Hid (PR w.heap.size wr a (n - m) (shiftF f m)) := hP
      have KA : Hid (∀ b off, a = some ⟨b, off, none⟩ → Pb b) := hab
      have KY : Hid (PO w.heap.size wr y m l f) := hy
      have KL : Hid (lookB c (shiftF f m) (n - m) lim now = true) := hl
      clear hs hP hab hy hl hR
      have hpos : 0 < n - m := by omega
      have hlen : (0 : Int) < ((n - m : Nat) : Int) := by omega
      by_cases hx : now < c.nx
      · rw [if_pos hx] at hR'
        subst hR'
        go_wp2
        refine bodyPost_ret (v := .tuple #[.slice a (n - m) k, .slice y m l]) (by simp [results, Try.results21, go_sem]) rfl ⟨a, k, y, l, rfl, KS.out, PR.mono KP.out hsz, KA.out, by first | exact hk | omega, KY.out, SV.out⟩
      rw [if_neg hx] at hR'
      have hx' : c.nx ≤ now := by omega
      obtain ⟨u, hu⟩ : ∃ u, upF c.ct = u := ⟨_, rfl⟩
      have hub := upF_bd g8 g9
      have hcs : (c.ct < 1073741824 ∧ u = c.ct + 1) ∨ (¬ c.ct < 1073741824 ∧ u = c.ct) := by rw [← hu]; unfold upF; split <;> omega
      rw [hu] at hub hR' hgu
      obtain ⟨hu0, hu1⟩ := hub
      have g3i : 1 ≤ c.iv := by omega
      have g7m : c.nx ≤ 1000000000000 := by omega
      by_cases he : (f m).ecn = 0
      · rw [if_neg (by simpa using he)] at hR'
        obtain ⟨c2, h2⟩ : ∃ c2, lateC ⟨c.tg, c.iv, c.fi, c.nx, u, c.la, c.dr⟩ (shiftF f (m + 1)) (n - (m + 1)) now = c2 := ⟨_, rfl⟩
        obtain ⟨l2, h3⟩ : ∃ l2, lateB ⟨c.tg, c.iv, c.fi, c.nx, u, c.la, c.dr⟩ (shiftF f (m + 1)) (n - (m + 1)) now = l2 := ⟨_, rfl⟩
        rw [h2, h3] at hR'
        have e2 := lateC_nx ⟨c.tg, c.iv, c.fi, c.nx, u, c.la, c.dr⟩ (shiftF f (m + 1)) (n - (m + 1)) now
        rw [h2] at e2
        obtain ⟨e21, e22, e23, e24, e25, e26⟩ := e2
        dsimp only at e21 e22 e23 e24 e25 e26
        rw [hd] at e25
        have hg2 : c2.good = true := by rw [← h2]; exact lateC_good hgu n0 n1
        have HDrop : Hid (∀ W2, Sits W2 B (cdCells ⟨c.tg, c.iv, c.fi, c.nx, u, c.la, c.dr⟩) t → PR w.heap.size W2 a (n - m) (shiftF f m) → PO w.heap.size W2 y m l f → w.heap.size ≤ W2.heap.size → Calls Try.prog 29 #[.pointer (some ⟨B, 0, none⟩), .slice a (n - m) k, .slice y m l, .int .i64 now] W2 fun e w' => ∃ (a' : Option Addr) (y' : Option Addr) (l' : Nat), e = .returned (.tuple #[.slice a' (n - (m + 1)) (k - 1), .slice y' (m + 1) l', .bool l2, .bool false]) ∧ Sits w' B (cdCells c2) t ∧ PR w.heap.size w' a' (n - (m + 1)) (shiftF f (m + 1)) ∧ (∀ b off, a' = some ⟨b, off, none⟩ → Pb b) ∧ PO w.heap.size w' y' (m + 1) l' f ∧ Save B w.heap.size W2 w') := fun W2 q1 q2 q3 q4 => by
          have := l5hit_drop ⟨c.tg, c.iv, c.fi, c.nx, u, c.la, c.dr⟩ B w.heap.size t a (n - m) k (shiftF f m) y m l f now W2 q1 hBl q4 (by omega) hpos hk (by omega) q2 Pb hPb KA.out q3 he HA2.out hgu n0 n1
          rw [popF_shift, putAt_self, Nat.sub_sub, h2, h3] at this
          exact this
        have T3 : Hid _ := h3
        have HLK : Hid (lookB ⟨c2.tg, c2.iv, c2.fi, nextF c2.nx c2.iv c2.ct, c2.ct, c2.la, c2.dr⟩ (shiftF f (m + 1)) (n - (m + 1)) lim now = true) := by
          have hlp := look_pop KL.out hpos ⟨c2.tg, c2.iv, c2.fi, nextF c2.nx c2.iv c2.ct, c2.ct, c2.la, c2.dr⟩ (next_good hg2 (by rw [e21]; exact g6) (by rw [e21]; exact g7m))
          rw [popF_shift, Nat.sub_sub] at hlp
          exact hlp
        obtain ⟨t1, t2, t3, t4, t5, t6⟩ : (0 ≤ c2.nx ∧ c2.nx ≤ 1000000000000 ∧ 1 ≤ c2.iv ∧ c2.iv ≤ 1000000000 ∧ 0 ≤ c2.ct ∧ c2.ct ≤ 1073741824) := by rw [e21, e22, e23]; omega
        have E25 : Hid (c2.dr = true) := e25
        clear h2 h3 hgu hu e21 e22 e23 e24 e26 hg2
        cases l2
        · have hR2 : Res.mk (dropR.noDr c2) (m + 1) false = R := by simpa using hR'
          have HR' : Hid (Res.mk (dropR.noDr c2) (m + 1) false = R) := hR2
          clear hR2
          clear hR'
          clear t1 t2 t3 t4 t5 t6 e25
          rcases hcs with ⟨w1', rfl⟩ | ⟨w1', rfl⟩
          · have s2 : Sits (wr.setCell ⟨B, 4, none⟩ (.int .i64 (c.ct + 1))) B (cdCells ⟨c.tg, c.iv, c.fi, c.nx, c.ct + 1, c.la, c.dr⟩) t := cd_s4 KS.out _
            have v2 : Save B w.heap.size wr (wr.setCell ⟨B, 4, none⟩ (.int .i64 (c.ct + 1))) := ((Save.refl B w.heap.size wr).set 4 _)
            have p2 : PR w.heap.size (wr.setCell ⟨B, 4, none⟩ (.int .i64 (c.ct + 1))) a (n - m) (shiftF f m) := PR.save KP.out v2 (fun b o e => hPb b (KA.out b o e))
            have y2 : PO w.heap.size (wr.setCell ⟨B, 4, none⟩ (.int .i64 (c.ct + 1))) y m l f := PO.keep KY.out fun i hi hi2 => Below.heap_setCell wr ⟨B, 4, none⟩ _ i (by show i ≠ B; omega)
            have h2s : w.heap.size ≤ (wr.setCell ⟨B, 4, none⟩ (.int .i64 (c.ct + 1))).heap.size := by simpa using hsz
            have V2 : Hid _ := v2
            have S2 : Hid _ := s2
            have P2 : Hid _ := p2
            have Y2 : Hid _ := y2
            clear v2 s2 p2 y2
            go_wp2_with (go_at_call 29; refine (HDrop.out _ S2.out P2.out Y2.out h2s).mono ?_; rintro e w3 ⟨a3, y3, l3, rfl, s3, p3, hb3, q3, v3⟩; clear z0 z1 z2 z3 z4 z5 z6 fz; obtain ⟨z0, z1, z2, z3, z4, z5, z6⟩ := cd_cells s3; have fz := s3.frozen; have S3 : Hid _ := s3; have P3 : Hid _ := p3; have Q3 : Hid _ := q3; have V3 : Hid _ := v3; clear s3 p3 q3 v3)
            go_roundw
            case rel =>
              have hRR := HR'.out
              subst hRR
              have sv3 : Save B w.heap.size w3 (w3.setCell ⟨B, 6, none⟩ (.bool false)) := (Save.refl B w.heap.size w3).set 6 _
              have hs3 := V3.out.size
              exact ⟨⟨_, rfl⟩, Spin.fin a3 (k - 1) y3 l3 false (cd_s6 S3.out false) (PR.mono (PR.save P3.out sv3 (fun b o e => hPb b (hb3 b o e))) (by simp; omega)) hb3 (by show n - (m + 1) ≤ k - 1; omega) (PO.keep Q3.out fun i hi hi2 => Below.heap_setCell w3 ⟨B, 6, none⟩ _ i (by show i ≠ B; omega)) (.inl rfl), SV.out.trans (V2.out.trans (V3.out.trans sv3))⟩
            case measure => simp [slen, unmk]; omega
          · have s2 : Sits wr B (cdCells ⟨c.tg, c.iv, c.fi, c.nx, c.ct, c.la, c.dr⟩) t := KS.out
            have w2' : decide (c.ct < 1073741824) = false := by simpa using w1'
            have v2 : Save B w.heap.size wr wr := (Save.refl B w.heap.size wr)
            have p2 : PR w.heap.size wr a (n - m) (shiftF f m) := PR.save KP.out v2 (fun b o e => hPb b (KA.out b o e))
            have y2 : PO w.heap.size wr y m l f := PO.keep KY.out fun i hi hi2 => rfl
            have h2s : w.heap.size ≤ wr.heap.size := by simpa using hsz
            have V2 : Hid _ := v2
            have S2 : Hid _ := s2
            have P2 : Hid _ := p2
            have Y2 : Hid _ := y2
            clear v2 s2 p2 y2
            go_wp2_with (go_at_call 29; refine (HDrop.out _ S2.out P2.out Y2.out h2s).mono ?_; rintro e w3 ⟨a3, y3, l3, rfl, s3, p3, hb3, q3, v3⟩; clear z0 z1 z2 z3 z4 z5 z6 fz; obtain ⟨z0, z1, z2, z3, z4, z5, z6⟩ := cd_cells s3; have fz := s3.frozen; have S3 : Hid _ := s3; have P3 : Hid _ := p3; have Q3 : Hid _ := q3; have V3 : Hid _ := v3; clear s3 p3 q3 v3)
            go_roundw
            case rel =>
              have hRR := HR'.out
              subst hRR
              have sv3 : Save B w.heap.size w3 (w3.setCell ⟨B, 6, none⟩ (.bool false)) := (Save.refl B w.heap.size w3).set 6 _
              have hs3 := V3.out.size
              exact ⟨⟨_, rfl⟩, Spin.fin a3 (k - 1) y3 l3 false (cd_s6 S3.out false) (PR.mono (PR.save P3.out sv3 (fun b o e => hPb b (hb3 b o e))) (by simp; omega)) hb3 (by show n - (m + 1) ≤ k - 1; omega) (PO.keep Q3.out fun i hi hi2 => Below.heap_setCell w3 ⟨B, 6, none⟩ _ i (by show i ≠ B; omega)) (.inl rfl), SV.out.trans (V2.out.trans (V3.out.trans sv3))⟩
            case measure => simp [slen, unmk]; omega
        · have hR2 : dropR f n now k' ⟨c2.tg, c2.iv, c2.fi, nextF c2.nx c2.iv c2.ct, c2.ct, c2.la, c2.dr⟩ (m + 1) = R := by simpa using hR'
          have HR' : Hid (dropR f n now k' ⟨c2.tg, c2.iv, c2.fi, nextF c2.nx c2.iv c2.ct, c2.ct, c2.la, c2.dr⟩ (m + 1) = R) := hR2
          clear hR2
          clear hR'
          rcases hcs with ⟨w1', rfl⟩ | ⟨w1', rfl⟩
          · have s2 : Sits (wr.setCell ⟨B, 4, none⟩ (.int .i64 (c.ct + 1))) B (cdCells ⟨c.tg, c.iv, c.fi, c.nx, c.ct + 1, c.la, c.dr⟩) t := cd_s4 KS.out _
            have v2 : Save B w.heap.size wr (wr.setCell ⟨B, 4, none⟩ (.int .i64 (c.ct + 1))) := ((Save.refl B w.heap.size wr).set 4 _)
            have p2 : PR w.heap.size (wr.setCell ⟨B, 4, none⟩ (.int .i64 (c.ct + 1))) a (n - m) (shiftF f m) := PR.save KP.out v2 (fun b o e => hPb b (KA.out b o e))
            have y2 : PO w.heap.size (wr.setCell ⟨B, 4, none⟩ (.int .i64 (c.ct + 1))) y m l f := PO.keep KY.out fun i hi hi2 => Below.heap_setCell wr ⟨B, 4, none⟩ _ i (by show i ≠ B; omega)
            have h2s : w.heap.size ≤ (wr.setCell ⟨B, 4, none⟩ (.int .i64 (c.ct + 1))).heap.size := by simpa using hsz
            have V2 : Hid _ := v2
            have S2 : Hid _ := s2
            have P2 : Hid _ := p2
            have Y2 : Hid _ := y2
            clear v2 s2 p2 y2
            go_wp2_with (go_at_call 29; refine (HDrop.out _ S2.out P2.out Y2.out h2s).mono ?_; rintro e w3 ⟨a3, y3, l3, rfl, s3, p3, hb3, q3, v3⟩; clear z0 z1 z2 z3 z4 z5 z6 fz; obtain ⟨z0, z1, z2, z3, z4, z5, z6⟩ := cd_cells s3; have fz := s3.frozen; have S3 : Hid _ := s3; have P3 : Hid _ := p3; have Q3 : Hid _ := q3; have V3 : Hid _ := v3; clear s3 p3 q3 v3)
            go_region_with (go_at_call 30; refine (l5control_any c2.nx c2.iv c2.ct t1 t2 t3 t4 t5 t6 _).mono ?_; rintro e w4 ⟨rfl, rfl⟩)
            all_goals
              (go_wp2_with fail)
              go_roundw
              case rel =>
                have sv3 : Save B w.heap.size w3 (w3.setCell ⟨B, 3, none⟩ (.int .i64 (nextF c2.nx c2.iv c2.ct))).drew := ((Save.refl B w.heap.size w3).set 3 _).drew
                have hp := late_pos T3.out
                have hk2 := HK'.out
                exact ⟨⟨_, rfl⟩, Spin.go ⟨c2.tg, c2.iv, c2.fi, nextF c2.nx c2.iv c2.ct, c2.ct, c2.la, c2.dr⟩ (m + 1) a3 (k - 1) y3 l3 (Sits.drew (cd_s3 S3.out _)) E25.out (PR.save P3.out sv3 (fun b o e => hPb b (hb3 b o e))) hb3 (by omega) (PO.keep Q3.out fun i hi hi2 => Below.heap_setCell w3 ⟨B, 3, none⟩ _ i (by show i ≠ B; omega)) (by omega) HLK.out (by rw [show n - (m + 1) = k' by omega]; exact HR'.out), SV.out.trans (V2.out.trans (V3.out.trans sv3))⟩
              case measure => simp [slen, unmk]; omega
          · have s2 : Sits wr B (cdCells ⟨c.tg, c.iv, c.fi, c.nx, c.ct, c.la, c.dr⟩) t := KS.out
            have w2' : decide (c.ct < 1073741824) = false := by simpa using w1'
            have v2 : Save B w.heap.size wr wr := (Save.refl B w.heap.size wr)
            have p2 : PR w.heap.size wr a (n - m) (shiftF f m) := PR.save KP.out v2 (fun b o e => hPb b (KA.out b o e))
            have y2 : PO w.heap.size wr y m l f := PO.keep KY.out fun i hi hi2 => rfl
            have h2s : w.heap.size ≤ wr.heap.size := by simpa using hsz
            have V2 : Hid _ := v2
            have S2 : Hid _ := s2
            have P2 : Hid _ := p2
            have Y2 : Hid _ := y2
            clear v2 s2 p2 y2
            go_wp2_with (go_at_call 29; refine (HDrop.out _ S2.out P2.out Y2.out h2s).mono ?_; rintro e w3 ⟨a3, y3, l3, rfl, s3, p3, hb3, q3, v3⟩; clear z0 z1 z2 z3 z4 z5 z6 fz; obtain ⟨z0, z1, z2, z3, z4, z5, z6⟩ := cd_cells s3; have fz := s3.frozen; have S3 : Hid _ := s3; have P3 : Hid _ := p3; have Q3 : Hid _ := q3; have V3 : Hid _ := v3; clear s3 p3 q3 v3)
            go_region_with (go_at_call 30; refine (l5control_any c2.nx c2.iv c2.ct t1 t2 t3 t4 t5 t6 _).mono ?_; rintro e w4 ⟨rfl, rfl⟩)
            all_goals
              (go_wp2_with fail)
              go_roundw
              case rel =>
                have sv3 : Save B w.heap.size w3 (w3.setCell ⟨B, 3, none⟩ (.int .i64 (nextF c2.nx c2.iv c2.ct))).drew := ((Save.refl B w.heap.size w3).set 3 _).drew
                have hp := late_pos T3.out
                have hk2 := HK'.out
                exact ⟨⟨_, rfl⟩, Spin.go ⟨c2.tg, c2.iv, c2.fi, nextF c2.nx c2.iv c2.ct, c2.ct, c2.la, c2.dr⟩ (m + 1) a3 (k - 1) y3 l3 (Sits.drew (cd_s3 S3.out _)) E25.out (PR.save P3.out sv3 (fun b o e => hPb b (hb3 b o e))) hb3 (by omega) (PO.keep Q3.out fun i hi hi2 => Below.heap_setCell w3 ⟨B, 3, none⟩ _ i (by show i ≠ B; omega)) (by omega) HLK.out (by rw [show n - (m + 1) = k' by omega]; exact HR'.out), SV.out.trans (V2.out.trans (V3.out.trans sv3))⟩
              case measure => simp [slen, unmk]; omega
      · rw [if_pos he] at hR'
        have HR' : Hid (Res.mk ⟨c.tg, c.iv, c.fi, nextF c.nx c.iv u, u, c.la, c.dr⟩ m true = R) := hR'
        clear hR' hgu hu
        rcases hcs with ⟨w1', rfl⟩ | ⟨w1', rfl⟩
        · have s2 : Sits (wr.setCell ⟨B, 4, none⟩ (.int .i64 (c.ct + 1))) B (cdCells ⟨c.tg, c.iv, c.fi, c.nx, c.ct + 1, c.la, c.dr⟩) t := cd_s4 KS.out _
          have v2 : Save B w.heap.size wr (wr.setCell ⟨B, 4, none⟩ (.int .i64 (c.ct + 1))) := ((Save.refl B w.heap.size wr).set 4 _)
          have p2 : PR w.heap.size (wr.setCell ⟨B, 4, none⟩ (.int .i64 (c.ct + 1))) a (n - m) (shiftF f m) := PR.save KP.out v2 (fun b o e => hPb b (KA.out b o e))
          have y2 : PO w.heap.size (wr.setCell ⟨B, 4, none⟩ (.int .i64 (c.ct + 1))) y m l f := PO.keep KY.out fun i hi hi2 => Below.heap_setCell wr ⟨B, 4, none⟩ _ i (by show i ≠ B; omega)
          have h2s : w.heap.size ≤ (wr.setCell ⟨B, 4, none⟩ (.int .i64 (c.ct + 1))).heap.size := by simpa using hsz
          have V2 : Hid _ := v2
          have S2 : Hid _ := s2
          have P2 : Hid _ := p2
          have Y2 : Hid _ := y2
          clear v2 s2 p2 y2
          go_wp2_with (go_at_call 29; refine (l5hit_mark B w.heap.size a (n - m) k (shiftF f m) _ now _ (by omega) hpos P2.out h2s he).mono ?_; rintro e w3 ⟨x3, k3, rfl, p3, hk3, hg3, b3⟩; have s3 := Sits.below S2.out b3 (Sits.lt S2.out); clear z0 z1 z2 z3 z4 z5 z6 fz; obtain ⟨z0, z1, z2, z3, z4, z5, z6⟩ := cd_cells s3; rw [hd] at z6; have fz := s3.frozen; have S3 : Hid _ := s3; have P3 : Hid _ := p3; clear s3 p3; dsimp only at *)
          go_region_with (go_at_call 30; refine (l5control_any c.nx c.iv (c.ct + 1) g6 g7m g3i g3 (by omega) (by omega) _).mono ?_; rintro e w4 ⟨rfl, rfl⟩)
          all_goals
            (go_wp2_with fail)
            go_roundw
            case rel =>
              have hRR := HR'.out
              subst hRR
              have sv3 : Save B w3.heap.size w3 (w3.setCell ⟨B, 3, none⟩ (.int .i64 (nextF c.nx c.iv (c.ct + 1)))).drew := ((Save.refl B w3.heap.size w3).set 3 _).drew
              have hs3 := b3.size
              have y3 := PO.below Y2.out b3
              refine ⟨⟨_, rfl⟩, Spin.fin x3 k3 y l true (Sits.drew (cd_s3 S3.out _)) (PR.mono (PR.save P3.out sv3 (fun b' o' e => by have := hg3 b' o' e; omega)) (by simp [World.drew])) (fun b' o' e => hPn b' (Nat.le_trans h2s (hg3 b' o' e))) hk3 (y3.keep fun i hi hi2 => sv3.block i hi2 (by omega)) ?_, ?_⟩
              · by_cases hxx : now < nextF c.nx c.iv (c.ct + 1)
                · exact .inr (.inl ⟨hd, hxx⟩)
                · exact .inr (.inr ⟨hd, hxx, rfl⟩)
              · exact SV.out.trans (V2.out.trans ((Save.of_below (b3.mono h2s)).trans (((Save.refl B w.heap.size w3).set 3 _).drew)))
            case measure => simp [slen, unmk]
        · have s2 : Sits wr B (cdCells ⟨c.tg, c.iv, c.fi, c.nx, c.ct, c.la, c.dr⟩) t := KS.out
          have w2' : decide (c.ct < 1073741824) = false := by simpa using w1'
          have v2 : Save B w.heap.size wr wr := (Save.refl B w.heap.size wr)
          have p2 : PR w.heap.size wr a (n - m) (shiftF f m) := PR.save KP.out v2 (fun b o e => hPb b (KA.out b o e))
          have y2 : PO w.heap.size wr y m l f := PO.keep KY.out fun i hi hi2 => rfl
          have h2s : w.heap.size ≤ wr.heap.size := by simpa using hsz
          have V2 : Hid _ := v2
          have S2 : Hid _ := s2
          have P2 : Hid _ := p2
          have Y2 : Hid _ := y2
          clear v2 s2 p2 y2
          go_wp2_with (go_at_call 29; refine (l5hit_mark B w.heap.size a (n - m) k (shiftF f m) _ now _ (by omega) hpos P2.out h2s he).mono ?_; rintro e w3 ⟨x3, k3, rfl, p3, hk3, hg3, b3⟩; have s3 := Sits.below S2.out b3 (Sits.lt S2.out); clear z0 z1 z2 z3 z4 z5 z6 fz; obtain ⟨z0, z1, z2, z3, z4, z5, z6⟩ := cd_cells s3; rw [hd] at z6; have fz := s3.frozen; have S3 : Hid _ := s3; have P3 : Hid _ := p3; clear s3 p3; dsimp only at *)
          go_region_with (go_at_call 30; refine (l5control_any c.nx c.iv (c.ct) g6 g7m g3i g3 (by omega) (by omega) _).mono ?_; rintro e w4 ⟨rfl, rfl⟩)
          all_goals
            (go_wp2_with fail)
            go_roundw
            case rel =>
              have hRR := HR'.out
              subst hRR
              have sv3 : Save B w3.heap.size w3 (w3.setCell ⟨B, 3, none⟩ (.int .i64 (nextF c.nx c.iv (c.ct)))).drew := ((Save.refl B w3.heap.size w3).set 3 _).drew
              have hs3 := b3.size
              have y3 := PO.below Y2.out b3
              refine ⟨⟨_, rfl⟩, Spin.fin x3 k3 y l true (Sits.drew (cd_s3 S3.out _)) (PR.mono (PR.save P3.out sv3 (fun b' o' e => by have := hg3 b' o' e; omega)) (by simp [World.drew])) (fun b' o' e => hPn b' (Nat.le_trans h2s (hg3 b' o' e))) hk3 (y3.keep fun i hi hi2 => sv3.block i hi2 (by omega)) ?_, ?_⟩
              · by_cases hxx : now < nextF c.nx c.iv (c.ct)
                · exact .inr (.inl ⟨hd, hxx⟩)
                · exact .inr (.inr ⟨hd, hxx, rfl⟩)
              · exact SV.out.trans (V2.out.trans ((Save.of_below (b3.mono h2s)).trans (((Save.refl B w.heap.size w3).set 3 _).drew)))
            case measure => simp [slen, unmk]

end Go.Proofs.Ytlhiadehohikdaa
