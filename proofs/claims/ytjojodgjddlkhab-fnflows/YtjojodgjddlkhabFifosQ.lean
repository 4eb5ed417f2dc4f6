/-
  WHAT THE LAWS OF QUEUES ASK BESIDES: sum, fifos; what DrawOfFlow answers.
-/
import Derived.Test.YtjojodgjddlkhabLastQ
import Derived.Test.YtjojodgjddlkhabPushI
import Derived.Test.YtjojodgjddlkhabPopQ
import Derived.Test.YtjojodgjddlkhabQBytes
import Derived.Test.YtjojodgjddlkhabFNew
namespace Go.Proofs.Ytjojodgjddlkhab
open Go.RowKit
set_option linter.unusedVariables false

set_option maxHeartbeats 1000000 in
theorem lsum_any (a : Option Addr) (n c : Nat) (f : Nat → Pk) (w : World) (hn : n ≤ 1048576) (hP : PR w.heap.size w a n f) (hs : ∀ j, j < n → 1 ≤ (f j).size ∧ (f j).size ≤ 2000) :
    Calls Try.prog 33 #[.slice a n c] w fun e w' => e = .returned (.int .i64 (sumF f n)) ∧ w' = w := by
  have HP : Hid (PR w.heap.size w a n f) := hP
  have HS : Hid (∀ j, j < n → 1 ≤ (f j).size ∧ (f j).size ≤ 2000) := hs
  clear hP hs
  have hni : (n : Int) ≤ 1048576 := by omega
  go_enter Try.func33, Try.ntmps33
  go_wp2
  go_loop [3, 4] (fun s i => ∃ k : Nat, k ≤ n ∧ i = .int .i64 k ∧ s = .int .i64 (sumF f k)) (fun _ i => n - (intOf i).toNat)
  case atStart => exact ⟨0, Nat.zero_le _, rfl, rfl⟩
  case round =>
    obtain ⟨k, hk, rfl, rfl⟩ := hrel
    obtain ⟨s1, s2⟩ := sumF_bd f k (fun j hj => HS.out j (by omega))
    by_cases hlt : k < n
    · obtain ⟨b, off, rfl, hbl, hcs⟩ := PR.at HP.out hlt
      obtain ⟨c0, c1, c2, c3, c4, c5⟩ := hcs k hlt
      obtain ⟨h1, h2⟩ := HS.out k hlt
      have HSS : Hid (sumF f (k + 1) = sumF f k + (f k).size) := sumF_succ f k
      clear hcs
      go_wp2
      go_round
      case rel => exact ⟨k + 1, by omega, by go_num, by rw [HSS.out]⟩
      case measure => simp [intOf]; omega
    · obtain rfl : k = n := by omega
      go_wp2
      go_ret
      exact ⟨rfl, rfl⟩

def P9 : Pk := ⟨1, 0, 0, 9, 0, 0⟩
def f9 : Nat → Pk := fun _ => P9
theorem nine_push : pushN f9 0 2 P9 = 1 ∧ pushL f9 0 2 P9 = 2 ∧ pushB f9 0 2 P9 = true := by refine ⟨?_, ?_, ?_⟩ <;> decide
theorem nine_pop : popN (pushF f9 0 P9) 1 2 = 0 ∧ popB (pushF f9 0 P9) 1 2 = true ∧ popP (pushF f9 0 P9) 1 2 = P9 := by
  have h : popB (pushF f9 0 P9) 1 2 = true := by decide
  refine ⟨by decide, h, ?_⟩
  unfold popP
  rw [if_pos h]
  rfl
theorem nine_bytes : bytesF (pushF f9 0 P9) 1 2 = 9 := by decide

set_option maxRecDepth 100000 in
set_option maxHeartbeats 2000000 in
theorem fifos_any (w : World) : Calls Try.prog 24 #[] w fun e w' => e = .returned (.bool true) ∧ Below w.heap.size w w' := by
  have HNEW : Hid (∀ V, Calls Try.prog 61 #[.int .i64 2] V fun e w' => e = .returned (.tuple #[.agg #[.slice none 0 0, .int .i64 2], .bool true]) ∧ Below V.heap.size V w') := fun V => ififoNew_any 2 V
  have HPUSH : Hid (∀ V, Calls Try.prog 21 #[.agg #[.slice none 0 0, .int .i64 2], .agg #[.int .i64 1, .int .i64 0, .int .i64 0, .int .i64 9, .int .i64 0, .int .i64 0]] V fun e w' => ∃ (x : Option Addr) (cap : Nat), e = .returned (.tuple #[.agg #[.slice x 1 cap, .int .i64 2], .bool true]) ∧ PO V.heap.size w' x 1 cap (pushF f9 0 P9) ∧ Below V.heap.size V w') := fun V => by
    have := ipush_any none 0 0 f9 2 P9 V (by omega) (by omega) (.inl rfl)
    rw [nine_push.1, nine_push.2.1, nine_push.2.2] at this
    exact this
  have HPOP : Hid (∀ V x cap, PR V.heap.size V x 1 (pushF f9 0 P9) → 1 ≤ cap → Calls Try.prog 29 #[.agg #[.slice x 1 cap, .int .i64 2]] V fun e w' => ∃ (y : Option Addr) (c : Nat) (l : Int), e = .returned (.tuple #[.agg #[.slice y 0 c, .int .i64 l], .agg #[.int .i64 1, .int .i64 0, .int .i64 0, .int .i64 9, .int .i64 0, .int .i64 0], .bool true]) ∧ Below V.heap.size V w') := fun V x cap hP hc => by
    have := ipop_any x 1 cap (pushF f9 0 P9) 2 V (by omega) hc hP
    rw [nine_pop.1, nine_pop.2.1, nine_pop.2.2] at this
    refine this.mono ?_
    rintro e w' ⟨y, c, rfl, _, h⟩
    exact ⟨y, c, _, rfl, h⟩
  have HBYTES : Hid (∀ V x cap, PR V.heap.size V x 1 (pushF f9 0 P9) → 1 ≤ cap → Calls Try.prog 27 #[.agg #[.slice x 1 cap, .int .i64 2]] V fun e w' => e = .returned (.int .i64 9) ∧ Below V.heap.size V w') := fun V x cap hP hc => by
    have := ibytes_any x 1 cap (pushF f9 0 P9) 2 V (by omega) hc hP
    rw [nine_bytes] at this
    exact this
  go_enter Try.func24, Try.ntmps24
  go_upto_region 2 with (go_at_call 61; refine (HNEW.out _).mono ?_; rintro e w1 ⟨rfl, b1⟩)
  obtain ⟨V1, hV1⟩ : ∃ V, w1.alloc (.cells #[.slice none 0 0, .int .i64 2] 47) = V := ⟨_, rfl⟩
  have B1 : Below w.heap.size w V1 := by rw [← hV1]; exact b1.alloc b1.size _
  have s1 : Sits V1 w1.heap.size #[.slice none 0 0, .int .i64 2] 47 := by rw [← hV1]; exact Sits.new _ _ _
  have c0 : V1.cell? ⟨w1.heap.size, 0, none⟩ = some (.slice none 0 0) := s1.cell 0
  have c1 : V1.cell? ⟨w1.heap.size, 1, none⟩ = some (.int .i64 2) := s1.cell 1
  rw [hV1]
  clear hV1 b1 s1
  go_upto_region 3 with (go_at_call 21; refine (HPUSH.out _).mono ?_; rintro e w2 ⟨x, cap, rfl, ho, b2⟩)
  obtain ⟨B, hB⟩ : ∃ B, w2.heap.size = B := ⟨_, rfl⟩
  obtain ⟨V2, hV2⟩ : ∃ V, w2.alloc (.cells #[.slice x 1 cap, .int .i64 2] 47) = V := ⟨_, rfl⟩
  have b2' : Below V1.heap.size V1 V2 := by rw [← hV2]; exact b2.alloc b2.size _
  have B2 : Below w.heap.size w V2 := B1.trans (b2'.mono B1.size)
  have s2 : Sits V2 B #[.slice x 1 cap, .int .i64 2] 47 := by rw [← hV2, ← hB]; exact Sits.new _ _ _
  have hcap : 1 ≤ cap := ho.cap
  have HP : Hid (PR V2.heap.size V2 x 1 (pushF f9 0 P9)) := ZI.pr (PO.zi (by rw [← hV2]; exact po_alloc ho _))
  have d0 : V2.cell? ⟨B, 0, none⟩ = some (.slice x 1 cap) := s2.cell 0
  have d1 : V2.cell? ⟨B, 1, none⟩ = some (.int .i64 2) := s2.cell 1
  rw [hV2, hB]
  clear hV2 b2 b2' ho hB c0 c1 B1
  go_upto_region 4 with (go_at_call 29; refine (HPOP.out _ x cap HP.out hcap).mono ?_; rintro e w3 ⟨y, cy, l, rfl, b3⟩)
  obtain ⟨C, hC⟩ : ∃ B, w3.heap.size = B := ⟨_, rfl⟩
  obtain ⟨V3, hV3⟩ : ∃ V, (w3.alloc (.cells #[.slice y 0 cy, .int .i64 l] 47)).alloc (.cells #[.int .i64 1, .int .i64 0, .int .i64 0, .int .i64 9, .int .i64 0, .int .i64 0] 49) = V := ⟨_, rfl⟩
  have b3' : Below V2.heap.size V2 V3 := by rw [← hV3]; exact (b3.alloc b3.size _).alloc (by have := b3.size; simp; omega) _
  have B3 : Below w.heap.size w V3 := B2.trans (b3'.mono B2.size)
  have s3 : Sits V3 (C + 1) #[.int .i64 1, .int .i64 0, .int .i64 0, .int .i64 9, .int .i64 0, .int .i64 0] 49 := by rw [← hV3, ← hC]; exact Sits.new' (by simp)
  have e3 : V3.cell? ⟨C + 1, 3, none⟩ = some (.int .i64 9) := s3.cell 3
  have s2' := s2.below b3' s2.lt
  have HP3 : Hid (PR V3.heap.size V3 x 1 (pushF f9 0 P9)) := (PR.below HP.out b3').mono b3'.size
  have g0 : V3.cell? ⟨B, 0, none⟩ = some (.slice x 1 cap) := s2'.cell 0
  have g1 : V3.cell? ⟨B, 1, none⟩ = some (.int .i64 2) := s2'.cell 1
  rw [hV3, hC]
  clear hV3 b3 b3' hC s3 s2 s2' d0 d1 HP B2
  go_wp2_with (go_at_call 27; refine (HBYTES.out _ x cap HP3.out hcap).mono ?_; rintro e w4 ⟨rfl, b4⟩)
  go_ret
  exact ⟨rfl, B3.trans (b4.mono B3.size)⟩

theorem ret_fz {fn : Func} {tmps : Array Value} {W : World} {i j B : Nat} {v u : Value} {m : Int} {t : TypeId} (hr : fn.results = #[.cell i 47, .tmp j]) (hi : tmps[i]?.getD undef = .pointer (some ⟨B, 0, none⟩)) (hj : tmps[j]?.getD undef = .int .i64 m) (hs : Sits W B #[v, u] t) : (results fn tmps).run Try.prog W = .ok (.tuple #[.agg #[v, u], .int .i64 m]) W := by
  have e0 : W.cell? ⟨B, 0, none⟩ = some v := hs.cell 0
  have e1 : W.cell? ⟨B, 1, none⟩ = some u := hs.cell 1
  simp [results, hr, hi, hj, go_sem, e0, e1]

set_option maxRecDepth 100000 in
set_option maxHeartbeats 2000000 in
theorem drawOfFlow (a : Option Addr) (len cap : Nat) (w : World) (hl : len ≤ 9223372036854775807) (hcode : Code w w.heap.size a len) :
    Calls Try.prog 30 #[.slice a len cap] w fun e w' => ∃ (x : Option Addr) (n k : Nat) (lim z : Int) (g : Nat → Pk), e = .returned (.tuple #[.agg #[.slice x n k, .int .i64 lim], .int .i64 z]) ∧ ZI w.heap.size w'.heap.size w' x (n * 6) (flat g) ∧ n ≤ k ∧ n ≤ 13 ∧ (∀ j, j < n → (g j).small) ∧ (0 ≤ lim ∧ lim ≤ 41) ∧ Below w.heap.size w w' := by
  obtain ⟨W, hW⟩ : ∃ x, w.alloc (.cells #[.slice none 0 0, .int .i64 0] 47) = x := ⟨_, rfl⟩
  have hsz : W.heap.size = w.heap.size + 1 := by rw [← hW]; simp
  have y0 : Sits W w.heap.size #[.slice none 0 0, .int .i64 0] 47 := by rw [← hW]; exact Sits.new _ _ _
  have b0 : Below w.heap.size w W := by rw [← hW]; exact (Below.refl _ _).alloc (Nat.le_refl _) _
  have hcd : Code W W.heap.size a len := by
    rcases hcode with h | ⟨b, off, ha, hb, hk⟩
    · exact .inl h
    · refine .inr ⟨b, off, ha, by omega, fun k hk' => ?_⟩
      obtain ⟨v, v0, v1, hv⟩ := hk k hk'
      exact ⟨v, v0, v1, (b0.cell (p := ⟨b, off + k, none⟩) (by show b < _; omega)).trans hv⟩
  clear hcode
  go_enter Try.func30, Try.ntmps30
  go_wp2_with fail
  (try rw [hW])
  refine (new_any a len cap W hl hcd).mono ?_
  rintro e w1 ⟨rfl, c1, b1⟩
  obtain ⟨B, hB⟩ : ∃ B, W.heap.size = B := ⟨_, rfl⟩
  rw [hB] at c1 ⊢
  have y1 := y0.below b1 y0.lt
  replace b1 := b0.trans (b1.mono b0.size)
  have lB : w.heap.size < B := by omega
  clear hcd hW b0 hB y0
  go_wp2_with fail
  refine (l3bent_any B a len cap _ c1).mono ?_
  rintro e w2 ⟨x, n, k, lim, g, rfl, hz, hnk, hn, hg, hlim, c2, o2⟩
  have hB1 := c1.1
  have y2 := y1.only o2 (by omega)
  have b2 := b1.trans (o2.below (by omega) b1.size)
  clear c1 o2 y1
  have HZ : Hid _ := hz
  have HG : Hid (∀ j, j < n → (g j).small) := hg
  clear hz hg
  go_wp2_with fail
  refine (below_any B a len cap _ c2 7 (by omega) (by omega)).mono ?_
  rintro e w3 ⟨v, rfl, hv0, hv1, c3, o3⟩
  have y3 := y2.only o3 (by omega)
  have b3 := b2.trans (o3.below (by omega) b2.size)
  have X3 : Hid (ZI _ _ _ _ _ _) := zi_only HZ.out o3 hB1
  have hs3 := o3.size
  have u0 : w3.cell? ⟨w.heap.size, 0, none⟩ = some (.slice none 0 0) := y3.cell 0
  have u1 : w3.cell? ⟨w.heap.size, 1, none⟩ = some (.int .i64 0) := y3.cell 1
  have fy := y3.frozen
  have Y3 : Hid (Sits _ _ _ _) := y3
  have B3 : Hid (Below _ _ _) := b3
  clear y3 y2 b3 b2 b1 c2 c3 o3 HZ
  go_wp2
  refine bodyPost_ret (ret_fz (v := .slice x n k) (u := .int .i64 lim) (m := v - 1) (t := 47) (B := w.heap.size) Try.results30 rfl rfl (Sits.set (Sits.set Y3.out 0 _) 1 _)) rfl ⟨x, n, k, lim, _, g, rfl, ?_, hnk, hn, HG.out, hlim, ?_⟩
  · exact ZI.wide (zi_low (zi_low X3.out (by omega) _ _) (by omega) _ _) (by omega) (by simpa [World.setCell] using hs3)
  · exact (Below.setCell B3.out (Nat.le_refl _) _).setCell (Nat.le_refl _) _

end Go.Proofs.Ytjojodgjddlkhab
