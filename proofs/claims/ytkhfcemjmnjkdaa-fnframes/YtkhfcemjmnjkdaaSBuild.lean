/-
  THE SPECIFICATION's l2put16 AND l2build.
-/
import Derived.Test.YtkhfcemjmnjkdaaBuildI
import Derived.Test.YtkhfcemjmnjkdaaAppByS
import Derived.Deep.RegionHeld3
namespace Go.Proofs.Ytkhfcemjmnjkdaa
open Go.RowKit
set_option linter.unusedVariables false

def two16 (n : Int) (i : Nat) : Int := if i = 0 then n / 256 % 256 else n % 256
theorem row2 (w : World) (u v : Int) (t : TypeId) (g : Nat → Int) (h0 : g 0 = u) (h1 : g 1 = v) : Row .u8 (w.alloc (.cells #[.int .u8 u, .int .u8 v] t)) (some ⟨w.heap.size, 0, none⟩) 2 g := by
  refine .inr ⟨w.heap.size, 0, rfl, by simp, fun i hi => ?_⟩
  rcases (by omega : i = 0 ∨ i = 1) with rfl | rfl
  · rw [h0]; simp
  · rw [h1]; simp

set_option maxRecDepth 100000 in
set_option maxHeartbeats 2000000 in
theorem put16_any (base : Nat) (x : Option Addr) (m c : Nat) (f : Nat → Int) (n : Int) (w : World) (hb : base ≤ w.heap.size) (ho : BO base w x m c f) (hm : m ≤ 1000) (n0 : 0 ≤ n) (n1 : n ≤ 9223372036854775807) :
    Calls Try.prog 30 #[.slice x m c, .int .i64 n] w fun e w' => ∃ (x' : Option Addr) (c' : Nat), e = .returned (.slice x' (m + 2) c') ∧ BO base w' x' (m + 2) c' (joinF f m (two16 n)) ∧ Below base w w' := by
  have HO : Hid (BO base w x m c f) := ho
  clear ho
  have u8 := u8_wrap
  go_enter Try.func30, Try.ntmps30
  go_wp2_with (at_builtin; refine wpList_append_byN rfl _ _ rfl base x m c f rfl (BO.alloc HO.out _) (some ⟨w.heap.size, 0, none⟩) 2 2 (two16 n) rfl (row2 w _ _ _ _ rfl rfl) (by omega) (by simp; omega) ?_; intro x5 c5 w6 hbo hgr)
  go_ret
  exact ⟨x5, c5, rfl, hbo, ((Below.refl base w).alloc hb _).trans ((Below.refl base _).grown hgr (by simp; omega) (fun k ek => (BO.own_lt HO.out k ek).1))⟩

/-- The two bytes that come first. -/
def lead2 (r : Fr) (i : Nat) : Int := if i = 0 then 69 else (4 * r.dscp + r.ecn) % 256
def four (t p : Int) (i : Nat) : Int := if i = 0 then t % 256 else if i = 1 then p % 256 else 0
/-- What the specification writes ahead of the sum: 20 bytes. -/
def sHead (r : Fr) (n : Nat) : Nat → Int :=
  joinF (joinF (joinF (joinF (joinF (joinF (joinF (joinF (lead2 r) 2 (two16 (24 + n))) 4 (two16 r.id)) 6 (two16 0)) 8 (four r.ttl r.proto)) 12 (two16 (r.src / 65536))) 14 (two16 (r.src % 65536))) 16 (two16 (r.dst / 65536))) 18 (two16 (r.dst % 65536))
theorem lit_own (w : World) (base : Nat) (u v : Int) (f : Nat → Int) (h0 : f 0 = u) (h1 : f 1 = v) (hb : base ≤ w.heap.size) : BO base (w.alloc (.cells #[.int .u8 u, .int .u8 v] 5)) (some ⟨w.heap.size, 0, none⟩) 2 2 f :=
  ⟨by simp [byL], .inr ⟨w.heap.size, 2, #[.int .u8 u, .int .u8 v], rfl, hb, Sits.new _ _ _, Nat.le_refl _, by unfold maxLen; omega, rfl, by simp [byL, List.range_succ, h0, h1]⟩⟩

theorem row4 (w : World) (a b c d : Int) (t : TypeId) (g : Nat → Int) (h0 : g 0 = a) (h1 : g 1 = b) (h2 : g 2 = c) (h3 : g 3 = d) : Row .u8 (w.alloc (.cells #[.int .u8 a, .int .u8 b, .int .u8 c, .int .u8 d] t)) (some ⟨w.heap.size, 0, none⟩) 4 g := by
  refine .inr ⟨w.heap.size, 0, rfl, by simp, fun i hi => ?_⟩
  rcases (by omega : i = 0 ∨ i = 1 ∨ i = 2 ∨ i = 3) with rfl | rfl | rfl | rfl
  · rw [h0]; simp
  · rw [h1]; simp
  · rw [h2]; simp
  · rw [h3]; simp

theorem joinF_byt {f g : Nat → Int} {m k : Nat} (hf : Byt m f) (hg : Byt k g) : Byt (m + k) (joinF f m g) := by
  intro i hi
  unfold joinF
  split
  · next h => exact hf i h
  · exact hg _ (by omega)
theorem two16_byt (n : Int) : Byt 2 (two16 n) := by
  intro i hi
  unfold two16
  split <;> omega
theorem four_byt (t p : Int) : Byt 4 (four t p) := by
  intro i hi
  unfold four
  split
  · omega
  · split <;> omega
theorem lead2_byt (r : Fr) : Byt 2 (lead2 r) := by
  intro i hi
  unfold lead2
  split <;> omega
theorem sHead_byt (r : Fr) (n : Nat) : Byt 20 (sHead r n) :=
  joinF_byt (joinF_byt (joinF_byt (joinF_byt (joinF_byt (joinF_byt (joinF_byt (joinF_byt (lead2_byt r) (two16_byt _)) (two16_byt _)) (two16_byt _)) (four_byt _ _)) (two16_byt _)) (two16_byt _)) (two16_byt _)) (two16_byt _)

/-- The head with its sum in it. -/
def summed (r : Fr) (n : Nat) (S : Int) (i : Nat) : Int := if i = 11 then S % 256 else if i = 10 then S / 256 % 256 else sHead r n i
theorem lt20 {i : Nat} (h : i < 20) : i = 0 ∨ i = 1 ∨ i = 2 ∨ i = 3 ∨ i = 4 ∨ i = 5 ∨ i = 6 ∨ i = 7 ∨ i = 8 ∨ i = 9 ∨ i = 10 ∨ i = 11 ∨ i = 12 ∨ i = 13 ∨ i = 14 ∨ i = 15 ∨ i = 16 ∨ i = 17 ∨ i = 18 ∨ i = 19 := by omega
theorem head_eq (r : Fr) (n : Nat) (hg : r.good n = true) (S : Int) (bS : 0 ≤ S ∧ S ≤ 65535) (i : Nat) (hi : i < 20) : summed r n S i = headF r.dscp r.ecn (24 + n) r.id r.ttl r.proto S r.src r.dst i := by
  obtain ⟨bd, be, bi, bt, bp, bs, bq, bsp, bdp, bn⟩ := good_bd hg
  rcases lt20 hi with rfl | rfl | rfl | rfl | rfl | rfl | rfl | rfl | rfl | rfl | rfl | rfl | rfl | rfl | rfl | rfl | rfl | rfl | rfl | rfl
  all_goals simp [summed, sHead, headF, joinF, putF, two16, four, lead2]
  all_goals omega
theorem head0_eq (r : Fr) (n : Nat) (hg : r.good n = true) (i : Nat) (hi : i < 20) : sHead r n i = headF r.dscp r.ecn (24 + n) r.id r.ttl r.proto 0 r.src r.dst i := by
  rw [← head_eq r n hg 0 (by omega) i hi]
  unfold summed
  split
  · next h => subst h; simp [sHead, joinF, four]
  · split
    · next h => subst h; simp [sHead, joinF, four]
    · rfl
theorem halfF_congr {f g : Nat → Int} {n : Nat} (h : ∀ i, i < n → f i = g i) : ∀ k, k ≤ n → halfF f k = halfF g k
  | 0, _ => rfl
  | k + 1, hk => by rw [halfF, halfF, halfF_congr h k (by omega), h k (by omega)]
theorem sumF_congr {f g : Nat → Int} {n : Nat} (h : ∀ i, i < n → f i = g i) : sumF f n = sumF g n := by
  unfold sumF
  rw [← halfF_all, ← halfF_all, halfF_congr h n (Nat.le_refl _)]
theorem built_eq (r : Fr) (n : Nat) (g : Nat → Int) (S : Int) (hg : r.good n = true) (bS : 0 ≤ S ∧ S ≤ 65535) (hS : 65535 - sumF (sHead r n) 20 = S) (i : Nat) (hi : i < 24 + n) : joinF (joinF (joinF (summed r n S) 20 (two16 r.srcP)) 22 (two16 r.dstP)) 24 g i = buildF r n g i := by
  obtain ⟨bd, be, bi, bt, bp, bs, bq, bsp, bdp, bn⟩ := good_bd hg
  have e1 : wsumF r n = S := by unfold wsumF; rw [← hS, sumF_congr (head0_eq r n hg)]
  unfold buildF
  rw [e1]
  by_cases h24 : i < 24
  · unfold joinF wireF
    rw [if_pos h24, if_pos h24]
    by_cases h20 : i < 20
    · rw [if_pos (by omega), if_pos h20, head_eq r n hg S bS i h20]
      unfold putF
      rw [if_pos (by omega), if_pos h20]
    · rcases (by omega : i = 20 ∨ i = 21 ∨ i = 22 ∨ i = 23) with rfl | rfl | rfl | rfl
      all_goals simp [putF, two16]
  · unfold joinF
    rw [if_neg h24, if_neg h24]

set_option maxRecDepth 100000 in
set_option maxHeartbeats 1000000 in
theorem l2build_any (r : Fr) (a : Option Addr) (n c : Nat) (g : Nat → Int) (w : World) (hn : (n : Int) ≤ 9223372036854775807) (hg : r.good n = true) (hd : Row .u8 w a n g) :
    Calls Try.prog 27 #[r.val a n c] w fun e w' => ∃ (x : Option Addr) (cx : Nat), e = .returned (.slice x (24 + n) cx) ∧ BO w.heap.size w' x (24 + n) cx (buildF r n g) ∧ Below w.heap.size w w' := by
  obtain ⟨bd, be, bi, bt, bp, bs, bq, bsp, bdp, bn⟩ := good_bd hg
  have HD : Hid (Row .u8 w a n g) := hd
  have HG : Hid (r.good n = true) := hg
  clear hd hg
  obtain ⟨d, e, i, t, p, s, q, sp, dp⟩ := r
  dsimp only at bd be bi bt bp bs bq bsp bdp
  have wrap8 := u8_wrap
  obtain ⟨F, hF⟩ : ∃ F, w.heap.size = F := ⟨_, rfl⟩
  obtain ⟨W, hW⟩ : ∃ W, (w.alloc (.cells #[.int .i64 d, .int .i64 e, .int .i64 i, .int .i64 t, .int .i64 p, .int .i64 s, .int .i64 q, .int .i64 sp, .int .i64 dp, .slice a n c] 26)).alloc (.cells #[.int .i64 d, .int .i64 e, .int .i64 i, .int .i64 t, .int .i64 p, .int .i64 s, .int .i64 q] 24) = W := ⟨_, rfl⟩
  have hWs : W.heap.size = F + 2 := by rw [← hW, ← hF]; simp
  have B : Below F w W := by rw [← hW, ← hF]; exact ((Below.refl _ _).alloc (Nat.le_refl _) _).alloc (by simp) _
  have sF : Sits W F #[.int .i64 d, .int .i64 e, .int .i64 i, .int .i64 t, .int .i64 p, .int .i64 s, .int .i64 q, .int .i64 sp, .int .i64 dp, .slice a n c] 26 := by rw [← hW, ← hF]; exact (Sits.new _ _ _).alloc _
  have sP : Sits W (F + 1) #[.int .i64 d, .int .i64 e, .int .i64 i, .int .i64 t, .int .i64 p, .int .i64 s, .int .i64 q] 24 := by rw [← hW]; exact Sits.new' (by simp [hF])
  obtain ⟨f0, f1, f2, f3, f4, f5, f6, f7, f8, f9⟩ := fr_cells sF
  obtain ⟨p0, p1, p2, p3, p4, p5, p6⟩ := ip_cells sP
  have SF : Hid (Sits W F #[.int .i64 d, .int .i64 e, .int .i64 i, .int .i64 t, .int .i64 p, .int .i64 s, .int .i64 q, .int .i64 sp, .int .i64 dp, .slice a n c] 26) := sF
  have SP : Hid (Sits W (F + 1) #[.int .i64 d, .int .i64 e, .int .i64 i, .int .i64 t, .int .i64 p, .int .i64 s, .int .i64 q] 24) := sP
  clear sF sP
  go_enter Try.func27, Try.ntmps27
  go_wp2_with fail
  obtain ⟨U, hU⟩ : ∃ U, W.alloc (.cells #[.int .u8 69, .int .u8 ((4 * d + e) % 256)] 5) = U := ⟨_, rfl⟩
  have O : Hid (BO (F + 2) U (some ⟨F + 2, 0, none⟩) 2 2 (lead2 ⟨d, e, i, t, p, s, q, sp, dp⟩)) := by
    show BO _ _ _ _ _ _
    rw [← hU, ← hWs]
    exact lit_own W _ _ _ _ rfl rfl (Nat.le_refl _)
  have sz : F + 3 ≤ U.heap.size := by rw [← hU]; simp; omega
  replace B : Below F w U := by rw [← hU]; exact B.alloc (by omega) _
  have sF : Sits U F #[.int .i64 d, .int .i64 e, .int .i64 i, .int .i64 t, .int .i64 p, .int .i64 s, .int .i64 q, .int .i64 sp, .int .i64 dp, .slice a n c] 26 := by rw [← hU]; exact Sits.alloc SF.out _
  have sP : Sits U (F + 1) #[.int .i64 d, .int .i64 e, .int .i64 i, .int .i64 t, .int .i64 p, .int .i64 s, .int .i64 q] 24 := by rw [← hU]; exact Sits.alloc SP.out _
  rw [hU]
  clear hU hW hWs SF SP f0 f1 f2 f3 f4 f5 f6 f7 f8 f9 p0 p1 p2 p3 p4 p5 p6
  have hC : Hid (∀ W' : World, Below (F + 2) U W' → Sits W' F #[.int .i64 d, .int .i64 e, .int .i64 i, .int .i64 t, .int .i64 p, .int .i64 s, .int .i64 q, .int .i64 sp, .int .i64 dp, .slice a n c] 26 ∧ Sits W' (F + 1) #[.int .i64 d, .int .i64 e, .int .i64 i, .int .i64 t, .int .i64 p, .int .i64 s, .int .i64 q] 24) := fun W' h => ⟨sF.below h (by omega), sP.below h (by omega)⟩
  clear sF sP
  have b0 : Below (F + 2) U U.drew := (Below.refl _ _).drew
  have o0 : BO (F + 2) U.drew (some ⟨F + 2, 0, none⟩) 2 2 (lead2 ⟨d, e, i, t, p, s, q, sp, dp⟩) := BO.drew O.out
  have hSB : ∀ W' : World, Below (F + 2) U W' → W'.cell? ⟨F, 9, none⟩ = some (.slice a n c) ∧ W'.cell? ⟨F + 1, 2, none⟩ = some (.int .i64 i) := fun W' h => ⟨(hC.out W' h).1.cell 9, (hC.out W' h).2.cell 2⟩
  have hs0 := hSB _ (Below.refl _ _)
  obtain ⟨k1, k2⟩ := hs0
  have hw24 : IntKind.i64.wrap (24 + (n : Int)) = 24 + (n : Int) := by rw [IntKind.wrap_i64]; omega
  go_cut [4] from 6 (fun s4 wx => ∃ (x : Option Addr) (cx : Nat), s4 = .slice x 8 cx ∧ BO (F + 2) wx x 8 cx (joinF (joinF (joinF (lead2 ⟨d, e, i, t, p, s, q, sp, dp⟩) 2 (two16 (24 + n))) 4 (two16 i)) 6 (two16 0)) ∧ Below (F + 2) U wx)
  case first =>
    go_region_held3 (fun w' => w'.cell? ⟨F, 9, none⟩ = some (.slice a n c) ∧ w'.cell? ⟨F + 1, 2, none⟩ = some (.int .i64 i)) (first | exact hSB _ b4 | exact hSB _ b3 | exact hSB _ b2 | exact hSB _ b1 | exact hSB _ b0)
      (first | (go_at_call 30; refine (put16_any (F + 2) x2 6 c2 _ 0 _ (by have := b2.size; omega) o2 (by omega) (by omega) (by omega)).mono ?_; rintro o v3 ⟨x3, c3, rfl, o3, bb⟩; have b3 := b2.trans bb) | (go_at_call 30; refine (put16_any (F + 2) x1 4 c1 _ i _ (by have := b1.size; omega) o1 (by omega) (by omega) (by omega)).mono ?_; rintro o v2 ⟨x2, c2, rfl, o2, bb⟩; have b2 := b1.trans bb) | (go_at_call 30; refine (put16_any (F + 2) (some ⟨F + 2, 0, none⟩) 2 2 _ (24 + n) _ (by have := b0.size; omega) o0 (by omega) (by omega) (by omega)).mono ?_; rintro o v1 ⟨x1, c1, rfl, o1, bb⟩; have b1 := b0.trans bb))
    all_goals
      (go_wp2_with fail)
      go_meet
      case rel => exact ⟨x3, c3, rfl, o3, b3⟩
  clear hSB k1 k2 o0 b0 O
  obtain ⟨x, cx, rfl, ox, bx⟩ := hcut
  obtain ⟨p0, p1, p2, p3, p4, p5, p6⟩ := ip_cells (hC.out _ bx).2
  have szx := bx.size
  have OX : Hid (BO (F + 2) wc x 8 cx (joinF (joinF (joinF (lead2 ⟨d, e, i, t, p, s, q, sp, dp⟩) 2 (two16 (24 + n))) 4 (two16 i)) 6 (two16 0))) := ox
  clear ox
  go_wp2_with (at_builtin; refine wpList_append_byN rfl _ _ rfl (F + 2) x 8 cx _ rfl (BO.alloc OX.out _) (some ⟨wc.heap.size, 0, none⟩) 4 4 (four t p) rfl (row4 wc _ _ _ _ _ _ rfl rfl rfl rfl) (by omega) (by simp; omega) ?_; intro y cy w4 hbo hgr)
  have by4 : Below (F + 2) U w4 := (bx.alloc (by omega) _).trans ((Below.refl (F + 2) _).grown hgr (by simp; omega) (fun k ek => (BO.own_lt OX.out k ek).1))
  have O4 : Hid (BO (F + 2) w4 y 12 cy (joinF (joinF (joinF (joinF (lead2 ⟨d, e, i, t, p, s, q, sp, dp⟩) 2 (two16 (24 + n))) 4 (two16 i)) 6 (two16 0)) 8 (four t p))) := hbo
  clear hbo hgr p0 p1 p2 p3 p4 p5 p6 OX
  have sz4 := by4.size
  have b0 : Below (F + 2) U w4.drew := by4.drew
  have o0 : BO (F + 2) w4.drew y 12 cy (joinF (joinF (joinF (joinF (lead2 ⟨d, e, i, t, p, s, q, sp, dp⟩) 2 (two16 (24 + n))) 4 (two16 i)) 6 (two16 0)) 8 (four t p)) := BO.drew O4.out
  have hSB : ∀ W' : World, Below (F + 2) U W' → W'.cell? ⟨F + 1, 5, none⟩ = some (.int .i64 s) ∧ W'.cell? ⟨F + 1, 6, none⟩ = some (.int .i64 q) := fun W' h => ⟨(hC.out W' h).2.cell 5, (hC.out W' h).2.cell 6⟩
  obtain ⟨k1, k2⟩ := hSB _ by4
  have m1 := and_16 s
  have m2 := and_16 q
  go_cut [4] from 6 (fun s4 wx => ∃ (x : Option Addr) (cx : Nat), s4 = .slice x 20 cx ∧ BO (F + 2) wx x 20 cx (sHead ⟨d, e, i, t, p, s, q, sp, dp⟩ n) ∧ Below (F + 2) U wx)
  case first =>
    go_region_held3 (fun w' => w'.cell? ⟨F + 1, 5, none⟩ = some (.int .i64 s) ∧ w'.cell? ⟨F + 1, 6, none⟩ = some (.int .i64 q)) (first | exact hSB _ b4 | exact hSB _ b3 | exact hSB _ b2 | exact hSB _ b1 | exact hSB _ b0)
      (first | (go_at_call 30; refine (put16_any (F + 2) x3 18 c3 _ (q % 65536) _ (by have := b3.size; omega) o3 (by omega) (by omega) (by omega)).mono ?_; rintro o v4 ⟨x4, c4, rfl, o4, bb⟩; have b4 := b3.trans bb) | (go_at_call 30; refine (put16_any (F + 2) x2 16 c2 _ (q / 65536) _ (by have := b2.size; omega) o2 (by omega) (by omega) (by omega)).mono ?_; rintro o v3 ⟨x3, c3, rfl, o3, bb⟩; have b3 := b2.trans bb) | (go_at_call 30; refine (put16_any (F + 2) x1 14 c1 _ (s % 65536) _ (by have := b1.size; omega) o1 (by omega) (by omega) (by omega)).mono ?_; rintro o v2 ⟨x2, c2, rfl, o2, bb⟩; have b2 := b1.trans bb) | (go_at_call 30; refine (put16_any (F + 2) y 12 cy _ (s / 65536) _ (by have := b0.size; omega) o0 (by omega) (by omega) (by omega)).mono ?_; rintro o v1 ⟨x1, c1, rfl, o1, bb⟩; have b1 := b0.trans bb))
    all_goals
      (go_wp2_with fail)
      go_meet
      case rel => exact ⟨x4, c4, rfl, o4, b4⟩
  clear hSB k1 k2 o0 b0 O4 m1 m2
  obtain ⟨x', cx', rfl, ox, bx'⟩ := hcut
  obtain ⟨S, hS⟩ : ∃ S, 65535 - sumF (sHead ⟨d, e, i, t, p, s, q, sp, dp⟩ n) 20 = S := ⟨_, rfl⟩
  have bS : 0 ≤ S ∧ S ≤ 65535 := by rw [← hS]; have := sumF_bd (sHead_byt ⟨d, e, i, t, p, s, q, sp, dp⟩ n); omega
  have HS : Hid (65535 - sumF (sHead ⟨d, e, i, t, p, s, q, sp, dp⟩ n) 20 = S) := hS
  have hsb := sumF_bd (sHead_byt ⟨d, e, i, t, p, s, q, sp, dp⟩ n)
  have HR : Hid (Row .u8 wc x' 20 (sHead ⟨d, e, i, t, p, s, q, sp, dp⟩ n)) := ox.fresh.row
  obtain ⟨gb, rfl, hgb, lgb, hcell⟩ := ox.at (by omega)
  obtain ⟨h10, z10⟩ := hcell 10 (by omega)
  obtain ⟨h11, z11⟩ := hcell 11 (by omega)
  have OX : Hid (BO (F + 2) wc (some ⟨gb, 0, none⟩) 20 cx' (sHead ⟨d, e, i, t, p, s, q, sp, dp⟩ n)) := ox
  clear ox hcell
  go_wp2_with (go_at_call 31; refine (sum_any (some ⟨gb, 0, none⟩) 20 cx' (sHead ⟨d, e, i, t, p, s, q, sp, dp⟩ n) _ HR.out (sHead_byt _ _) (by omega)).mono ?_; rintro o w5 ⟨rfl, rfl⟩)
  obtain ⟨Z, hZ⟩ : ∃ Z, (w5.setCell ⟨gb, 10, none⟩ (.int .u8 (S / 256 % 256))).setCell ⟨gb, 11, none⟩ (.int .u8 (S % 256)) = Z := ⟨_, rfl⟩
  have oz : BO (F + 2) Z (some ⟨gb, 0, none⟩) 20 cx' (summed ⟨d, e, i, t, p, s, q, sp, dp⟩ n S) := by
    rw [← hZ]
    exact ((BO.set OX.out 10 (by omega) _).set 11 (by omega) _).congr fun k hk => by simp only [summed]
  have bz : Below (F + 2) U Z := by rw [← hZ]; exact (bx'.setCell hgb _).setCell hgb _
  rw [hZ]
  clear hZ OX HR h10 z10 h11 z11 hsb
  have sz9 := bz.size
  have b0 : Below (F + 2) U Z.drew := bz.drew
  have o0 : BO (F + 2) Z.drew (some ⟨gb, 0, none⟩) 20 cx' (summed ⟨d, e, i, t, p, s, q, sp, dp⟩ n S) := oz.drew
  have hSB : ∀ W' : World, Below (F + 2) U W' → W'.cell? ⟨F, 7, none⟩ = some (.int .i64 sp) ∧ W'.cell? ⟨F, 8, none⟩ = some (.int .i64 dp) ∧ W'.cell? ⟨F, 9, none⟩ = some (.slice a n c) := fun W' h => ⟨(hC.out W' h).1.cell 7, (hC.out W' h).1.cell 8, (hC.out W' h).1.cell 9⟩
  obtain ⟨k1, k2, k3⟩ := hSB _ bz
  have hRow : Hid (∀ W' : World, Below (F + 2) U W' → Row .u8 W' a n g) := fun W' h => Row.below HD.out (by rw [hF]; exact B.trans (h.mono (by omega)))
  go_region_held3 (fun w' => w'.cell? ⟨F, 7, none⟩ = some (.int .i64 sp) ∧ w'.cell? ⟨F, 8, none⟩ = some (.int .i64 dp) ∧ w'.cell? ⟨F, 9, none⟩ = some (.slice a n c)) (first | exact hSB _ b3 | exact hSB _ b2 | exact hSB _ b1 | exact hSB _ b0)
    (first | (refine step_append_byN (by rfl) _ _ (by rfl) (F + 2) x2 24 c2 _ (by rfl) o2 a n c g (by rfl) (hRow.out _ b2) (by omega) (by have := b2.size; omega) ?_; intro x3 c3 v3 hbo hgr; have b3 := b2.trans ((Below.refl (F + 2) _).grown hgr (by have := b2.size; omega) (fun k ek => (BO.own_lt o2 k ek).1))) | (go_at_call 30; refine (put16_any (F + 2) x1 22 c1 _ dp _ (by have := b1.size; omega) o1 (by omega) (by omega) (by omega)).mono ?_; rintro o v2 ⟨x2, c2, rfl, o2, bb⟩; have b2 := b1.trans bb) | (go_at_call 30; refine (put16_any (F + 2) (some ⟨gb, 0, none⟩) 20 cx' _ sp _ (by have := b0.size; omega) o0 (by omega) (by omega) (by omega)).mono ?_; rintro o v1 ⟨x1, c1, rfl, o1, bb⟩; have b1 := b0.trans bb))
  all_goals
    go_wp2
    go_ret
    refine ⟨x3, c3, rfl, ?_, ?_⟩
    · rw [hF]
      refine (hbo.mono (by omega)).congr fun k hk => ?_
      exact built_eq ⟨d, e, i, t, p, s, q, sp, dp⟩ n g S HG.out bS HS.out k hk
    · rw [hF]
      exact B.trans (b3.mono (by omega))

end Go.Proofs.Ytkhfcemjmnjkdaa
