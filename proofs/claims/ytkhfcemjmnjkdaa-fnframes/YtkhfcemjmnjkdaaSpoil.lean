/-
  WHAT l2spoil ANSWERS: whatever the bytes of the draw are, some bytes.
-/
import Derived.Test.YtkhfcemjmnjkdaaSBuild
import Derived.Test.YtkhfcemjmnjkdaaDrawFr
namespace Go.Proofs.Ytkhfcemjmnjkdaa
open Go.RowKit
set_option linter.unusedVariables false

theorem by_none (w : World) (base : Nat) (hb : base ≤ w.heap.size) (f : Nat → Int) : BO base (w.alloc (.cells #[] 5)) (some ⟨w.heap.size, 0, none⟩) 0 0 f :=
  ⟨by simp [byL], .inr ⟨w.heap.size, 0, #[], rfl, hb, Sits.new _ _ _, Nat.le_refl _, by unfold maxLen; omega, by simp, by simp [byL]⟩⟩

theorem row1 (w : World) (u : Int) (t : TypeId) (g : Nat → Int) (h0 : g 0 = u) : Row .u8 (w.alloc (.cells #[.int .u8 u] t)) (some ⟨w.heap.size, 0, none⟩) 1 g := by
  refine .inr ⟨w.heap.size, 0, rfl, by simp, fun i hi => ?_⟩
  obtain rfl : i = 0 := by omega
  rw [h0]; simp

set_option maxRecDepth 100000 in
set_option maxHeartbeats 2000000 in
theorem l2spoil_any (B : Nat) (a : Option Addr) (len cap : Nat) (x : Option Addr) (n c : Nat) (f : Nat → Int) (w : World) (hc : Cur w B a len cap) (hr : Row .u8 w x n f) (hf : Byt n f) (h24 : 24 ≤ (n : Int)) (h100 : (n : Int) ≤ 100) :
    Calls Try.prog 28 #[.pointer (some ⟨B, 0, none⟩), .slice x n c] w fun e w' => ∃ (y : Option Addr) (m cy : Nat) (g : Nat → Int), e = .returned (.slice y m cy) ∧ m ≤ 101 ∧ m ≤ cy ∧ Row .u8 w' y m g ∧ Byt m g ∧ Cur w' B a len cap ∧ Only B w w' := by
  have HR : Hid (Row .u8 w x n f) := hr
  have HF : Hid (Byt n f) := hf
  have HC : Hid (Cur w B a len cap) := hc
  have hB := hc.1
  clear hr hf hc
  go_enter Try.func28, Try.ntmps28
  go_wp2_with (at_builtin; refine wpList_append_byN rfl _ _ rfl w.heap.size (some ⟨w.heap.size, 0, none⟩) 0 0 f rfl (by_none w _ (Nat.le_refl _) f) x n c f rfl (Row.below HR.out ((Below.refl _ _).alloc (Nat.le_refl _) _)) (by omega) (by simp) ?_; intro y cy w1 hbo hgr; rw [Nat.zero_add] at hbo ⊢)
  have bl : Below w.heap.size w w1 := ((Below.refl _ _).alloc (Nat.le_refl _) _).trans ((Below.refl w.heap.size _).grown hgr (by simp) (fun k ek => by simp [Value.ownBlock] at ek; omega))
  replace hbo : BO w.heap.size w1 y n cy f := hbo.congr fun i hi => by unfold joinF; rw [if_neg (by omega), Nat.sub_zero]
  have cu1 : Cur w1 B a len cap := cur_below HC.out bl (by omega)
  have on1 : Only B w w1 := only_below (Only.refl B w) bl (Nat.le_refl _)
  have hcap := hbo.cap
  clear hgr
  refine (below_any B a len cap w1 cu1 n (by omega) (by omega)).mono ?_
  rintro o w2 ⟨i, rfl, i0, i1, cu2, oo⟩
  have bo2 := BO.only hbo oo (by omega)
  have on2 := on1.trans oo
  clear hbo oo on1 cu1
  obtain ⟨i, rfl⟩ := Int.eq_ofNat_of_zero_le i0
  go_wp2_with fail
  refine (below_any B a len cap w2 cu2 4 (by omega) (by omega)).mono ?_
  rintro o w3 ⟨k, rfl, k0, k1, cu3, oo⟩
  have bo3 := BO.only bo2 oo (by omega)
  have on3 := on2.trans oo
  clear bo2 oo on2 cu2
  obtain ⟨gb, rfl, hgb, lgb, hcell⟩ := bo3.at (by omega)
  have BO3 : Hid (BO w.heap.size w3 (some ⟨gb, 0, none⟩) n cy f) := bo3
  have ON3 : Hid (Only B w w3) := on3
  have CU3 : Hid (Cur w3 B a len cap) := cu3
  have HCELL : Hid (∀ i, i < n → w3.cell? ⟨gb, i, none⟩ = some (.int .u8 (f i)) ∧ w3.frozen? ⟨gb, i, none⟩ = false) := hcell
  clear bo3 on3 cu3 hcell
  rcases (by omega : k = 0 ∨ k = 1 ∨ k = 2 ∨ k = 3) with rfl | rfl | rfl | rfl
  · go_wp2_with fail
    refine (byte_any B a len cap w3 CU3.out).mono ?_
    rintro o w4 ⟨v, rfl, v0, v1, cu4, oo⟩
    have bo4 := BO.only BO3.out oo (by omega)
    obtain ⟨gb', hg', _, lg', hcell'⟩ := bo4.at (by omega)
    obtain rfl : gb' = gb := by simpa using hg'.symm
    obtain ⟨kj, zj⟩ := hcell' i (by omega)
    have BO4 : Hid (BO w.heap.size w4 (some ⟨gb', 0, none⟩) n cy f) := bo4
    have ON4 : Hid (Only B w w4) := Only.trans ON3.out oo
    have wrap8 := u8_wrap
    clear bo4 hcell' oo hg'
    go_wp2_with fail
    go_ret
    refine ⟨_, n, cy, _, rfl, by omega, hcap, (BO.fresh (BO.set BO4.out i (by omega) (v % 256))).row, ?_, Cur.setNew cu4 (by omega) _, Only.setNew ON4.out (by omega) _⟩
    intro k hk
    dsimp only
    split
    · omega
    · exact HF.out k hk
  · go_wp2_with fail
    go_ret
    exact ⟨_, i, cy, f, rfl, by omega, by omega, .inr ⟨gb, 0, rfl, lgb, fun k hk => by rw [Nat.zero_add]; exact (HCELL.out k (by omega)).1⟩, fun k hk => HF.out k (by omega), CU3.out, ON3.out⟩
  · go_wp2_with (at_builtin; refine wpList_append_byN rfl _ _ rfl w.heap.size (some ⟨gb, 0, none⟩) n cy f rfl (BO.alloc BO3.out _) (some ⟨w3.heap.size, 0, none⟩) 1 1 (fun _ => 7) rfl (row1 w3 7 _ _ rfl) (by omega) (by simp; omega) ?_; intro y2 c2 w4 hbo hgr)
    have b4 : Below w.heap.size w3 w4 := ((Below.refl _ _).alloc (by omega) _).trans ((Below.refl w.heap.size _).grown hgr (by simp; omega) (fun k ek => (BO.own_lt BO3.out k ek).1))
    go_ret
    exact ⟨y2, n + 1, c2, joinF f n (fun _ => 7), rfl, by omega, hbo.cap, hbo.fresh.row, joinF_byt HF.out (fun i hi => by omega), cur_below CU3.out b4 (by omega), only_below ON3.out b4 (Nat.le_refl _)⟩
  · go_wp2_with fail
    refine (below_any B a len cap w3 CU3.out 12 (by omega) (by omega)).mono ?_
    rintro o w4 ⟨j, rfl, j0, j1, cu4, oo⟩
    obtain ⟨j, rfl⟩ := Int.eq_ofNat_of_zero_le j0
    have bo4 := BO.only BO3.out oo (by omega)
    obtain ⟨gb', hg', _, lg', hcell'⟩ := bo4.at (by omega)
    obtain rfl : gb' = gb := by simpa using hg'.symm
    obtain ⟨kj, zj⟩ := hcell' j (by omega)
    have jn : (j : Int) < (n : Int) := by omega
    have BO4 : Hid (BO w.heap.size w4 (some ⟨gb', 0, none⟩) n cy f) := bo4
    have ON4 : Hid (Only B w w4) := Only.trans ON3.out oo
    have wrap8 := u8_wrap
    clear bo4 hcell' oo hg'
    go_wp2_with fail
    go_ret
    refine ⟨_, n, cy, _, rfl, by omega, hcap, (BO.fresh (BO.set BO4.out j (by omega) ((f j + 1) % 256))).row, ?_, Cur.setNew cu4 (by omega) _, Only.setNew ON4.out (by omega) _⟩
    intro k hk
    dsimp only
    split
    · omega
    · exact HF.out k hk

theorem putF_b {f : Nat → Int} {m s : Nat} {v : Int} (h : Byt m f) : Byt (m + s) (putF f m v s) := putF_byt h
theorem buildF_byt (r : Fr) (n : Nat) (g : Nat → Int) (hg : Byt n g) : Byt (24 + n) (buildF r n g) :=
  joinF_byt (putF_b (m := 22) (s := 2) (putF_b (m := 20) (s := 2) (headF_byt _ _ _ _ _ _ _ _ _))) hg

set_option maxHeartbeats 1000000 in
theorem l2bytes_any (B : Nat) (a : Option Addr) (len cap : Nat) (w : World) (hc : Cur w B a len cap) :
    Calls Try.prog 22 #[.pointer (some ⟨B, 0, none⟩)] w fun e w' => ∃ (y : Option Addr) (m cy : Nat) (g : Nat → Int), e = .returned (.slice y m cy) ∧ m ≤ 101 ∧ m ≤ cy ∧ Row .u8 w' y m g ∧ Byt m g ∧ Cur w' B a len cap ∧ Only B w w' := by
  have hB := hc.1
  go_enter Try.func22, Try.ntmps22
  go_wp2_with fail
  refine (l2draw_any B a len cap w hc).mono ?_
  rintro o w1 ⟨r, x, m, c, g, rfl, hg, hm, ho, hb, cu1, on1⟩
  have HG : Hid (r.good m = true) := hg
  have HR : Hid (Row .u8 w1 x m g) := ho.fresh.row
  have HB : Hid (Byt m g) := hb
  have hm8 : (m : Int) ≤ 8 := by omega
  have hs1 := on1.size
  clear hc hg ho hb hm
  go_wp2_with fail
  refine (l2build_any r x m c g w1 (by omega) HG.out HR.out).mono ?_
  rintro o w2 ⟨y, cy, rfl, bo, b2⟩
  have cu2 : Cur w2 B a len cap := cur_below cu1 b2 (by omega)
  have on2 : Only B w w2 := only_below on1 b2 hs1
  have hcap := bo.cap
  clear cu1 on1 b2
  go_wp2_with fail
  refine (once_any B a len cap w2 cu2 3 (by omega) (by omega)).mono ?_
  rintro o w3 ⟨yes, rfl, cu3, oo⟩
  have bo3 := BO.only bo oo (by omega)
  have on3 := on2.trans oo
  have R3 : Hid (Row .u8 w3 y (24 + m) (buildF r m g)) := bo3.fresh.row
  clear bo cu2 on2 oo bo3
  cases yes
  case false =>
    go_wp2_with fail
    go_ret
    exact ⟨y, 24 + m, cy, _, rfl, by omega, hcap, R3.out, buildF_byt r m g HB.out, cu3, on3⟩
  case true =>
    go_wp2_with fail
    refine (l2spoil_any B a len cap y (24 + m) cy (buildF r m g) w3 cu3 R3.out (buildF_byt r m g HB.out) (by omega) (by omega)).mono ?_
    rintro o w4 ⟨z, k, cz, h, rfl, k1, k2, rz, bz, cu4, on4⟩
    have KK : Hid (k ≤ 101 ∧ k ≤ cz) := ⟨k1, k2⟩
    clear k1 k2
    go_wp2_with fail
    go_ret
    exact ⟨z, k, cz, h, rfl, KK.out.1, KK.out.2, rz, bz, cu4, on3.trans on4⟩

end Go.Proofs.Ytkhfcemjmnjkdaa
