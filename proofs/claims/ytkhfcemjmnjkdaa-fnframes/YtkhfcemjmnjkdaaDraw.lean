/-
  WHAT THE SPECIFICATION's CURSOR OVER THE BYTES OF A DRAW DOES (l1New, l1Byte, l1Below, l1PickInt): whatever the bytes are, each draw answers a number of its range, and nothing turns but the cursor.
-/
import Derived.Test.YtkhfcemjmnjkdaaBase
import Derived.Deep.OwnShut
import Derived.Deep.RegionHeld
namespace Go.Proofs.Ytkhfcemjmnjkdaa
open Go.RowKit
set_option linter.unusedVariables false

/-- Of what was there nothing has turned but block B. -/
structure Only (B : Nat) (w w' : World) : Prop where
  os : w'.os = w.os
  tape : w'.tape = w.tape
  output : w'.output = w.output
  size : w.heap.size ≤ w'.heap.size
  block : ∀ k, k < w.heap.size → k ≠ B → w'.heap[k]? = w.heap[k]?

theorem Only.refl (B : Nat) (w : World) : Only B w w := ⟨rfl, rfl, rfl, Nat.le_refl _, fun _ _ _ => rfl⟩
theorem Only.trans {B : Nat} {a b c : World} (h : Only B a b) (k : Only B b c) : Only B a c :=
  ⟨k.os.trans h.os, k.tape.trans h.tape, k.output.trans h.output, Nat.le_trans h.size k.size, fun i hi hn => (k.block i (Nat.lt_of_lt_of_le hi h.size) hn).trans (h.block i hi hn)⟩
theorem Only.drew {B : Nat} {a w : World} (h : Only B a w) : Only B a w.drew := ⟨h.os, h.tape, h.output, h.size, h.block⟩
theorem Only.alloc {B : Nat} {a w : World} (h : Only B a w) (o : Obj) : Only B a (w.alloc o) :=
  h.trans ⟨rfl, rfl, rfl, by simp, fun k hk _ => Below.heap_alloc _ _ _ hk⟩
theorem Only.setCell {B : Nat} {a w : World} (h : Only B a w) {p : Addr} (hp : p.block = B) (u : Value) : Only B a (w.setCell p u) :=
  h.trans ⟨rfl, rfl, rfl, by simp [World.setCell], fun k hk hn => Below.heap_setCell _ _ _ _ (by omega)⟩
theorem Only.set {B : Nat} {a w : World} (h : Only B a w) (o : Nat) (u : Value) : Only B a (w.setCell ⟨B, o, none⟩ u) := h.setCell (p := ⟨B, o, none⟩) rfl u
theorem Only.cell {B : Nat} {w w' : World} (h : Only B w w') {p : Addr} (hp : p.block < w.heap.size) (hn : p.block ≠ B) : w'.cell? p = w.cell? p := World.cell?_of_block (w := w) (h.block p.block hp hn)
theorem Only.below {B C : Nat} {w w' : World} (h : Only B w w') (hB : C ≤ B) (hC : C ≤ w.heap.size) : Below C w w' :=
  ⟨h.os, h.tape, h.output, h.size, fun k hk => h.block k (by omega) (by omega)⟩

/-- The bytes that are drawn from: any, each in its place, ahead of block B. -/
def Code (w : World) (B : Nat) (a : Option Addr) (len : Nat) : Prop :=
  len = 0 ∨ ∃ b off : Nat, a = some ⟨b, off, none⟩ ∧ b < B ∧ ∀ k : Nat, k < len → ∃ v : Int, 0 ≤ v ∧ v ≤ 255 ∧ w.cell? ⟨b, off + k, none⟩ = some (.int .u8 v)
theorem Code.move {w w' : World} {B : Nat} {a : Option Addr} {len : Nat} (h : Code w B a len) (hc : ∀ b o, b < B → w'.cell? ⟨b, o, none⟩ = w.cell? ⟨b, o, none⟩) : Code w' B a len := by
  rcases h with h | ⟨b, off, ha, hb, hk⟩
  · exact .inl h
  · refine .inr ⟨b, off, ha, hb, fun k hk' => ?_⟩
    obtain ⟨v, v0, v1, hv⟩ := hk k hk'
    exact ⟨v, v0, v1, (hc b _ hb).trans hv⟩
/-- A cursor at block B. -/
def Cur (w : World) (B : Nat) (a : Option Addr) (len cap : Nat) : Prop :=
  B < w.heap.size ∧ len ≤ 9223372036854775807 ∧ (∃ i h : Int, 0 ≤ i ∧ i ≤ len ∧ w.cell? ⟨B, 0, none⟩ = some (.slice a len cap) ∧ w.cell? ⟨B, 1, none⟩ = some (.int .i64 i) ∧ w.cell? ⟨B, 2, none⟩ = some (.int .i64 h)) ∧
    w.frozen? ⟨B, 1, none⟩ = false ∧ w.frozen? ⟨B, 2, none⟩ = false ∧ Code w B a len
theorem Cur.setH {w : World} {B : Nat} {a : Option Addr} {len cap : Nat} (hc : Cur w B a len cap) (x : Int) : Cur (w.setCell ⟨B, 2, none⟩ (.int .i64 x)) B a len cap := by
  obtain ⟨hB, hl, ⟨i, h, i0, i1, c0, c1, c2⟩, f1, f2, hcode⟩ := hc
  refine ⟨by simpa [World.setCell] using hB, hl, ⟨i, x, i0, i1, ?_, ?_, ?_⟩, ?_, ?_, hcode.move fun b o hb => ?_⟩
  · simp [go_sem, c0]
  · simp [go_sem, c1]
  · simp [go_sem, c2]
  · simp [go_sem, f1]
  · simp [go_sem, f2]
  · exact World.cell?_setCell_far _ _ _ _ (by show B ≠ b; omega)
theorem Cur.setI {w : World} {B : Nat} {a : Option Addr} {len cap : Nat} (hc : Cur w B a len cap) (x : Int) (x0 : 0 ≤ x) (x1 : x ≤ len) : Cur (w.setCell ⟨B, 1, none⟩ (.int .i64 x)) B a len cap := by
  obtain ⟨hB, hl, ⟨i, h, i0, i1, c0, c1, c2⟩, f1, f2, hcode⟩ := hc
  refine ⟨by simpa [World.setCell] using hB, hl, ⟨x, h, x0, x1, ?_, ?_, ?_⟩, ?_, ?_, hcode.move fun b o hb => ?_⟩
  · simp [go_sem, c0]
  · simp [go_sem, c1]
  · simp [go_sem, c2]
  · simp [go_sem, f1]
  · simp [go_sem, f2]
  · exact World.cell?_setCell_far _ _ _ _ (by show B ≠ b; omega)
theorem Cur.alloc {w : World} {B : Nat} {a : Option Addr} {len cap : Nat} (hc : Cur w B a len cap) (c : Array Value) (t : TypeId) : Cur (w.alloc (.cells c t)) B a len cap := by
  obtain ⟨hB, hl, ⟨i, h, i0, i1, c0, c1, c2⟩, f1, f2, hcode⟩ := hc
  have e : ∀ b o, b < w.heap.size → (w.alloc (.cells c t)).cell? ⟨b, o, none⟩ = w.cell? ⟨b, o, none⟩ := fun b o hb => World.cell?_alloc_old w _ ⟨b, o, none⟩ (by show b ≠ _; omega)
  have f : ∀ x, (w.alloc (.cells c t)).frozen? x = w.frozen? x := fun x => frozen?_alloc_cells w c t x
  exact ⟨by simp; omega, hl, ⟨i, h, i0, i1, (e _ _ hB).trans c0, (e _ _ hB).trans c1, (e _ _ hB).trans c2⟩, (f _).trans f1, (f _).trans f2, hcode.move fun b o hb => e b o (by omega)⟩

theorem and_255 (x : Int) : bits .and .i64 x 255 = x % 256 := and_low x 8 (by decide)

set_option maxHeartbeats 400000 in
theorem byte_any (B : Nat) (a : Option Addr) (len cap : Nat) (w : World) (hc : Cur w B a len cap) :
    Calls Try.prog 29 #[.pointer (some ⟨B, 0, none⟩)] w fun e w' => ∃ x : Int, e = .returned (.int .i64 x) ∧ 0 ≤ x ∧ x ≤ 255 ∧ Cur w' B a len cap ∧ Only B w w' := by
  have HC : Hid (Cur w B a len cap) := hc
  obtain ⟨hB, hl, ⟨i, h, i0, i1, c0, c1, c2⟩, f1, f2, hcode⟩ := hc
  have hm := and_255
  by_cases hi : i < len
  · obtain ⟨b, off, rfl, hb, hk⟩ : ∃ b off : Nat, a = some ⟨b, off, none⟩ ∧ b < B ∧ ∀ k : Nat, k < len → ∃ v : Int, 0 ≤ v ∧ v ≤ 255 ∧ w.cell? ⟨b, off + k, none⟩ = some (.int .u8 v) := by
      rcases hcode with h | h
      · omega
      · exact h
    obtain ⟨n, rfl⟩ := Int.eq_ofNat_of_zero_le i0
    obtain ⟨v, v0, v1, hv⟩ := hk n (by omega)
    have hne : ¬ b = B := by omega
    clear hk hcode
    go_enter Try.func29, Try.ntmps29
    go_wp2
    go_region
    go_wp2
    go_region
    go_wp2
    go_region
    go_wp2
    go_ret
    exact ⟨_, rfl, by omega, by omega, Cur.setI (Cur.setH HC.out _) _ (by omega) (by omega), (((((Only.refl B w).set 2 _).set 1 _).drew).drew).drew⟩
  · clear hcode
    go_enter Try.func29, Try.ntmps29
    go_wp2
    go_region
    go_wp2
    go_region
    go_wp2
    go_ret
    exact ⟨_, rfl, by omega, by omega, Cur.setH HC.out _, (((Only.refl B w).set 2 _).drew).drew⟩

theorem below_any (B : Nat) (a : Option Addr) (len cap : Nat) (w : World) (hc : Cur w B a len cap) (n : Int) (n0 : 1 ≤ n) (n1 : n ≤ 9223372036854775807) :
    Calls Try.prog 25 #[.pointer (some ⟨B, 0, none⟩), .int .i64 n] w fun e w' => ∃ x : Int, e = .returned (.int .i64 x) ∧ 0 ≤ x ∧ x < n ∧ Cur w' B a len cap ∧ Only B w w' := by
  have hon : Only B w w := Only.refl _ _
  by_cases h : n ≤ 256
  · go_enter Try.func25, Try.ntmps25
    go_wp2_with (go_at_call 29; refine (byte_any B a len cap _ hc).mono ?_; clear hc; rintro e w' ⟨x, rfl, x0, x1, hc, ho⟩; replace hon := hon.trans ho; clear ho; have r0 := Int.emod_nonneg x (show n ≠ 0 by omega); have r1 := Int.emod_lt_of_pos x (show 0 < n by omega))
    go_ret
    exact ⟨_, rfl, by omega, by omega, hc, hon⟩
  · go_enter Try.func25, Try.ntmps25
    go_wp2_with (go_at_call 29; refine (byte_any B a len cap _ hc).mono ?_; clear hc; rintro e w' ⟨x, rfl, x0, x1, hc, ho⟩; replace hon := hon.trans ho; clear ho)
    go_ret
    exact ⟨_, rfl, Int.emod_nonneg _ (by omega), Int.emod_lt_of_pos _ (by omega), hc, hon⟩

theorem pick_any (Q : Int → Prop) (B : Nat) (a : Option Addr) (len cap : Nat) (w : World) (hc : Cur w B a len cap) (L n : Nat) (n0 : 1 ≤ n) (n1 : n ≤ 256) (hL : L < w.heap.size) (hne : L ≠ B)
    (hq : ∀ k, k < n → ∃ v : Int, w.cell? ⟨L, k, none⟩ = some (.int .i64 v) ∧ Q v) :
    Calls Try.prog 26 #[.pointer (some ⟨B, 0, none⟩), .slice (some ⟨L, 0, none⟩) n n] w fun e w' => ∃ x : Int, e = .returned (.int .i64 x) ∧ Q x ∧ Cur w' B a len cap ∧ Only B w w' := by
  have HQ : Hid _ := hq
  clear hq
  go_enter Try.func26, Try.ntmps26
  go_wp2_with (go_at_call 25; refine (below_any B a len cap _ hc _ (by omega) (by omega)).mono ?_; clear hc; rintro e w' ⟨x, rfl, x0, x1, hc, hon⟩; obtain ⟨j, rfl⟩ := Int.eq_ofNat_of_zero_le x0; obtain ⟨v, hv, hqv⟩ := HQ.out j (by omega); have hv' : w'.cell? ⟨L, j, none⟩ = some (.int .i64 v) := (hon.cell hL hne).trans hv; clear hv; have QV : Hid (Q v) := hqv; clear hqv)
  go_ret
  exact ⟨v, rfl, QV.out, hc, hon⟩

theorem new_cur {a : Option Addr} {len cap : Nat} {w : World} (h : Int) (t : TypeId) (hl : len ≤ 9223372036854775807) (hcode : Code w w.heap.size a len) :
    Cur (w.alloc (.cells #[.slice a len cap, .int .i64 0, .int .i64 h] t)) w.heap.size a len cap := by
  refine ⟨by simp, hl, ⟨0, h, by omega, by omega, ?_, ?_, ?_⟩, ?_, ?_, hcode.move fun b o hb => World.cell?_alloc_old w _ ⟨b, o, none⟩ (by show b ≠ _; omega)⟩
  all_goals simp [go_sem]

set_option maxHeartbeats 400000 in
theorem new_any (a : Option Addr) (len cap : Nat) (w : World) (hl : len ≤ 9223372036854775807) (hcode : Code w w.heap.size a len) :
    Calls Try.prog 13 #[.slice a len cap] w fun e w' => e = .returned (.pointer (some ⟨w.heap.size, 0, none⟩)) ∧ Cur w' w.heap.size a len cap ∧ Below w.heap.size w w' := by
  have HC : Hid (Code w w.heap.size a len) := hcode
  clear hcode
  go_enter Try.func13, Try.ntmps13
  go_wp2
  go_loop [3, 4] (fun x y => ∃ (k : Nat) (h : Int), k ≤ len ∧ y = .int .i64 k ∧ x = .int .i64 h) (fun _ y => len - (intOf y).toNat)
  case atStart => exact ⟨0, _, by omega, rfl, rfl⟩
  case round =>
    obtain ⟨k, h, k1, rfl, rfl⟩ := hrel
    by_cases hlt : k < len
    · by_cases h4 : (k : Int) < 4000
      · obtain ⟨b, off, rfl, hb, hk⟩ : ∃ b off : Nat, a = some ⟨b, off, none⟩ ∧ b < w.heap.size ∧ ∀ k : Nat, k < len → ∃ v : Int, 0 ≤ v ∧ v ≤ 255 ∧ w.cell? ⟨b, off + k, none⟩ = some (.int .u8 v) := by
          rcases HC.out with h | h
          · omega
          · exact h
        obtain ⟨v, v0, v1, hv⟩ := hk k hlt
        clear hk
        go_wp2
        go_round
        case rel => exact ⟨k + 1, _, by omega, by go_num, rfl⟩
        case measure => simp [intOf]; omega
      · go_wp2
        go_ret
        exact ⟨rfl, new_cur _ _ (by omega) HC.out, (Below.refl _ _).alloc (Nat.le_refl _) _⟩
    · go_wp2
      go_ret
      exact ⟨rfl, new_cur _ _ (by omega) HC.out, (Below.refl _ _).alloc (Nat.le_refl _) _⟩

end Go.Proofs.Ytkhfcemjmnjkdaa
