/-
  A DRAWN CODEL THAT MAY BE BENT: l5bent.
-/
import Derived.Test.YthdlpgehojdhkacDrawCd
namespace Go.Proofs.Ythdlpgehojdhkac
open Go.RowKit
set_option linter.unusedVariables false

/-- A Codel in block V, above the block of the answer, which is still zero. -/
def CdV (B : Nat) (a : Option Addr) (len cap : Nat) (w : World) (V : Nat) (W : World) (r : Cd) : Prop := Sits W V (cdCells r) 38 ∧ Sits W w.heap.size (cdCells Cd.zero) 38 ∧ Only B w W ∧ Cur W B a len cap ∧ w.heap.size < V

theorem CdV.step {B : Nat} {a : Option Addr} {len cap V : Nat} {w W W' : World} {r : Cd} (h : CdV B a len cap w V W r) (hB : B < w.heap.size) (c : Cur W' B a len cap) (o : Only B W W') : CdV B a len cap w V W' r :=
  ⟨h.1.only o (by have := h.2.2.2.2; omega), h.2.1.only o (by omega), h.2.2.1.trans o, c, h.2.2.2.2⟩

theorem CdV.alloc {B : Nat} {a : Option Addr} {len cap V : Nat} {w W : World} {r : Cd} (h : CdV B a len cap w V W r) (c : Array Value) (t : TypeId) : CdV B a len cap w V (W.alloc (.cells c t)) r :=
  ⟨h.1.alloc _, h.2.1.alloc _, h.2.2.1.alloc _, h.2.2.2.1.alloc _ _, h.2.2.2.2⟩

theorem CdV.put {B : Nat} {a : Option Addr} {len cap V : Nat} {w W : World} {r s : Cd} (h : CdV B a len cap w V W r) (hB : B < w.heap.size) (k : Nat) (v : Value) (e : (cdCells r).setIfInBounds k v = cdCells s) : CdV B a len cap w V (W.setCell ⟨V, k, none⟩ v) s :=
  ⟨e ▸ h.1.set k v, h.2.1.other (by have := h.2.2.2.2; omega) _, h.2.2.1.setNew (by have := h.2.2.2.2; omega) _, h.2.2.2.1.setNew (by have := h.2.2.2.2; omega) _, h.2.2.2.2⟩

theorem CdV.back {B : Nat} {a : Option Addr} {len cap V : Nat} {w W : World} {r : Cd} (h : CdV B a len cap w V W r) (hB : B < w.heap.size) : Sits (backW W w.heap.size r) w.heap.size (cdCells r) 38 ∧ Cur (backW W w.heap.size r) B a len cap ∧ Only B w (backW W w.heap.size r) :=
  ⟨((((((h.2.1.set 0 _).set 1 _).set 2 _).set 3 _).set 4 _).set 5 _).set 6 _,
   ((((((h.2.2.2.1.setNew hB _).setNew hB _).setNew hB _).setNew hB _).setNew hB _).setNew hB _).setNew hB _,
   ((((((h.2.2.1.setNew (Nat.le_refl _) _).setNew (Nat.le_refl _) _).setNew (Nat.le_refl _) _).setNew (Nat.le_refl _) _).setNew (Nat.le_refl _) _).setNew (Nat.le_refl _) _).setNew (Nat.le_refl _) _⟩

set_option maxRecDepth 100000 in
set_option maxHeartbeats 4000000 in
theorem l5bent_any (B : Nat) (a : Option Addr) (len cap : Nat) (now : Int) (h0 : -1 ≤ now) (h1 : now ≤ 1000200000000) (w : World) (hc : Cur w B a len cap) :
    Calls Try.prog 49 #[.pointer (some ⟨B, 0, none⟩), .int .i64 now] w fun e w' => ∃ r : Cd, e = .returned r.val ∧ r.low ∧ Cur w' B a len cap ∧ Only B w w' := by
  have hB := hc.1
  have C0 : Hid (Cur (w.alloc (.cells (cdCells Cd.zero) 38)) B a len cap) := hc.alloc _ _
  have Z0 : Hid (Sits (w.alloc (.cells (cdCells Cd.zero) 38)) w.heap.size (cdCells Cd.zero) 38) := Sits.new _ _ _
  have O0 : Hid (Only B w (w.alloc (.cells (cdCells Cd.zero) 38))) := (Only.refl B w).alloc _
  clear hc
  go_enter Try.func49, Try.ntmps49
  go_wp2_with fail
  refine (l5draw_any B a len cap now h0 h1 _ C0.out).mono ?_
  rintro o w1 ⟨r, rfl, hr, c1, o1⟩
  have z1 := Sits.only Z0.out o1 (by omega)
  have oo1 := Only.trans O0.out o1
  have HR : Hid _ := hr
  obtain ⟨tg, iv, fi, nx, ct, la, dr⟩ := r
  simp only [Cd.val]
  have A1 : Hid (CdV B a len cap w w1.heap.size (w1.alloc (.cells (cdCells ⟨tg, iv, fi, nx, ct, la, dr⟩) 38)) ⟨tg, iv, fi, nx, ct, la, dr⟩) := ⟨Sits.new _ _ _, z1.alloc _, oo1.alloc _, c1.alloc _ _, z1.lt⟩
  clear Z0 O0 C0 c1 o1 z1 oo1 hr
  go_wp2_with fail
  obtain ⟨V, hV⟩ : ∃ V, w1.heap.size = V := ⟨_, rfl⟩
  obtain ⟨W1, hW1⟩ : ∃ W1, w1.alloc (.cells (cdCells ⟨tg, iv, fi, nx, ct, la, dr⟩) 38) = W1 := ⟨_, rfl⟩
  rw [hV, hW1] at A1
  dsimp only [cdCells] at hW1
  rw [hV, hW1]
  clear hV hW1
  refine (once_any B a len cap _ A1.out.2.2.2.1 9 (by omega) (by omega)).mono ?_
  rintro o w2 ⟨b2, rfl, c2, o2⟩
  have hVl := A1.out.2.2.2.2
  have A2 := CdV.step A1.out hB c2 o2
  have fz := A2.1.frozen
  have fz0 := A2.2.1.frozen
  obtain ⟨d0, d1, d2, d3, d4, d5, d6⟩ := cd_cells A2.1
  obtain ⟨z0, z1, z2, z3, z4, z5, z6⟩ := cd_cells A2.2.1
  dsimp only at d0 d1 d2 d3 d4 d5 d6
  have HA : Hid _ := A2
  clear A2 c2 o2 A1
  have hne : ¬ w.heap.size = V := by omega
  have hne' : ¬ V = w.heap.size := by omega
  cases b2
  case false =>
    go_wp2
    have K := CdV.back HA.out hB
    exact bodyPost_ret (ret_cd (q := ⟨tg, iv, fi, nx, ct, la, dr⟩) (t := 38) (B := w.heap.size) Try.results49 rfl K.1) rfl ⟨_, rfl, HR.out, K.2.1, K.2.2⟩
  case true =>
    go_wp2_with fail
    clear d0 d1 d2 d3 d4 d5 d6 z0 z1 z2 z3 z4 z5 z6 fz fz0
    refine (below_any B a len cap _ HA.out.2.2.2.1 4 (by omega) (by omega)).mono ?_
    rintro o w3 ⟨x3, rfl, x30, x31, c3, o3⟩
    have A3 := CdV.step HA.out hB c3 o3
    have fz := A3.1.frozen
    have fz0 := A3.2.1.frozen
    obtain ⟨d0, d1, d2, d3, d4, d5, d6⟩ := cd_cells A3.1
    obtain ⟨z0, z1, z2, z3, z4, z5, z6⟩ := cd_cells A3.2.1
    dsimp only at d0 d1 d2 d3 d4 d5 d6
    clear HA
    have HA : Hid _ := A3
    have b3 : B < w3.heap.size := c3.1
    clear A3 c3 o3
    have hr : Cd.low ⟨tg, iv, fi, nx, ct, la, dr⟩ := HR.out
    simp only [Cd.low] at hr
    obtain ⟨⟨r1, r2⟩, ⟨r3, r4⟩, ⟨r5, r6⟩, ⟨r7, r8⟩, ⟨r9, r10⟩, r11, r12⟩ := hr
    rcases (show x3 = 0 ∨ x3 = 1 ∨ x3 = 2 ∨ x3 = 3 by omega) with rfl | rfl | rfl | rfl
    · go_wp2_with fail
      have A4 := CdV.alloc HA.out #[.int .i64 0, .int .i64 (iv + 1), .int .i64 1] 3
      refine (pick3q (fun x => 0 ≤ x ∧ x ≤ 2000000000002) B a len cap _ A4.2.2.2.1 _ 3 0 (iv + 1) 1 (Sits.new' (by simp)) (by omega) (by omega) (by omega) (by omega)).mono ?_
      rintro o w5 ⟨v, rfl, ⟨v0, v1⟩, c5, o5⟩
      clear d0 d1 d2 d3 d4 d5 d6 z0 z1 z2 z3 z4 z5 z6 fz fz0
      have A5 := CdV.step A4 hB c5 o5
      have fz := A5.1.frozen
      have fz0 := A5.2.1.frozen
      obtain ⟨d0, d1, d2, d3, d4, d5, d6⟩ := cd_cells A5.1
      obtain ⟨z0, z1, z2, z3, z4, z5, z6⟩ := cd_cells A5.2.1
      dsimp only at d0 d1 d2 d3 d4 d5 d6
      have A6 : Hid (CdV B a len cap w V (w5.setCell ⟨V, 0, none⟩ (.int .i64 v)) ⟨v, iv, fi, nx, ct, la, dr⟩) := CdV.put A5 hB 0 _ rfl
      clear A4 A5 c5 o5 HA
      go_wp2
      have K := CdV.back A6.out hB
      refine bodyPost_ret (ret_cd (q := ⟨v, iv, fi, nx, ct, la, dr⟩) (t := 38) (B := w.heap.size) Try.results49 rfl K.1) rfl ⟨_, rfl, ?_, K.2.1, K.2.2⟩
      simp only [Cd.low]; omega
    · go_wp2_with fail
      have A4 := CdV.alloc HA.out #[.int .i64 1000000000, .int .i64 (1000000001), .int .i64 0] 3
      refine (pick3q (fun x => 0 ≤ x ∧ x ≤ 2000000000001) B a len cap _ A4.2.2.2.1 _ 3 1000000000 (1000000001) 0 (Sits.new' (by simp)) (by omega) (by omega) (by omega) (by omega)).mono ?_
      rintro o w5 ⟨v, rfl, ⟨v0, v1⟩, c5, o5⟩
      clear d0 d1 d2 d3 d4 d5 d6 z0 z1 z2 z3 z4 z5 z6 fz fz0
      have A5 := CdV.step A4 hB c5 o5
      have fz := A5.1.frozen
      have fz0 := A5.2.1.frozen
      obtain ⟨d0, d1, d2, d3, d4, d5, d6⟩ := cd_cells A5.1
      obtain ⟨z0, z1, z2, z3, z4, z5, z6⟩ := cd_cells A5.2.1
      dsimp only at d0 d1 d2 d3 d4 d5 d6
      have A6 : Hid (CdV B a len cap w V (w5.setCell ⟨V, 1, none⟩ (.int .i64 v)) ⟨tg, v, fi, nx, ct, la, dr⟩) := CdV.put A5 hB 1 _ rfl
      clear A4 A5 c5 o5 HA
      go_wp2
      have K := CdV.back A6.out hB
      refine bodyPost_ret (ret_cd (q := ⟨tg, v, fi, nx, ct, la, dr⟩) (t := 38) (B := w.heap.size) Try.results49 rfl K.1) rfl ⟨_, rfl, ?_, K.2.1, K.2.2⟩
      simp only [Cd.low]; omega
    · go_wp2_with fail
      have A4 := CdV.alloc HA.out #[.int .i64 (-1), .int .i64 (1073741824), .int .i64 1073741825] 3
      refine (pick3q (fun x => -1 ≤ x ∧ x ≤ 1073741825) B a len cap _ A4.2.2.2.1 _ 3 (-1) (1073741824) 1073741825 (Sits.new' (by simp)) (by omega) (by omega) (by omega) (by omega)).mono ?_
      rintro o w5 ⟨v, rfl, ⟨v0, v1⟩, c5, o5⟩
      clear d0 d1 d2 d3 d4 d5 d6 z0 z1 z2 z3 z4 z5 z6 fz fz0
      have A5 := CdV.step A4 hB c5 o5
      have fz := A5.1.frozen
      have fz0 := A5.2.1.frozen
      obtain ⟨d0, d1, d2, d3, d4, d5, d6⟩ := cd_cells A5.1
      obtain ⟨z0, z1, z2, z3, z4, z5, z6⟩ := cd_cells A5.2.1
      dsimp only at d0 d1 d2 d3 d4 d5 d6
      have A6 : Hid (CdV B a len cap w V (w5.setCell ⟨V, 4, none⟩ (.int .i64 v)) ⟨tg, iv, fi, nx, v, la, dr⟩) := CdV.put A5 hB 4 _ rfl
      clear A4 A5 c5 o5 HA
      go_wp2
      have K := CdV.back A6.out hB
      refine bodyPost_ret (ret_cd (q := ⟨tg, iv, fi, nx, v, la, dr⟩) (t := 38) (B := w.heap.size) Try.results49 rfl K.1) rfl ⟨_, rfl, ?_, K.2.1, K.2.2⟩
      simp only [Cd.low]; omega
    · go_wp2_with fail
      have A4 := CdV.alloc HA.out #[.int .i64 (-1), .int .i64 (2000000000000), .int .i64 2000000000001] 3
      refine (pick3q (fun x => -1 ≤ x ∧ x ≤ 2000000000001) B a len cap _ A4.2.2.2.1 _ 3 (-1) (2000000000000) 2000000000001 (Sits.new' (by simp)) (by omega) (by omega) (by omega) (by omega)).mono ?_
      rintro o w5 ⟨v, rfl, ⟨v0, v1⟩, c5, o5⟩
      clear d0 d1 d2 d3 d4 d5 d6 z0 z1 z2 z3 z4 z5 z6 fz fz0
      have A5 := CdV.step A4 hB c5 o5
      have fz := A5.1.frozen
      have fz0 := A5.2.1.frozen
      obtain ⟨d0, d1, d2, d3, d4, d5, d6⟩ := cd_cells A5.1
      obtain ⟨z0, z1, z2, z3, z4, z5, z6⟩ := cd_cells A5.2.1
      dsimp only at d0 d1 d2 d3 d4 d5 d6
      have A6 : Hid (CdV B a len cap w V (w5.setCell ⟨V, 3, none⟩ (.int .i64 v)) ⟨tg, iv, fi, v, ct, la, dr⟩) := CdV.put A5 hB 3 _ rfl
      clear A4 A5 c5 o5 HA
      go_wp2
      have K := CdV.back A6.out hB
      refine bodyPost_ret (ret_cd (q := ⟨tg, iv, fi, v, ct, la, dr⟩) (t := 38) (B := w.heap.size) Try.results49 rfl K.1) rfl ⟨_, rfl, ?_, K.2.1, K.2.2⟩
      simp only [Cd.low]; omega

end Go.Proofs.Ythdlpgehojdhkac
