/-
  A DRAWN CODEL: l5draw.
-/
import Derived.Test.YthdlpgehojdhkacLastQ
import Derived.Test.YthdlpgehojdhkacCodel
namespace Go.Proofs.Ythdlpgehojdhkac
open Go.RowKit
set_option linter.unusedVariables false

/-- The numbers of a drawn Codel lie low. -/
def Cd.low (r : Cd) : Prop := (0 ≤ r.tg ∧ r.tg ≤ 2000000000002) ∧ (0 ≤ r.iv ∧ r.iv ≤ 2000000000001) ∧ (-1 ≤ r.fi ∧ r.fi ≤ 2000000000001) ∧ (-1 ≤ r.nx ∧ r.nx ≤ 2000000000001) ∧ (-1 ≤ r.ct ∧ r.ct ≤ 1073741825) ∧ (-1 ≤ r.la ∧ r.la ≤ 1073741825)

/-- A Codel that is being drawn: it lies behind the block of the answer, which is still zero. -/
def CdAt (B : Nat) (a : Option Addr) (len cap : Nat) (w W : World) (r : Cd) : Prop := Sits W (w.heap.size + 1) (cdCells r) 38 ∧ Sits W w.heap.size (cdCells Cd.zero) 38 ∧ Only B w W ∧ Cur W B a len cap

theorem CdAt.step {B : Nat} {a : Option Addr} {len cap : Nat} {w W W' : World} {r : Cd} (h : CdAt B a len cap w W r) (hB : B < w.heap.size) (c : Cur W' B a len cap) (o : Only B W W') : CdAt B a len cap w W' r :=
  ⟨h.1.only o (by omega), h.2.1.only o (by omega), h.2.2.1.trans o, c⟩

theorem CdAt.alloc {B : Nat} {a : Option Addr} {len cap : Nat} {w W : World} {r : Cd} (h : CdAt B a len cap w W r) (c : Array Value) (t : TypeId) : CdAt B a len cap w (W.alloc (.cells c t)) r :=
  ⟨h.1.alloc _, h.2.1.alloc _, h.2.2.1.alloc _, h.2.2.2.alloc _ _⟩

theorem CdAt.put {B : Nat} {a : Option Addr} {len cap : Nat} {w W : World} {r s : Cd} (h : CdAt B a len cap w W r) (hB : B < w.heap.size) (k : Nat) (v : Value) (e : (cdCells r).setIfInBounds k v = cdCells s) : CdAt B a len cap w (W.setCell ⟨w.heap.size + 1, k, none⟩ v) s :=
  ⟨e ▸ h.1.set k v, h.2.1.other (by omega) _, h.2.2.1.setNew (by omega) _, h.2.2.2.setNew (by omega) _⟩

/-- What a function with one result, a Codel in a block, returns. -/
theorem ret_cd {fn : Func} {tmps : Array Value} {W : World} {i B : Nat} {q : Cd} {t : TypeId} (hr : fn.results = #[.cell i 38]) (hi : tmps[i]?.getD undef = .pointer (some ⟨B, 0, none⟩)) (hs : Sits W B (cdCells q) t) : (results fn tmps).run Try.prog W = .ok q.val W := by
  obtain ⟨c0, c1, c2, c3, c4, c5, c6⟩ := cd_cells hs
  simp [results, hr, hi, go_sem, c0, c1, c2, c3, c4, c5, c6]

def backW (W : World) (B : Nat) (r : Cd) : World := (((((((W.setCell ⟨B, 0, none⟩ (.int .i64 r.tg)).setCell ⟨B, 1, none⟩ (.int .i64 r.iv)).setCell ⟨B, 2, none⟩ (.int .i64 r.fi)).setCell ⟨B, 3, none⟩ (.int .i64 r.nx)).setCell ⟨B, 4, none⟩ (.int .i64 r.ct)).setCell ⟨B, 5, none⟩ (.int .i64 r.la)).setCell ⟨B, 6, none⟩ (.bool r.dr))

theorem CdAt.back {B : Nat} {a : Option Addr} {len cap : Nat} {w W : World} {r : Cd} (h : CdAt B a len cap w W r) (hB : B < w.heap.size) : Sits (backW W w.heap.size r) w.heap.size (cdCells r) 38 ∧ Cur (backW W w.heap.size r) B a len cap ∧ Only B w (backW W w.heap.size r) :=
  ⟨((((((h.2.1.set 0 _).set 1 _).set 2 _).set 3 _).set 4 _).set 5 _).set 6 _,
   ((((((h.2.2.2.setNew hB _).setNew hB _).setNew hB _).setNew hB _).setNew hB _).setNew hB _).setNew hB _,
   ((((((h.2.2.1.setNew (Nat.le_refl _) _).setNew (Nat.le_refl _) _).setNew (Nat.le_refl _) _).setNew (Nat.le_refl _) _).setNew (Nat.le_refl _) _).setNew (Nat.le_refl _) _).setNew (Nat.le_refl _) _⟩

theorem CdAt.drew {B : Nat} {a : Option Addr} {len cap : Nat} {w W : World} {r : Cd} (h : CdAt B a len cap w W r) : CdAt B a len cap w W.drew r :=
  ⟨h.1, h.2.1, h.2.2.1.drew, h.2.2.2.drew⟩

set_option maxRecDepth 100000 in
set_option maxHeartbeats 4000000 in
theorem l5draw_any (B : Nat) (a : Option Addr) (len cap : Nat) (now : Int) (h0 : -1 ≤ now) (h1 : now ≤ 1000200000000) (w : World) (hc : Cur w B a len cap) :
    Calls Try.prog 63 #[.pointer (some ⟨B, 0, none⟩), .int .i64 now] w fun e w' => ∃ r : Cd, e = .returned r.val ∧ r.low ∧ Cur w' B a len cap ∧ Only B w w' := by
  have hB := hc.1
  have C0 : Hid (Cur (w.alloc (.cells (cdCells Cd.zero) 38)) B a len cap) := hc.alloc _ _
  have Z0 : Hid (Sits (w.alloc (.cells (cdCells Cd.zero) 38)) w.heap.size (cdCells Cd.zero) 38) := Sits.new _ _ _
  have O0 : Hid (Only B w (w.alloc (.cells (cdCells Cd.zero) 38))) := (Only.refl B w).alloc _
  clear hc
  go_enter Try.func63, Try.ntmps63
  go_wp2_with fail
  have A0 : CdAt B a len cap w ((w.alloc (.cells (cdCells Cd.zero) 38)).alloc (.cells (cdCells ⟨5000000, 100000000, 0, 0, 0, 0, false⟩) 38)) ⟨5000000, 100000000, 0, 0, 0, 0, false⟩ := ⟨Sits.new' (by simp), Sits.alloc Z0.out _, Only.alloc O0.out _, Cur.alloc C0.out _ _⟩
  clear Z0 O0 C0
  refine (once_any B a len cap _ A0.2.2.2 3 (by omega) (by omega)).mono ?_
  rintro o w1 ⟨b1, rfl, c1, o1⟩
  have A1 := A0.step hB c1 o1
  clear c1 o1 A0
  obtain ⟨d0, d1, d2, d3, d4, d5, d6⟩ := cd_cells A1.1
  have fz := A1.1.frozen
  have HA : Hid _ := A1
  clear A1
  cases b1
  case' false =>
    obtain ⟨iv, hiv, A⟩ : ∃ iv : Int, (0 ≤ iv ∧ iv ≤ 100000000) ∧ Hid (CdAt B a len cap w w1 ⟨5000000, iv, 0, 0, 0, 0, false⟩) := ⟨_, by omega, HA.out⟩
  case' true =>
    obtain ⟨iv, hiv, A⟩ : ∃ iv : Int, (0 ≤ iv ∧ iv ≤ 100000000) ∧ Hid (CdAt B a len cap w (w1.setCell ⟨w.heap.size + 1, 1, none⟩ (.int .i64 10000000)) ⟨5000000, iv, 0, 0, 0, 0, false⟩) := ⟨10000000, by omega, CdAt.put HA.out hB 1 _ rfl⟩
  all_goals
    go_wp2_with fail
    replace A := A.out
    clear HA d0 d1 d2 d3 d4 d5 d6 fz
    refine (once_any B a len cap _ A.2.2.2 2 (by omega) (by omega)).mono ?_
    rintro o w2 ⟨b2, rfl, c2, o2⟩
    have A2 := A.step hB c2 o2
    clear c2 o2 A
    have HA : Hid _ := A2
    obtain ⟨d0, d1, d2, d3, d4, d5, d6⟩ := cd_cells A2.1
    have fz := A2.2.1.frozen
    dsimp only at d0 d1 d2 d3 d4 d5 d6
    have e0 := A2.2.1.cell
    clear A2
    cases b2
    case true =>
      go_wp2
      have K := CdAt.back HA.out hB
      refine bodyPost_ret (ret_cd (q := ⟨5000000, iv, 0, 0, 0, 0, false⟩) (t := 38) (B := w.heap.size) Try.results63 rfl K.1) rfl ⟨_, rfl, ?_, K.2.1, K.2.2⟩
      simp only [Cd.low]; omega
    case false =>
      go_wp2_with fail
      clear d0 d1 d2 d3 d4 d5 d6 fz e0
      refine (once_any B a len cap _ (HA.out).2.2.2 2 (by omega) (by omega)).mono ?_
      rintro o w3 ⟨b3, rfl, c3, o3⟩
      have A3 := CdAt.step HA.out hB c3 o3
      have fz := A3.1.frozen
      obtain ⟨d0, d1, d2, d3, d4, d5, d6⟩ := cd_cells A3.1
      dsimp only at d0 d1 d2 d3 d4 d5 d6
      have A4 : Hid (CdAt B a len cap w (w3.setCell ⟨w.heap.size + 1, 6, none⟩ (.bool b3)) ⟨5000000, iv, 0, 0, 0, 0, b3⟩) := CdAt.put A3 hB 6 _ rfl
      clear c3 o3 HA A3
      go_wp2_with fail
      clear d0 d1 d2 d3 d4 d5 d6 fz
      refine (below_any B a len cap _ (A4.out).2.2.2 9 (by omega) (by omega)).mono ?_
      rintro o w5 ⟨x5, rfl, x50, x51, c5, o5⟩
      have A5 := CdAt.step A4.out hB c5 o5
      have fz := A5.1.frozen
      obtain ⟨d0, d1, d2, d3, d4, d5, d6⟩ := cd_cells A5.1
      dsimp only at d0 d1 d2 d3 d4 d5 d6
      have A6 : Hid (CdAt B a len cap w (w5.setCell ⟨w.heap.size + 1, 4, none⟩ (.int .i64 x5)) ⟨5000000, iv, 0, 0, x5, 0, b3⟩) := CdAt.put A5 hB 4 _ rfl
      clear c5 o5 A4 A5
      go_wp2_with fail
      clear d0 d1 d2 d3 d4 d5 d6 fz
      refine (below_any B a len cap _ (A6.out).2.2.2 (x5 + 1) (by omega) (by omega)).mono ?_
      rintro o w7 ⟨x7, rfl, x70, x71, c7, o7⟩
      have A7 := CdAt.step A6.out hB c7 o7
      have fz := A7.1.frozen
      obtain ⟨d0, d1, d2, d3, d4, d5, d6⟩ := cd_cells A7.1
      dsimp only at d0 d1 d2 d3 d4 d5 d6
      have A8 : Hid (CdAt B a len cap w (w7.setCell ⟨w.heap.size + 1, 5, none⟩ (.int .i64 x7)) ⟨5000000, iv, 0, 0, x5, x7, b3⟩) := CdAt.put A7 hB 5 _ rfl
      clear c7 o7 A6 A7
      have b7 : B < w7.heap.size := by have := (A8.out).2.2.2.1; simpa using this
      go_wp2_with fail
      clear d0 d1 d2 d3 d4 d5 d6 fz
      have A8' := CdAt.alloc A8.out #[.int .i64 0, .int .i64 now, .int .i64 (now - 1), .int .i64 (now + 5000000)] 3
      refine (pick4q (fun x => -2 ≤ x ∧ x ≤ 1000205000000) B a len cap _ A8'.2.2.2 _ 3 0 now (now - 1) (now + 5000000) (Sits.new' (by simp)) (by omega) (by omega) (by omega) (by omega) (by omega)).mono ?_
      rintro o w9 ⟨x9, rfl, ⟨x90, x91⟩, c9, o9⟩
      have A9 := CdAt.step A8' hB c9 o9
      have fz := A9.1.frozen
      obtain ⟨d0, d1, d2, d3, d4, d5, d6⟩ := cd_cells A9.1
      dsimp only at d0 d1 d2 d3 d4 d5 d6
      have b9 : B < w9.heap.size := c9.1
      have A10 : Hid (CdAt B a len cap w (w9.setCell ⟨w.heap.size + 1, 2, none⟩ (.int .i64 x9)) ⟨5000000, iv, x9, 0, x5, x7, b3⟩) := CdAt.put A9 hB 2 _ rfl
      clear c9 o9 A8 A8' A9
      go_wp2_with fail
      clear d0 d1 d2 d3 d4 d5 d6 fz
      have A10' := CdAt.alloc A10.out #[.int .i64 0, .int .i64 (-1), .int .i64 (-20000000), .int .i64 7000000] 3
      refine (pick4q (fun x => -20000000 ≤ x ∧ x ≤ 7000000) B a len cap _ A10'.2.2.2 _ 3 0 (-1) (-20000000) 7000000 (Sits.new' (by simp)) (by omega) (by omega) (by omega) (by omega) (by omega)).mono ?_
      rintro o w11 ⟨x11, rfl, ⟨x110, x111⟩, c11, o11⟩
      have A11 := CdAt.step A10' hB c11 o11
      have fz := A11.1.frozen
      have fz0 := A11.2.1.frozen
      obtain ⟨d0, d1, d2, d3, d4, d5, d6⟩ := cd_cells A11.1
      obtain ⟨z0, z1, z2, z3, z4, z5, z6⟩ := cd_cells A11.2.1
      dsimp only at d0 d1 d2 d3 d4 d5 d6
      obtain ⟨y, hy⟩ : ∃ y, now + x11 = y := ⟨_, rfl⟩
      have A12 : Hid (CdAt B a len cap w (w11.setCell ⟨w.heap.size + 1, 3, none⟩ (.int .i64 y)) ⟨5000000, iv, x9, y, x5, x7, b3⟩) := CdAt.put A11 hB 3 _ rfl
      clear c11 o11 A10 A10' A11
      by_cases hx : x9 < 0
      · by_cases hz : y < 0
        · go_wp2
          have K := CdAt.back (CdAt.put (s := ⟨5000000, iv, 0, 0, x5, x7, b3⟩) (CdAt.put (s := ⟨5000000, iv, 0, y, x5, x7, b3⟩) A12.out hB 2 (.int .i64 0) rfl) hB 3 (.int .i64 0) rfl) hB
          refine bodyPost_ret (ret_cd (q := ⟨5000000, iv, 0, 0, x5, x7, b3⟩) (t := 38) (B := w.heap.size) Try.results63 rfl K.1) rfl ⟨_, rfl, ?_, K.2.1, K.2.2⟩
          simp only [Cd.low]; omega
        · go_wp2
          have K := CdAt.back (CdAt.put (s := ⟨5000000, iv, 0, y, x5, x7, b3⟩) A12.out hB 2 (.int .i64 0) rfl) hB
          refine bodyPost_ret (ret_cd (q := ⟨5000000, iv, 0, y, x5, x7, b3⟩) (t := 38) (B := w.heap.size) Try.results63 rfl K.1) rfl ⟨_, rfl, ?_, K.2.1, K.2.2⟩
          simp only [Cd.low]; omega
      · by_cases hz : y < 0
        · go_wp2
          have K := CdAt.back (CdAt.put (s := ⟨5000000, iv, x9, 0, x5, x7, b3⟩) A12.out hB 3 (.int .i64 0) rfl) hB
          refine bodyPost_ret (ret_cd (q := ⟨5000000, iv, x9, 0, x5, x7, b3⟩) (t := 38) (B := w.heap.size) Try.results63 rfl K.1) rfl ⟨_, rfl, ?_, K.2.1, K.2.2⟩
          simp only [Cd.low]; omega
        · go_wp2
          have K := CdAt.back A12.out hB
          refine bodyPost_ret (ret_cd (q := ⟨5000000, iv, x9, y, x5, x7, b3⟩) (t := 38) (B := w.heap.size) Try.results63 rfl K.1) rfl ⟨_, rfl, ?_, K.2.1, K.2.2⟩
          simp only [Cd.low]; omega

end Go.Proofs.Ythdlpgehojdhkac
