/-
  A PACKET DRAWN: l3pkt.
-/
import Derived.Test.YtkmiijgoinpndaaDraw1
import Derived.Test.YtkmiijgoinpndaaDrawR1
import Derived.Test.YtkmiijgoinpndaaPk
namespace Go.Proofs.Ytkmiijgoinpndaa
open Go.RowKit
set_option linter.unusedVariables false

/-- A packet as it is drawn. -/
def Pk.drawn (p : Pk) (id tm : Int) : Prop := p.id = id ∧ p.tm = tm ∧ (0 ≤ p.flow ∧ p.flow ≤ 15) ∧ (0 ≤ p.host ∧ p.host ≤ 3) ∧ (1 ≤ p.size ∧ p.size ≤ 2000) ∧ (0 ≤ p.ecn ∧ p.ecn ≤ 3)

theorem pk_store {W : World} {B : Nat} {t : TypeId} {a0 a1 a2 a3 a4 a5 v0 v1 v2 v3 v4 v5 : Value} (h : Sits W B #[a0, a1, a2, a3, a4, a5] t) : Sits ((((((W.setCell ⟨B, 0, none⟩ v0).setCell ⟨B, 1, none⟩ v1).setCell ⟨B, 2, none⟩ v2).setCell ⟨B, 3, none⟩ v3).setCell ⟨B, 4, none⟩ v4).setCell ⟨B, 5, none⟩ v5) B #[v0, v1, v2, v3, v4, v5] t := by
  have h0 : Sits (W.setCell ⟨B, 0, none⟩ v0) B #[v0, a1, a2, a3, a4, a5] t := h.set 0 v0
  have h1 : Sits ((W.setCell ⟨B, 0, none⟩ v0).setCell ⟨B, 1, none⟩ v1) B #[v0, v1, a2, a3, a4, a5] t := h0.set 1 v1
  have h2 : Sits (((W.setCell ⟨B, 0, none⟩ v0).setCell ⟨B, 1, none⟩ v1).setCell ⟨B, 2, none⟩ v2) B #[v0, v1, v2, a3, a4, a5] t := h1.set 2 v2
  have h3 : Sits ((((W.setCell ⟨B, 0, none⟩ v0).setCell ⟨B, 1, none⟩ v1).setCell ⟨B, 2, none⟩ v2).setCell ⟨B, 3, none⟩ v3) B #[v0, v1, v2, v3, a4, a5] t := h2.set 3 v3
  have h4 : Sits (((((W.setCell ⟨B, 0, none⟩ v0).setCell ⟨B, 1, none⟩ v1).setCell ⟨B, 2, none⟩ v2).setCell ⟨B, 3, none⟩ v3).setCell ⟨B, 4, none⟩ v4) B #[v0, v1, v2, v3, v4, a5] t := h3.set 4 v4
  exact h4.set 5 v5
/-- A packet, handed back. -/
theorem ret_p {fn : Func} {tmps : Array Value} {W : World} {i B : Nat} {p : Pk} {t : TypeId} (hr : fn.results = #[.cell i 27]) (hi : tmps[i]?.getD undef = .pointer (some ⟨B, 0, none⟩)) (hs : Sits W B (pkCells p) t) : (results fn tmps).run Try.prog W = .ok p.val W := by
  have e0 : W.cell? ⟨B, 0, none⟩ = some (.int .i64 p.id) := hs.cell 0
  have e1 : W.cell? ⟨B, 1, none⟩ = some (.int .i64 p.flow) := hs.cell 1
  have e2 : W.cell? ⟨B, 2, none⟩ = some (.int .i64 p.host) := hs.cell 2
  have e3 : W.cell? ⟨B, 3, none⟩ = some (.int .i64 p.size) := hs.cell 3
  have e4 : W.cell? ⟨B, 4, none⟩ = some (.int .i64 p.tm) := hs.cell 4
  have e5 : W.cell? ⟨B, 5, none⟩ = some (.int .i64 p.ecn) := hs.cell 5
  simp [results, hr, hi, go_sem, e0, e1, e2, e3, e4, e5]

set_option maxHeartbeats 1000000 in
theorem l3pkt_any (B : Nat) (a : Option Addr) (len cap : Nat) (w : World) (hc : Cur w B a len cap) (id tm : Int) :
    Calls Try.prog 16 #[.pointer (some ⟨B, 0, none⟩), .int .i64 id, .int .i64 tm] w fun e w' => ∃ p : Pk, e = .returned p.val ∧ p.drawn id tm ∧ Cur w' B a len cap ∧ Only B w w' := by
  have hB := hc.1
  have C0 : Hid (Cur (w.alloc (.cells #[.int .i64 0, .int .i64 0, .int .i64 0, .int .i64 0, .int .i64 0, .int .i64 0] 27)) B a len cap) := hc.alloc _ _
  have Z0 : Hid (Sits (w.alloc (.cells #[.int .i64 0, .int .i64 0, .int .i64 0, .int .i64 0, .int .i64 0, .int .i64 0] 27)) w.heap.size #[.int .i64 0, .int .i64 0, .int .i64 0, .int .i64 0, .int .i64 0, .int .i64 0] 27) := Sits.new _ _ _
  have O0 : Hid (Only B w (w.alloc (.cells #[.int .i64 0, .int .i64 0, .int .i64 0, .int .i64 0, .int .i64 0, .int .i64 0] 27))) := (Only.refl B w).alloc _
  clear hc
  go_enter Try.func16, Try.ntmps16
  go_wp2_with fail
  refine (below_any B a len cap _ C0.out 5 (by omega) (by omega)).mono ?_
  rintro o w1 ⟨x1, rfl, x10, x11, c1, o1⟩
  have C1 : Hid _ := c1
  have Z1 : Hid _ := Sits.only Z0.out o1 (by omega)
  have O1 : Hid _ := Only.trans O0.out o1
  clear c1 o1 C0 Z0 O0
  go_wp2_with fail
  refine (below_any B a len cap _ C1.out 3 (by omega) (by omega)).mono ?_
  rintro o w2 ⟨x2, rfl, x20, x21, c2, o2⟩
  have C2 : Hid _ := c2
  have Z2 : Hid _ := Sits.only Z1.out o2 (by omega)
  have O2 : Hid _ := Only.trans O1.out o2
  clear c2 o2 C1 Z1 O1
  go_wp2_with fail
  refine Calls.mono (pick_lit (fun x => 1 ≤ x ∧ x ≤ 2000) B a len cap _ C2.out _ _ 6 ?n1 ?n2 ?n3 ?q) ?_
  case n1 => rfl
  case n2 => omega
  case n3 => omega
  case q =>
    intro v hv
    simp only [List.mem_cons, List.not_mem_nil, or_false] at hv
    rcases hv with rfl | rfl | rfl | rfl | rfl | rfl
    all_goals exact ⟨_, rfl, by omega, by omega⟩
  rintro o w3 ⟨x3, rfl, ⟨x30, x31⟩, c3, o3⟩
  have C3 : Hid _ := c3
  have Z3 : Hid _ := Sits.only Z2.out o3 (by omega)
  have O3 : Hid _ := Only.trans O2.out o3
  clear c3 o3 C2 Z2 O2
  go_wp2_with fail
  refine (below_any B a len cap _ C3.out 4 (by omega) (by omega)).mono ?_
  rintro o w4 ⟨x4, rfl, x40, x41, c4, o4⟩
  have C4 : Hid _ := c4
  have z4 := Sits.only Z3.out o4 (by omega)
  have O4 : Hid _ := Only.trans O3.out o4
  have e0 : w4.cell? ⟨w.heap.size, 0, none⟩ = some (.int .i64 0) := z4.cell 0
  have e1 : w4.cell? ⟨w.heap.size, 1, none⟩ = some (.int .i64 0) := z4.cell 1
  have e2 : w4.cell? ⟨w.heap.size, 2, none⟩ = some (.int .i64 0) := z4.cell 2
  have e3 : w4.cell? ⟨w.heap.size, 3, none⟩ = some (.int .i64 0) := z4.cell 3
  have e4 : w4.cell? ⟨w.heap.size, 4, none⟩ = some (.int .i64 0) := z4.cell 4
  have e5 : w4.cell? ⟨w.heap.size, 5, none⟩ = some (.int .i64 0) := z4.cell 5
  have fz := z4.frozen
  have Z4 : Hid _ := z4
  clear c4 o4 C3 Z3 O3 z4
  go_wp2
  refine bodyPost_ret (ret_p (p := ⟨id, x1, x2, x3, tm, x4⟩) (t := 27) (B := w.heap.size) Try.results16 rfl ?_) rfl ⟨_, rfl, ⟨rfl, rfl, ⟨x10, by show x1 ≤ 15; omega⟩, ⟨x20, by show x2 ≤ 3; omega⟩, ⟨x30, x31⟩, ⟨x40, by show x4 ≤ 3; omega⟩⟩, ?_, ?_⟩
  · exact pk_store Z4.out
  · exact (((((Cur.setNew (Cur.setNew C4.out hB _) hB _).setNew hB _).setNew hB _).setNew hB _).setNew hB _)
  · exact (((((Only.setNew (Only.setNew O4.out (Nat.le_refl _) _) (Nat.le_refl _) _).setNew (Nat.le_refl _) _).setNew (Nat.le_refl _) _).setNew (Nat.le_refl _) _).setNew (Nat.le_refl _) _)

end Go.Proofs.Ytkmiijgoinpndaa
