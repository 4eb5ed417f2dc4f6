/-
  WHAT THE DRAWS OF CHAPTER 4 ANSWER: whatever the bytes are, a Red of ints.
-/
import Derived.Test.YtboomccnfnaboacDrawRed
namespace Go.Proofs.Ytboomccnfnaboac
open Go.RowKit
set_option linter.unusedVariables false

theorem good_in {r : Rd} (h : r.good = true) : r.In := by
  obtain ⟨g1, g2, g3, g4, g5, g6, g7, g8, g9⟩ := r.good_iff.1 h
  unfold Rd.In; omega

def In64' (x : Int) : Prop := -9223372036854775808 ≤ x ∧ x ≤ 9223372036854775807
theorem pick3_in (B : Nat) (a : Option Addr) (len cap : Nat) (w : World) (hc : Cur w B a len cap) (L : Nat) (t : TypeId) (x y z : Int) (hs : Sits w L #[.int .i64 x, .int .i64 y, .int .i64 z] t) (hne : L ≠ B) (hx : In64' x) (hy : In64' y) (hz : In64' z) :
    Calls Try.prog 13 #[.pointer (some ⟨B, 0, none⟩), .slice (some ⟨L, 0, none⟩) 3 3] w fun e w' => ∃ x : Int, e = .returned (.int .i64 x) ∧ In64' x ∧ Cur w' B a len cap ∧ Only B w w' := by
  refine pick_sits In64' B a len cap w hc L 3 _ t hs hne rfl (by omega) (by omega) ?_
  intro v hv
  simp only [List.mem_cons, List.not_mem_nil, or_false] at hv
  rcases hv with rfl | rfl | rfl
  · exact ⟨_, rfl, hx⟩
  · exact ⟨_, rfl, hy⟩
  · exact ⟨_, rfl, hz⟩

theorem pick2_in (B : Nat) (a : Option Addr) (len cap : Nat) (w : World) (hc : Cur w B a len cap) (L : Nat) (t : TypeId) (x y : Int) (hs : Sits w L #[.int .i64 x, .int .i64 y] t) (hne : L ≠ B) (hx : In64' x) (hy : In64' y) :
    Calls Try.prog 13 #[.pointer (some ⟨B, 0, none⟩), .slice (some ⟨L, 0, none⟩) 2 2] w fun e w' => ∃ x : Int, e = .returned (.int .i64 x) ∧ In64' x ∧ Cur w' B a len cap ∧ Only B w w' := by
  refine pick_sits In64' B a len cap w hc L 2 _ t hs hne rfl (by omega) (by omega) ?_
  intro v hv
  simp only [List.mem_cons, List.not_mem_nil, or_false] at hv
  rcases hv with rfl | rfl
  · exact ⟨_, rfl, hx⟩
  · exact ⟨_, rfl, hy⟩

set_option maxRecDepth 20000 in
set_option maxHeartbeats 1000000 in
theorem l4bent_any (B : Nat) (a : Option Addr) (len cap : Nat) (w : World) (hc : Cur w B a len cap) :
    Calls Try.prog 12 #[.pointer (some ⟨B, 0, none⟩)] w fun e w' => ∃ r : Rd, e = .returned r.val ∧ r.In ∧ Cur w' B a len cap ∧ Only B w w' := by
  have hB := hc.1
  have HC : Hid (Cur (w.alloc (.cells (rdCells Rd.zero) 24)) B a len cap) := Cur.alloc hc _ _
  have HO : Hid (Only B w (w.alloc (.cells (rdCells Rd.zero) 24))) := (Only.refl B w).alloc _
  have HZ : Hid (Sits (w.alloc (.cells (rdCells Rd.zero) 24)) w.heap.size (rdCells Rd.zero) 24) := Sits.new _ _ _
  clear hc
  go_enter Try.func12, Try.ntmps12
  go_wp2_with (go_at_call 18; refine (l4draw_any B a len cap _ HC.out).mono ?_; rintro e w1 ⟨r, rfl, hg, c1, o1⟩)
  obtain ⟨V, hV⟩ : ∃ V, w1.heap.size = V := ⟨_, rfl⟩
  obtain ⟨wv, hwv⟩ : ∃ x, w1.alloc (.cells (rdCells r) 24) = x := ⟨_, rfl⟩
  have z1 := Sits.only HZ.out o1 (by omega)
  have lV : w.heap.size < V := by rw [← hV]; exact z1.lt
  have S2 : Hid (Sits wv V (rdCells r) 24 ∧ Sits wv w.heap.size (rdCells Rd.zero) 24 ∧ Only B w wv) := by
    rw [← hwv]
    exact ⟨Sits.new' hV, z1.alloc _, (HO.out.trans o1).alloc _⟩
  have c2 : Cur wv B a len cap := by rw [← hwv]; exact c1.alloc _ _
  rw [hwv, hV]
  obtain ⟨g1, g2, g3, g4, g5, g6, g7, g8, g9⟩ := r.good_iff.1 hg
  have HI : Hid r.In := good_in hg
  clear hwv hV HC HO HZ z1 c1 o1 hg
  refine (once_any B a len cap _ c2 8 (by omega) (by omega)).mono ?_
  rintro e w3 ⟨yes, rfl, c3, o3⟩
  have S3 : Hid (Sits w3 V (rdCells r) 24 ∧ Sits w3 w.heap.size (rdCells Rd.zero) 24 ∧ Only B w w3) := ⟨Sits.only S2.out.1 o3 (by omega), Sits.only S2.out.2.1 o3 (by omega), Only.trans S2.out.2.2 o3⟩
  clear S2 c2 o3
  cases yes
  case false =>
    obtain ⟨d0, d1, d2, d3, d4⟩ := rd_cells S3.out.1
    have fz := Sits.frozen S3.out.1
    obtain ⟨e0, e1, e2, e3, e4⟩ := rd_cells S3.out.2.1
    have ez := Sits.frozen S3.out.2.1
    dsimp only [Rd.zero] at e0 e1 e2 e3 e4
    go_wp2_with fail
    refine bodyPost_ret (ret_r (q := r) (t := 24) (B := w.heap.size) Try.results12 rfl ?_) rfl ⟨r, rfl, HI.out, ?_, ?_⟩
    · exact (((((Sits.set S3.out.2.1 0 _).set 1 _).set 2 _).set 3 _).set 4 _)
    · exact (((((Cur.setNew c3 (by omega) _).setNew (by omega) _).setNew (by omega) _).setNew (by omega) _).setNew (by omega) _)
    · exact (((((Only.setNew S3.out.2.2 (Nat.le_refl _) _).setNew (Nat.le_refl _) _).setNew (Nat.le_refl _) _).setNew (Nat.le_refl _) _).setNew (Nat.le_refl _) _)
  case true =>
    go_wp2_with fail
    refine (below_any B a len cap _ c3 5 (by omega) (by omega)).mono ?_
    rintro e w4 ⟨x, rfl, x0, x1, c4, o4⟩
    have S4 : Hid (Sits w4 V (rdCells r) 24 ∧ Sits w4 w.heap.size (rdCells Rd.zero) 24 ∧ Only B w w4) := ⟨Sits.only S3.out.1 o4 (by omega), Sits.only S3.out.2.1 o4 (by omega), Only.trans S3.out.2.2 o4⟩
    clear S3 c3 o4
    obtain ⟨d0, d1, d2, d3, d4⟩ := rd_cells S4.out.1
    have fz := Sits.frozen S4.out.1
    obtain ⟨e0, e1, e2, e3, e4⟩ := rd_cells S4.out.2.1
    have ez := Sits.frozen S4.out.2.1
    have l4 := Sits.lt S4.out.1
    have hl4 : B < w4.heap.size := c4.1
    dsimp only [Rd.zero] at e0 e1 e2 e3 e4
    have C4 : Hid (Cur w4 B a len cap) := c4
    clear c4
    rcases (by omega : x = 0 ∨ x = 1 ∨ x = 2 ∨ x = 3 ∨ x = 4) with rfl | rfl | rfl | rfl | rfl
    · go_wp2_with fail
      refine (pick3_in B a len cap _ (Cur.alloc C4.out _ _) _ _ _ _ _ (Sits.new' rfl) (by omega) ⟨by omega, by omega⟩ ⟨by omega, by omega⟩ ⟨by omega, by omega⟩).mono ?_
      rintro e w5 ⟨y, rfl, hy, c5, o5⟩
      have s5 := Sits.only (Sits.alloc S4.out.1 _) o5 (by omega)
      have z5 := Sits.only (Sits.alloc S4.out.2.1 _) o5 (by omega)
      have O5 : Hid (Only B w w5) := Only.trans (Only.alloc S4.out.2.2 _) o5
      clear d0 d1 d2 d3 d4 fz e0 e1 e2 e3 e4 ez
      obtain ⟨d0, d1, d2, d3, d4⟩ := rd_cells s5
      have fz := s5.frozen
      obtain ⟨e0, e1, e2, e3, e4⟩ := rd_cells z5
      have ez := z5.frozen
      have S5 : Hid (Sits w5 V (rdCells r) 24 ∧ Sits w5 w.heap.size (rdCells Rd.zero) 24) := ⟨s5, z5⟩
      have C5 : Hid (Cur w5 B a len cap) := c5
      have HY : Hid (In64' y) := hy
      clear s5 z5 c5 o5 S4 C4 hy
      dsimp only [Rd.zero] at e0 e1 e2 e3 e4
      go_wp2_with fail
      refine bodyPost_ret (ret_r (q := ⟨y, r.mx, r.mp, r.avg, r.cnt⟩) (t := 24) (B := w.heap.size) Try.results12 rfl ?_) rfl ⟨_, rfl, ?_, ?_, ?_⟩
      · exact (((((Sits.set (Sits.other S5.out.2 (by omega) _) 0 _).set 1 _).set 2 _).set 3 _).set 4 _)
      · have h := HI.out
        unfold Rd.In at h ⊢
        exact ⟨HY.out, h.2.1, h.2.2.1, h.2.2.2.1, h.2.2.2.2⟩
      · exact ((((((Cur.setNew C5.out (by omega) _).setNew (by omega) _).setNew (by omega) _).setNew (by omega) _).setNew (by omega) _).setNew (by omega) _)
      · exact ((((((Only.setNew O5.out (by omega) _).setNew (Nat.le_refl _) _).setNew (Nat.le_refl _) _).setNew (Nat.le_refl _) _).setNew (Nat.le_refl _) _).setNew (Nat.le_refl _) _)
    · go_wp2_with fail
      refine (pick2_in B a len cap _ (Cur.alloc C4.out _ _) _ _ _ _ (Sits.new' rfl) (by omega) ⟨by omega, by omega⟩ ⟨by omega, by omega⟩).mono ?_
      rintro e w5 ⟨y, rfl, hy, c5, o5⟩
      have s5 := Sits.only (Sits.alloc S4.out.1 _) o5 (by omega)
      have z5 := Sits.only (Sits.alloc S4.out.2.1 _) o5 (by omega)
      have O5 : Hid (Only B w w5) := Only.trans (Only.alloc S4.out.2.2 _) o5
      clear d0 d1 d2 d3 d4 fz e0 e1 e2 e3 e4 ez
      obtain ⟨d0, d1, d2, d3, d4⟩ := rd_cells s5
      have fz := s5.frozen
      obtain ⟨e0, e1, e2, e3, e4⟩ := rd_cells z5
      have ez := z5.frozen
      have S5 : Hid (Sits w5 V (rdCells r) 24 ∧ Sits w5 w.heap.size (rdCells Rd.zero) 24) := ⟨s5, z5⟩
      have C5 : Hid (Cur w5 B a len cap) := c5
      have HY : Hid (In64' y) := hy
      clear s5 z5 c5 o5 S4 C4 hy
      dsimp only [Rd.zero] at e0 e1 e2 e3 e4
      go_wp2_with fail
      refine bodyPost_ret (ret_r (q := ⟨r.mn, y, r.mp, r.avg, r.cnt⟩) (t := 24) (B := w.heap.size) Try.results12 rfl ?_) rfl ⟨_, rfl, ?_, ?_, ?_⟩
      · exact (((((Sits.set (Sits.other S5.out.2 (by omega) _) 0 _).set 1 _).set 2 _).set 3 _).set 4 _)
      · have h := HI.out
        unfold Rd.In at h ⊢
        exact ⟨h.1, HY.out, h.2.2.1, h.2.2.2.1, h.2.2.2.2⟩
      · exact ((((((Cur.setNew C5.out (by omega) _).setNew (by omega) _).setNew (by omega) _).setNew (by omega) _).setNew (by omega) _).setNew (by omega) _)
      · exact ((((((Only.setNew O5.out (by omega) _).setNew (Nat.le_refl _) _).setNew (Nat.le_refl _) _).setNew (Nat.le_refl _) _).setNew (Nat.le_refl _) _).setNew (Nat.le_refl _) _)
    · go_wp2_with fail
      refine (pick2_in B a len cap _ (Cur.alloc C4.out _ _) _ _ _ _ (Sits.new' rfl) (by omega) ⟨by omega, by omega⟩ ⟨by omega, by omega⟩).mono ?_
      rintro e w5 ⟨y, rfl, hy, c5, o5⟩
      have s5 := Sits.only (Sits.alloc S4.out.1 _) o5 (by omega)
      have z5 := Sits.only (Sits.alloc S4.out.2.1 _) o5 (by omega)
      have O5 : Hid (Only B w w5) := Only.trans (Only.alloc S4.out.2.2 _) o5
      clear d0 d1 d2 d3 d4 fz e0 e1 e2 e3 e4 ez
      obtain ⟨d0, d1, d2, d3, d4⟩ := rd_cells s5
      have fz := s5.frozen
      obtain ⟨e0, e1, e2, e3, e4⟩ := rd_cells z5
      have ez := z5.frozen
      have S5 : Hid (Sits w5 V (rdCells r) 24 ∧ Sits w5 w.heap.size (rdCells Rd.zero) 24) := ⟨s5, z5⟩
      have C5 : Hid (Cur w5 B a len cap) := c5
      have HY : Hid (In64' y) := hy
      clear s5 z5 c5 o5 S4 C4 hy
      dsimp only [Rd.zero] at e0 e1 e2 e3 e4
      go_wp2_with fail
      refine bodyPost_ret (ret_r (q := ⟨r.mn, r.mx, y, r.avg, r.cnt⟩) (t := 24) (B := w.heap.size) Try.results12 rfl ?_) rfl ⟨_, rfl, ?_, ?_, ?_⟩
      · exact (((((Sits.set (Sits.other S5.out.2 (by omega) _) 0 _).set 1 _).set 2 _).set 3 _).set 4 _)
      · have h := HI.out
        unfold Rd.In at h ⊢
        exact ⟨h.1, h.2.1, HY.out, h.2.2.2.1, h.2.2.2.2⟩
      · exact ((((((Cur.setNew C5.out (by omega) _).setNew (by omega) _).setNew (by omega) _).setNew (by omega) _).setNew (by omega) _).setNew (by omega) _)
      · exact ((((((Only.setNew O5.out (by omega) _).setNew (Nat.le_refl _) _).setNew (Nat.le_refl _) _).setNew (Nat.le_refl _) _).setNew (Nat.le_refl _) _).setNew (Nat.le_refl _) _)
    · go_wp2_with fail
      refine (pick3_in B a len cap _ (Cur.alloc C4.out _ _) _ _ _ _ _ (Sits.new' rfl) (by omega) ⟨by omega, by omega⟩ ⟨by omega, by omega⟩ ⟨by omega, by omega⟩).mono ?_
      rintro e w5 ⟨y, rfl, hy, c5, o5⟩
      have s5 := Sits.only (Sits.alloc S4.out.1 _) o5 (by omega)
      have z5 := Sits.only (Sits.alloc S4.out.2.1 _) o5 (by omega)
      have O5 : Hid (Only B w w5) := Only.trans (Only.alloc S4.out.2.2 _) o5
      clear d0 d1 d2 d3 d4 fz e0 e1 e2 e3 e4 ez
      obtain ⟨d0, d1, d2, d3, d4⟩ := rd_cells s5
      have fz := s5.frozen
      obtain ⟨e0, e1, e2, e3, e4⟩ := rd_cells z5
      have ez := z5.frozen
      have S5 : Hid (Sits w5 V (rdCells r) 24 ∧ Sits w5 w.heap.size (rdCells Rd.zero) 24) := ⟨s5, z5⟩
      have C5 : Hid (Cur w5 B a len cap) := c5
      have HY : Hid (In64' y) := hy
      clear s5 z5 c5 o5 S4 C4 hy
      dsimp only [Rd.zero] at e0 e1 e2 e3 e4
      go_wp2_with fail
      refine bodyPost_ret (ret_r (q := ⟨r.mn, r.mx, r.mp, y, r.cnt⟩) (t := 24) (B := w.heap.size) Try.results12 rfl ?_) rfl ⟨_, rfl, ?_, ?_, ?_⟩
      · exact (((((Sits.set (Sits.other S5.out.2 (by omega) _) 0 _).set 1 _).set 2 _).set 3 _).set 4 _)
      · have h := HI.out
        unfold Rd.In at h ⊢
        exact ⟨h.1, h.2.1, h.2.2.1, HY.out, h.2.2.2.2⟩
      · exact ((((((Cur.setNew C5.out (by omega) _).setNew (by omega) _).setNew (by omega) _).setNew (by omega) _).setNew (by omega) _).setNew (by omega) _)
      · exact ((((((Only.setNew O5.out (by omega) _).setNew (Nat.le_refl _) _).setNew (Nat.le_refl _) _).setNew (Nat.le_refl _) _).setNew (Nat.le_refl _) _).setNew (Nat.le_refl _) _)
    · go_wp2_with fail
      refine (pick3_in B a len cap _ (Cur.alloc C4.out _ _) _ _ _ _ _ (Sits.new' rfl) (by omega) ⟨by omega, by omega⟩ ⟨by omega, by omega⟩ ⟨by omega, by omega⟩).mono ?_
      rintro e w5 ⟨y, rfl, hy, c5, o5⟩
      have s5 := Sits.only (Sits.alloc S4.out.1 _) o5 (by omega)
      have z5 := Sits.only (Sits.alloc S4.out.2.1 _) o5 (by omega)
      have O5 : Hid (Only B w w5) := Only.trans (Only.alloc S4.out.2.2 _) o5
      clear d0 d1 d2 d3 d4 fz e0 e1 e2 e3 e4 ez
      obtain ⟨d0, d1, d2, d3, d4⟩ := rd_cells s5
      have fz := s5.frozen
      obtain ⟨e0, e1, e2, e3, e4⟩ := rd_cells z5
      have ez := z5.frozen
      have S5 : Hid (Sits w5 V (rdCells r) 24 ∧ Sits w5 w.heap.size (rdCells Rd.zero) 24) := ⟨s5, z5⟩
      have C5 : Hid (Cur w5 B a len cap) := c5
      have HY : Hid (In64' y) := hy
      clear s5 z5 c5 o5 S4 C4 hy
      dsimp only [Rd.zero] at e0 e1 e2 e3 e4
      go_wp2_with fail
      refine bodyPost_ret (ret_r (q := ⟨r.mn, r.mx, r.mp, r.avg, y⟩) (t := 24) (B := w.heap.size) Try.results12 rfl ?_) rfl ⟨_, rfl, ?_, ?_, ?_⟩
      · exact (((((Sits.set (Sits.other S5.out.2 (by omega) _) 0 _).set 1 _).set 2 _).set 3 _).set 4 _)
      · have h := HI.out
        unfold Rd.In at h ⊢
        exact ⟨h.1, h.2.1, h.2.2.1, h.2.2.2.1, HY.out⟩
      · exact ((((((Cur.setNew C5.out (by omega) _).setNew (by omega) _).setNew (by omega) _).setNew (by omega) _).setNew (by omega) _).setNew (by omega) _)
      · exact ((((((Only.setNew O5.out (by omega) _).setNew (Nat.le_refl _) _).setNew (Nat.le_refl _) _).setNew (Nat.le_refl _) _).setNew (Nat.le_refl _) _).setNew (Nat.le_refl _) _)

/-- A Red and a number, handed back. -/
theorem ret_ri {fn : Func} {tmps : Array Value} {W : World} {i j B : Nat} {q : Rd} {b : Int} {t : TypeId} (hr : fn.results = #[.cell i 24, .tmp j]) (hi : tmps[i]?.getD undef = .pointer (some ⟨B, 0, none⟩)) (hj : tmps[j]?.getD undef = .int .i64 b) (hs : Sits W B (rdCells q) t) : (results fn tmps).run Try.prog W = .ok (.tuple #[q.val, .int .i64 b]) W := by
  obtain ⟨c0, c1, c2, c3, c4⟩ := rd_cells hs
  simp [results, hr, hi, hj, go_sem, c0, c1, c2, c3, c4]

end Go.Proofs.Ytboomccnfnaboac
