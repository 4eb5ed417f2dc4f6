/-
  Whatever bytes the law FnRedAvgs draws its Red and its bytes from, it returns true and leaves the bytes as they were; no condition.
-/
import Derived.Test.YtboomccnfnaboabRows
import Derived.WalkKit
import Derived.ProofKit
import Derived.OpenShut
import Derived.Test.YtboomccnfnaboabDrawRed2
import Derived.ShutString
import Derived.ChangeOld
import Derived.Below
namespace Go.Proofs.Ytboomccnfnaboab.fnRedAvgs
open Go.ChangeShapes Go.WideShapes Go.ChangeAt Go.RowKit
open Go.ChangeMaps (open_string shut_string)
set_option linter.unusedVariables false

theorem own : ownKnob Try.prog.godebug = none := by kernel_rfl
theorem laidOut : laidOutB Try.prog = true := by kernel_rfl

/-- A slice of integers that came in. -/
def IsRow (k : IntKind) (w : World) (a : Option Addr) (len cap : Nat) (zs : List Int) : Prop :=
  (a = none ∧ len = 0 ∧ cap = 0 ∧ zs = []) ∨
  ∃ x, a = some x ∧ len ≤ cap ∧ cap ≤ maxLen ∧ zs.length = cap ∧ (∀ i, i < zs.length → w.cell? (x.add i) = some (.int k (zs.getD i 0))) ∧ ∀ n ∈ zs, (Lit.int k n).wf = true

theorem code_of {w : World} {a : Option Addr} {len cap : Nat} {zs : List Int} (h : IsRow .u8 w a len cap zs) : len ≤ 9223372036854775807 ∧ Code w w.heap.size a len := by
  rcases h with ⟨rfl, rfl, rfl, rfl⟩ | ⟨x, rfl, hl, hm, hz, hcell, hwz⟩
  · exact ⟨by omega, .inl rfl⟩
  · unfold maxLen at hm
    refine ⟨by omega, ?_⟩
    by_cases h0 : len = 0
    · exact .inl h0
    · obtain ⟨b, off, rfl, hc⟩ := ints_at hcell (by omega)
      refine .inr ⟨b, off, rfl, World.block_lt_of_cell? w _ (hc 0 (by omega)), fun k hk => ?_⟩
      have hb := bounds_u8 (hwz (zs.getD k 0) (by rw [List.getD_eq_getElem?_getD, List.getElem?_eq_getElem (by omega)]; exact List.getElem_mem _))
      exact ⟨zs.getD k 0, hb.1, hb.2, hc k (by omega)⟩

theorem new_good : (Rd.mk 1000 5000 6553 0 0).good = true := by decide
theorem con_avg (r : Rd) (b : Int) : ∀ w : World, Calls Try.prog 35 #[r.val, .int .i64 b] w fun e w' => e = .returned (.tuple #[(r.avgd b).val, .bool (r.good && inR b 0 1048576)]) ∧ Below w.heap.size w w' := fun w => iredAvg_any r b w

theorem avg_plain (r : Rd) (b : Int) (hg : r.good = true) (b0 : 0 ≤ b) (b1 : b ≤ 1048576) : ∀ w : World, Calls Try.prog 35 #[r.val, .int .i64 b] w fun e w' => e = .returned (.tuple #[(Rd.mk r.mn r.mx r.mp (avgF r.avg b) r.cnt).val, .bool true]) ∧ Below w.heap.size w w' := fun w => by
  have hi : inR b 0 1048576 = true := by simp [inR]; omega
  refine (iredAvg_any r b w).mono ?_
  rintro e w' ⟨rfl, h⟩
  have e1 : r.avgd b = ⟨r.mn, r.mx, r.mp, avgF r.avg b, r.cnt⟩ := by unfold Rd.avgd; simp [hg, hi]
  rw [e1, hg, hi]
  exact ⟨rfl, h⟩
theorem idle_plain (r : Rd) (hg : r.good = true) : ∀ w : World, Calls Try.prog 38 #[r.val, .int .i64 3] w fun e w' => e = .returned (.tuple #[(Rd.mk r.mn r.mx r.mp (idleF r.avg 3) r.cnt).val, .bool true]) ∧ Below w.heap.size w w' := fun w => by
  have hi : inR 3 0 10000 = true := by decide
  refine (iredIdle_any r 3 w).mono ?_
  rintro e w' ⟨rfl, h⟩
  have e1 : r.idle 3 = ⟨r.mn, r.mx, r.mp, idleF r.avg 3, r.cnt⟩ := by unfold Rd.idle; simp [hg, hi]
  rw [e1, hg, hi]
  exact ⟨rfl, h⟩
theorem down (a : Int) (a0 : 0 ≤ a) (a1 : a ≤ 68719476736) : 0 ≤ avgF a 0 ∧ avgF a 0 ≤ a := by unfold avgF; omega
theorem towards (a n : Int) (a0 : 0 ≤ a) (a1 : a ≤ 68719476736) (n0 : 0 ≤ n) (n1 : n ≤ 1048576) : (0 ≤ avgF a n ∧ avgF a n ≤ 68719476736) ∧ (0 ≤ a - n * 65536 → -1 ≤ avgF a n - n * 65536 ∧ avgF a n - n * 65536 ≤ a - n * 65536) ∧ (a - n * 65536 < 0 → a - n * 65536 ≤ avgF a n - n * 65536 ∧ avgF a n - n * 65536 ≤ 0) := by unfold avgF; omega

set_option maxHeartbeats 4000000 in
theorem walk (a0 : Option Addr) (len0 cap0 : Nat) (z0 : List Int) (w : World) (w0 : IsRow .u8 w a0 len0 cap0 z0) :
    Calls Try.prog 7 #[.slice a0 len0 cap0] w fun e w' => e = .returned (.bool true) ∧ Below w.heap.size w w' := by
  obtain ⟨hl, hcode⟩ := code_of w0
  clear w0
  go_enter Try.func7, Try.ntmps7
  go_wp2_with fail
  have B := Below.refl w.heap.size w
  refine (drawRedAvg a0 len0 cap0 _ hl hcode).mono ?_
  rintro e w1 ⟨r, n, rfl, hr, hn, b⟩
  replace B := B.trans (b.mono B.size)
  clear b hcode
  go_wp2_with fail
  obtain ⟨V, hV⟩ : ∃ V, w1.heap.size = V := ⟨_, rfl⟩
  obtain ⟨u1, hu⟩ : ∃ uu, w1.alloc (.cells (rdCells r) 68) = uu := ⟨_, rfl⟩
  have loV : w.heap.size ≤ V := by rw [← hV]; exact B.size
  have U1 : Hid (Sits u1 V (rdCells r) 68) := (by rw [← hu]; exact Sits.new' hV)
  replace B : Below w.heap.size w u1 := by rw [← hu]; exact B.alloc B.size _
  have hu' : w1.alloc (.cells #[.int .i64 r.mn, .int .i64 r.mx, .int .i64 r.mp, .int .i64 r.avg, .int .i64 r.cnt] 68) = u1 := hu
  rw [hu', hV]
  clear hu hu' hV
  have CA := con_avg r n
  cases hok : (r.good && inR n 0 1048576)
  case false =>
    rw [hok] at CA
    have hz : r.avgd n = Rd.zero := by unfold Rd.avgd; simp [hok]
    rw [hz] at CA
    clear hz
    refine (CA _).mono ?_
    rintro e w2 ⟨rfl, b⟩
    have S2 : Hid (Sits w2 V (rdCells r) 68) := Sits.below (U1.out) b (Sits.lt (U1.out))
    replace B := B.trans (b.mono B.size)
    clear b U1
    go_wp2_with fail
    obtain ⟨X, hX⟩ : ∃ V, w2.heap.size = V := ⟨_, rfl⟩
    obtain ⟨u2, hu⟩ : ∃ uu, w2.alloc (.cells (rdCells Rd.zero) 68) = uu := ⟨_, rfl⟩
    have nVX : V < X := by rw [← hX]; exact Sits.lt (S2.out)
    have loX : w.heap.size ≤ X := by rw [← hX]; exact B.size
    have U2 : Hid (Sits u2 V (rdCells r) 68 ∧ Sits u2 X (rdCells Rd.zero) 68) := ⟨(by rw [← hu]; exact Sits.alloc (S2.out) _), (by rw [← hu]; exact Sits.new' hX)⟩
    replace B : Below w.heap.size w u2 := by rw [← hu]; exact B.alloc B.size _
    have hu' : w2.alloc (.cells #[.int .i64 Rd.zero.mn, .int .i64 Rd.zero.mx, .int .i64 Rd.zero.mp, .int .i64 Rd.zero.avg, .int .i64 Rd.zero.cnt] 68) = u2 := hu
    rw [hu', hX]
    clear hu hu' hX S2
    refine (iredNew_any 1000 5000 6553 _).mono ?_
    rintro e w3 ⟨rfl, b⟩
    rw [new_good, if_pos rfl]
    have S3 : Hid (Sits w3 V (rdCells r) 68 ∧ Sits w3 X (rdCells Rd.zero) 68) := ⟨Sits.below (U2.out.1) b (Sits.lt (U2.out.1)), Sits.below (U2.out.2) b (Sits.lt (U2.out.2))⟩
    replace B := B.trans (b.mono B.size)
    clear b U2
    obtain ⟨cV0, cV1, cV2, cV3, cV4⟩ := rd_cells (S3.out.1)
    try dsimp only [Rd.zero] at cV0 cV1 cV2 cV3 cV4
    have fV := Sits.frozen (S3.out.1)
    have lV := Sits.lt (S3.out.1)
    obtain ⟨cX0, cX1, cX2, cX3, cX4⟩ := rd_cells (S3.out.2)
    try dsimp only [Rd.zero] at cX0 cX1 cX2 cX3 cX4
    have fX := Sits.frozen (S3.out.2)
    have lX := Sits.lt (S3.out.2)
    go_wp2_with (go_at_call 37; refine (iredOk_any ⟨1000, 5000, 6553, 0, 0⟩ _).mono ?_; rintro e w4 ⟨rfl, k4⟩; rw [new_good]; have C := (B.alloc B.size (.cells (rdCells ⟨1000, 5000, 6553, 0, 0⟩) 68)).trans (k4.1.mono (by have := B.size; simp; omega)))
    go_ret
    exact ⟨rfl, C⟩
  case true =>
    obtain ⟨hg, hb⟩ : r.good = true ∧ inR n 0 1048576 = true := by simpa using hok
    obtain ⟨n0, n1⟩ : 0 ≤ n ∧ n ≤ 1048576 := by simpa [inR] using hb
    obtain ⟨g1, g2, g3, g4, g5, g6, g7, g8, g9⟩ := r.good_iff.1 hg
    obtain ⟨y0, y1, y2⟩ := towards r.avg n g6 g7 n0 n1
    obtain ⟨a1, ha1⟩ : ∃ a, avgF r.avg 0 = a := ⟨_, rfl⟩
    obtain ⟨a2, ha2⟩ : ∃ a, avgF a1 0 = a := ⟨_, rfl⟩
    obtain ⟨a3, ha3⟩ : ∃ a, avgF a2 0 = a := ⟨_, rfl⟩
    have k1 := down r.avg g6 g7
    rw [ha1] at k1
    have k2 := down a1 k1.1 (by omega)
    rw [ha2] at k2
    have k3 := down a2 k2.1 (by omega)
    rw [ha3] at k3
    have C1 : Hid _ := avg_plain r 0 hg (by omega) (by omega)
    have C2 : Hid _ := avg_plain ⟨r.mn, r.mx, r.mp, a1, r.cnt⟩ 0 ((Rd.good_iff _).2 ⟨g1, g2, g3, g4, g5, k1.1, by show a1 ≤ _; omega, g8, g9⟩) (by omega) (by omega)
    have C3 : Hid _ := avg_plain ⟨r.mn, r.mx, r.mp, a2, r.cnt⟩ 0 ((Rd.good_iff _).2 ⟨g1, g2, g3, g4, g5, k2.1, by show a2 ≤ _; omega, g8, g9⟩) (by omega) (by omega)
    have CX : Hid _ := avg_plain r n hg n0 n1
    have hid : idleF r.avg 3 = a3 := by show avgF (avgF (avgF r.avg 0) 0) 0 = a3; rw [ha1, ha2, ha3]
    have CI : Hid _ := idle_plain r hg
    rw [ha1] at C1
    dsimp only at C2 C3
    rw [ha2] at C2
    rw [ha3] at C3
    rw [hid] at CI
    obtain ⟨x, hx⟩ : ∃ x, avgF r.avg n = x := ⟨_, rfl⟩
    rw [hx] at CX y0 y1 y2
    have GX : Hid ((Rd.mk r.mn r.mx r.mp x r.cnt).good = true) := (Rd.good_iff _).2 ⟨g1, g2, g3, g4, g5, y0.1, y0.2, g8, g9⟩
    clear CA hok ha1 ha2 ha3 hid hx hb hn hr
    refine (CX.out _).mono ?_
    rintro e w2 ⟨rfl, b⟩
    have S2 : Hid (Sits w2 V (rdCells r) 68) := Sits.below (U1.out) b (Sits.lt (U1.out))
    replace B := B.trans (b.mono B.size)
    clear b U1
    go_wp2_with fail
    obtain ⟨X, hX⟩ : ∃ V, w2.heap.size = V := ⟨_, rfl⟩
    obtain ⟨u2, hu⟩ : ∃ uu, w2.alloc (.cells (rdCells ⟨r.mn, r.mx, r.mp, x, r.cnt⟩) 68) = uu := ⟨_, rfl⟩
    have nVX : V < X := by rw [← hX]; exact Sits.lt (S2.out)
    have loX : w.heap.size ≤ X := by rw [← hX]; exact B.size
    have U2 : Hid (Sits u2 V (rdCells r) 68 ∧ Sits u2 X (rdCells ⟨r.mn, r.mx, r.mp, x, r.cnt⟩) 68) := ⟨(by rw [← hu]; exact Sits.alloc (S2.out) _), (by rw [← hu]; exact Sits.new' hX)⟩
    replace B : Below w.heap.size w u2 := by rw [← hu]; exact B.alloc B.size _
    have hu' : w2.alloc (.cells #[.int .i64 r.mn, .int .i64 r.mx, .int .i64 r.mp, .int .i64 x, .int .i64 r.cnt] 68) = u2 := hu
    rw [hu', hX]
    clear hu hu' hX S2
    refine (iredNew_any 1000 5000 6553 _).mono ?_
    rintro e w3 ⟨rfl, b⟩
    rw [new_good, if_pos rfl]
    have S3 : Hid (Sits w3 V (rdCells r) 68 ∧ Sits w3 X (rdCells ⟨r.mn, r.mx, r.mp, x, r.cnt⟩) 68) := ⟨Sits.below (U2.out.1) b (Sits.lt (U2.out.1)), Sits.below (U2.out.2) b (Sits.lt (U2.out.2))⟩
    replace B := B.trans (b.mono B.size)
    clear b U2
    obtain ⟨cV0, cV1, cV2, cV3, cV4⟩ := rd_cells (S3.out.1)
    try dsimp only [Rd.zero] at cV0 cV1 cV2 cV3 cV4
    have fV := Sits.frozen (S3.out.1)
    have lV := Sits.lt (S3.out.1)
    obtain ⟨cX0, cX1, cX2, cX3, cX4⟩ := rd_cells (S3.out.2)
    try dsimp only [Rd.zero] at cX0 cX1 cX2 cX3 cX4
    have fX := Sits.frozen (S3.out.2)
    have lX := Sits.lt (S3.out.2)
    go_wp2_with fail
    clear cV0 cV1 cV2 cV3 cV4 fV lV cX0 cX1 cX2 cX3 cX4 fX lX
    obtain ⟨O, hO⟩ : ∃ V, w3.heap.size = V := ⟨_, rfl⟩
    obtain ⟨u3, hu⟩ : ∃ uu, w3.alloc (.cells (rdCells ⟨1000, 5000, 6553, 0, 0⟩) 68) = uu := ⟨_, rfl⟩
    have nVO : V < O := by rw [← hO]; exact Sits.lt (S3.out.1)
    have nXO : X < O := by rw [← hO]; exact Sits.lt (S3.out.2)
    have loO : w.heap.size ≤ O := by rw [← hO]; exact B.size
    have U3 : Hid (Sits u3 V (rdCells r) 68 ∧ Sits u3 X (rdCells ⟨r.mn, r.mx, r.mp, x, r.cnt⟩) 68 ∧ Sits u3 O (rdCells ⟨1000, 5000, 6553, 0, 0⟩) 68) := ⟨(by rw [← hu]; exact Sits.alloc (S3.out.1) _), (by rw [← hu]; exact Sits.alloc (S3.out.2) _), (by rw [← hu]; exact Sits.new' hO)⟩
    replace B : Below w.heap.size w u3 := by rw [← hu]; exact B.alloc B.size _
    have hu' : w3.alloc (.cells #[.int .i64 1000, .int .i64 5000, .int .i64 6553, .int .i64 0, .int .i64 0] 68) = u3 := hu
    rw [hu', hO]
    clear hu hu' hO S3
    refine (CI.out _).mono ?_
    rintro e w4 ⟨rfl, b⟩
    have S4 : Hid (Sits w4 V (rdCells r) 68 ∧ Sits w4 X (rdCells ⟨r.mn, r.mx, r.mp, x, r.cnt⟩) 68 ∧ Sits w4 O (rdCells ⟨1000, 5000, 6553, 0, 0⟩) 68) := ⟨Sits.below (U3.out.1) b (Sits.lt (U3.out.1)), Sits.below (U3.out.2.1) b (Sits.lt (U3.out.2.1)), Sits.below (U3.out.2.2) b (Sits.lt (U3.out.2.2))⟩
    replace B := B.trans (b.mono B.size)
    clear b U3
    obtain ⟨cV0, cV1, cV2, cV3, cV4⟩ := rd_cells (S4.out.1)
    try dsimp only [Rd.zero] at cV0 cV1 cV2 cV3 cV4
    have fV := Sits.frozen (S4.out.1)
    have lV := Sits.lt (S4.out.1)
    obtain ⟨cX0, cX1, cX2, cX3, cX4⟩ := rd_cells (S4.out.2.1)
    try dsimp only [Rd.zero] at cX0 cX1 cX2 cX3 cX4
    have fX := Sits.frozen (S4.out.2.1)
    have lX := Sits.lt (S4.out.2.1)
    obtain ⟨cO0, cO1, cO2, cO3, cO4⟩ := rd_cells (S4.out.2.2)
    try dsimp only [Rd.zero] at cO0 cO1 cO2 cO3 cO4
    have fO := Sits.frozen (S4.out.2.2)
    have lO := Sits.lt (S4.out.2.2)
    go_wp2_with fail
    clear cV0 cV1 cV2 cV3 cV4 fV lV cX0 cX1 cX2 cX3 cX4 fX lX cO0 cO1 cO2 cO3 cO4 fO lO
    obtain ⟨Y, hY⟩ : ∃ V, w4.heap.size = V := ⟨_, rfl⟩
    obtain ⟨u4, hu⟩ : ∃ uu, w4.alloc (.cells (rdCells ⟨r.mn, r.mx, r.mp, a3, r.cnt⟩) 68) = uu := ⟨_, rfl⟩
    have nVY : V < Y := by rw [← hY]; exact Sits.lt (S4.out.1)
    have nXY : X < Y := by rw [← hY]; exact Sits.lt (S4.out.2.1)
    have nOY : O < Y := by rw [← hY]; exact Sits.lt (S4.out.2.2)
    have loY : w.heap.size ≤ Y := by rw [← hY]; exact B.size
    have U4 : Hid (Sits u4 V (rdCells r) 68 ∧ Sits u4 X (rdCells ⟨r.mn, r.mx, r.mp, x, r.cnt⟩) 68 ∧ Sits u4 O (rdCells ⟨1000, 5000, 6553, 0, 0⟩) 68 ∧ Sits u4 Y (rdCells ⟨r.mn, r.mx, r.mp, a3, r.cnt⟩) 68) := ⟨(by rw [← hu]; exact Sits.alloc (S4.out.1) _), (by rw [← hu]; exact Sits.alloc (S4.out.2.1) _), (by rw [← hu]; exact Sits.alloc (S4.out.2.2) _), (by rw [← hu]; exact Sits.new' hY)⟩
    replace B : Below w.heap.size w u4 := by rw [← hu]; exact B.alloc B.size _
    have hu' : w4.alloc (.cells #[.int .i64 r.mn, .int .i64 r.mx, .int .i64 r.mp, .int .i64 a3, .int .i64 r.cnt] 68) = u4 := hu
    rw [hu', hY]
    clear hu hu' hY S4
    refine (C1.out _).mono ?_
    rintro e w5 ⟨rfl, b⟩
    have S5 : Hid (Sits w5 V (rdCells r) 68 ∧ Sits w5 X (rdCells ⟨r.mn, r.mx, r.mp, x, r.cnt⟩) 68 ∧ Sits w5 O (rdCells ⟨1000, 5000, 6553, 0, 0⟩) 68 ∧ Sits w5 Y (rdCells ⟨r.mn, r.mx, r.mp, a3, r.cnt⟩) 68) := ⟨Sits.below (U4.out.1) b (Sits.lt (U4.out.1)), Sits.below (U4.out.2.1) b (Sits.lt (U4.out.2.1)), Sits.below (U4.out.2.2.1) b (Sits.lt (U4.out.2.2.1)), Sits.below (U4.out.2.2.2) b (Sits.lt (U4.out.2.2.2))⟩
    replace B := B.trans (b.mono B.size)
    clear b U4
    go_wp2_with fail
    obtain ⟨Z, hZ⟩ : ∃ V, w5.heap.size = V := ⟨_, rfl⟩
    obtain ⟨u5, hu⟩ : ∃ uu, w5.alloc (.cells (rdCells ⟨r.mn, r.mx, r.mp, a1, r.cnt⟩) 68) = uu := ⟨_, rfl⟩
    have nVZ : V < Z := by rw [← hZ]; exact Sits.lt (S5.out.1)
    have nXZ : X < Z := by rw [← hZ]; exact Sits.lt (S5.out.2.1)
    have nOZ : O < Z := by rw [← hZ]; exact Sits.lt (S5.out.2.2.1)
    have nYZ : Y < Z := by rw [← hZ]; exact Sits.lt (S5.out.2.2.2)
    have loZ : w.heap.size ≤ Z := by rw [← hZ]; exact B.size
    have U5 : Hid (Sits u5 V (rdCells r) 68 ∧ Sits u5 X (rdCells ⟨r.mn, r.mx, r.mp, x, r.cnt⟩) 68 ∧ Sits u5 O (rdCells ⟨1000, 5000, 6553, 0, 0⟩) 68 ∧ Sits u5 Y (rdCells ⟨r.mn, r.mx, r.mp, a3, r.cnt⟩) 68 ∧ Sits u5 Z (rdCells ⟨r.mn, r.mx, r.mp, a1, r.cnt⟩) 68) := ⟨(by rw [← hu]; exact Sits.alloc (S5.out.1) _), (by rw [← hu]; exact Sits.alloc (S5.out.2.1) _), (by rw [← hu]; exact Sits.alloc (S5.out.2.2.1) _), (by rw [← hu]; exact Sits.alloc (S5.out.2.2.2) _), (by rw [← hu]; exact Sits.new' hZ)⟩
    replace B : Below w.heap.size w u5 := by rw [← hu]; exact B.alloc B.size _
    have hu' : w5.alloc (.cells #[.int .i64 r.mn, .int .i64 r.mx, .int .i64 r.mp, .int .i64 a1, .int .i64 r.cnt] 68) = u5 := hu
    rw [hu', hZ]
    clear hu hu' hZ S5
    refine (C2.out _).mono ?_
    rintro e w6 ⟨rfl, b⟩
    have S6 : Hid (Sits w6 V (rdCells r) 68 ∧ Sits w6 X (rdCells ⟨r.mn, r.mx, r.mp, x, r.cnt⟩) 68 ∧ Sits w6 O (rdCells ⟨1000, 5000, 6553, 0, 0⟩) 68 ∧ Sits w6 Y (rdCells ⟨r.mn, r.mx, r.mp, a3, r.cnt⟩) 68 ∧ Sits w6 Z (rdCells ⟨r.mn, r.mx, r.mp, a1, r.cnt⟩) 68) := ⟨Sits.below (U5.out.1) b (Sits.lt (U5.out.1)), Sits.below (U5.out.2.1) b (Sits.lt (U5.out.2.1)), Sits.below (U5.out.2.2.1) b (Sits.lt (U5.out.2.2.1)), Sits.below (U5.out.2.2.2.1) b (Sits.lt (U5.out.2.2.2.1)), Sits.below (U5.out.2.2.2.2) b (Sits.lt (U5.out.2.2.2.2))⟩
    replace B := B.trans (b.mono B.size)
    clear b U5
    obtain ⟨cV0, cV1, cV2, cV3, cV4⟩ := rd_cells (S6.out.1)
    try dsimp only [Rd.zero] at cV0 cV1 cV2 cV3 cV4
    have fV := Sits.frozen (S6.out.1)
    have lV := Sits.lt (S6.out.1)
    obtain ⟨cX0, cX1, cX2, cX3, cX4⟩ := rd_cells (S6.out.2.1)
    try dsimp only [Rd.zero] at cX0 cX1 cX2 cX3 cX4
    have fX := Sits.frozen (S6.out.2.1)
    have lX := Sits.lt (S6.out.2.1)
    obtain ⟨cO0, cO1, cO2, cO3, cO4⟩ := rd_cells (S6.out.2.2.1)
    try dsimp only [Rd.zero] at cO0 cO1 cO2 cO3 cO4
    have fO := Sits.frozen (S6.out.2.2.1)
    have lO := Sits.lt (S6.out.2.2.1)
    obtain ⟨cY0, cY1, cY2, cY3, cY4⟩ := rd_cells (S6.out.2.2.2.1)
    try dsimp only [Rd.zero] at cY0 cY1 cY2 cY3 cY4
    have fY := Sits.frozen (S6.out.2.2.2.1)
    have lY := Sits.lt (S6.out.2.2.2.1)
    obtain ⟨cZ0, cZ1, cZ2, cZ3, cZ4⟩ := rd_cells (S6.out.2.2.2.2)
    try dsimp only [Rd.zero] at cZ0 cZ1 cZ2 cZ3 cZ4
    have fZ := Sits.frozen (S6.out.2.2.2.2)
    have lZ := Sits.lt (S6.out.2.2.2.2)
    go_wp2_with fail
    clear cV0 cV1 cV2 cV3 cV4 fV lV cX0 cX1 cX2 cX3 cX4 fX lX cO0 cO1 cO2 cO3 cO4 fO lO cY0 cY1 cY2 cY3 cY4 fY lY cZ0 cZ1 cZ2 cZ3 cZ4 fZ lZ
    obtain ⟨u6, hu⟩ : ∃ uu, (((((w6.setCell ⟨Z, 0, none⟩ (.int .i64 r.mn)).setCell ⟨Z, 1, none⟩ (.int .i64 r.mx)).setCell ⟨Z, 2, none⟩ (.int .i64 r.mp)).setCell ⟨Z, 3, none⟩ (.int .i64 a2)).setCell ⟨Z, 4, none⟩ (.int .i64 r.cnt)) = uu := ⟨_, rfl⟩
    have U6 : Hid (Sits u6 V (rdCells r) 68 ∧ Sits u6 X (rdCells ⟨r.mn, r.mx, r.mp, x, r.cnt⟩) 68 ∧ Sits u6 O (rdCells ⟨1000, 5000, 6553, 0, 0⟩) 68 ∧ Sits u6 Y (rdCells ⟨r.mn, r.mx, r.mp, a3, r.cnt⟩) 68 ∧ Sits u6 Z (rdCells ⟨r.mn, r.mx, r.mp, a2, r.cnt⟩) 68) := ⟨(by rw [← hu]; exact (((((Sits.other (S6.out.1) (by omega) _).other (by omega) _).other (by omega) _).other (by omega) _).other (by omega) _)), (by rw [← hu]; exact (((((Sits.other (S6.out.2.1) (by omega) _).other (by omega) _).other (by omega) _).other (by omega) _).other (by omega) _)), (by rw [← hu]; exact (((((Sits.other (S6.out.2.2.1) (by omega) _).other (by omega) _).other (by omega) _).other (by omega) _).other (by omega) _)), (by rw [← hu]; exact (((((Sits.other (S6.out.2.2.2.1) (by omega) _).other (by omega) _).other (by omega) _).other (by omega) _).other (by omega) _)), (by rw [← hu]; exact (((((Sits.set (S6.out.2.2.2.2) 0 _).set 1 _).set 2 _).set 3 _).set 4 _))⟩
    replace B : Below w.heap.size w u6 := by rw [← hu]; exact (((((B.setCell loZ _).setCell loZ _).setCell loZ _).setCell loZ _).setCell loZ _)
    rw [hu]
    clear hu S6
    refine (C3.out _).mono ?_
    rintro e w7 ⟨rfl, b⟩
    have S7 : Hid (Sits w7 V (rdCells r) 68 ∧ Sits w7 X (rdCells ⟨r.mn, r.mx, r.mp, x, r.cnt⟩) 68 ∧ Sits w7 O (rdCells ⟨1000, 5000, 6553, 0, 0⟩) 68 ∧ Sits w7 Y (rdCells ⟨r.mn, r.mx, r.mp, a3, r.cnt⟩) 68 ∧ Sits w7 Z (rdCells ⟨r.mn, r.mx, r.mp, a2, r.cnt⟩) 68) := ⟨Sits.below (U6.out.1) b (Sits.lt (U6.out.1)), Sits.below (U6.out.2.1) b (Sits.lt (U6.out.2.1)), Sits.below (U6.out.2.2.1) b (Sits.lt (U6.out.2.2.1)), Sits.below (U6.out.2.2.2.1) b (Sits.lt (U6.out.2.2.2.1)), Sits.below (U6.out.2.2.2.2) b (Sits.lt (U6.out.2.2.2.2))⟩
    replace B := B.trans (b.mono B.size)
    clear b U6
    obtain ⟨cV0, cV1, cV2, cV3, cV4⟩ := rd_cells (S7.out.1)
    try dsimp only [Rd.zero] at cV0 cV1 cV2 cV3 cV4
    have fV := Sits.frozen (S7.out.1)
    have lV := Sits.lt (S7.out.1)
    obtain ⟨cX0, cX1, cX2, cX3, cX4⟩ := rd_cells (S7.out.2.1)
    try dsimp only [Rd.zero] at cX0 cX1 cX2 cX3 cX4
    have fX := Sits.frozen (S7.out.2.1)
    have lX := Sits.lt (S7.out.2.1)
    obtain ⟨cO0, cO1, cO2, cO3, cO4⟩ := rd_cells (S7.out.2.2.1)
    try dsimp only [Rd.zero] at cO0 cO1 cO2 cO3 cO4
    have fO := Sits.frozen (S7.out.2.2.1)
    have lO := Sits.lt (S7.out.2.2.1)
    obtain ⟨cY0, cY1, cY2, cY3, cY4⟩ := rd_cells (S7.out.2.2.2.1)
    try dsimp only [Rd.zero] at cY0 cY1 cY2 cY3 cY4
    have fY := Sits.frozen (S7.out.2.2.2.1)
    have lY := Sits.lt (S7.out.2.2.2.1)
    obtain ⟨cZ0, cZ1, cZ2, cZ3, cZ4⟩ := rd_cells (S7.out.2.2.2.2)
    try dsimp only [Rd.zero] at cZ0 cZ1 cZ2 cZ3 cZ4
    have fZ := Sits.frozen (S7.out.2.2.2.2)
    have lZ := Sits.lt (S7.out.2.2.2.2)
    go_wp2_with fail
    clear cV0 cV1 cV2 cV3 cV4 fV lV cX0 cX1 cX2 cX3 cX4 fX lX cO0 cO1 cO2 cO3 cO4 fO lO cY0 cY1 cY2 cY3 cY4 fY lY cZ0 cZ1 cZ2 cZ3 cZ4 fZ lZ
    obtain ⟨u7, hu⟩ : ∃ uu, (((((w7.setCell ⟨Z, 0, none⟩ (.int .i64 r.mn)).setCell ⟨Z, 1, none⟩ (.int .i64 r.mx)).setCell ⟨Z, 2, none⟩ (.int .i64 r.mp)).setCell ⟨Z, 3, none⟩ (.int .i64 a3)).setCell ⟨Z, 4, none⟩ (.int .i64 r.cnt)) = uu := ⟨_, rfl⟩
    have U7 : Hid (Sits u7 V (rdCells r) 68 ∧ Sits u7 X (rdCells ⟨r.mn, r.mx, r.mp, x, r.cnt⟩) 68 ∧ Sits u7 O (rdCells ⟨1000, 5000, 6553, 0, 0⟩) 68 ∧ Sits u7 Y (rdCells ⟨r.mn, r.mx, r.mp, a3, r.cnt⟩) 68 ∧ Sits u7 Z (rdCells ⟨r.mn, r.mx, r.mp, a3, r.cnt⟩) 68) := ⟨(by rw [← hu]; exact (((((Sits.other (S7.out.1) (by omega) _).other (by omega) _).other (by omega) _).other (by omega) _).other (by omega) _)), (by rw [← hu]; exact (((((Sits.other (S7.out.2.1) (by omega) _).other (by omega) _).other (by omega) _).other (by omega) _).other (by omega) _)), (by rw [← hu]; exact (((((Sits.other (S7.out.2.2.1) (by omega) _).other (by omega) _).other (by omega) _).other (by omega) _).other (by omega) _)), (by rw [← hu]; exact (((((Sits.other (S7.out.2.2.2.1) (by omega) _).other (by omega) _).other (by omega) _).other (by omega) _).other (by omega) _)), (by rw [← hu]; exact (((((Sits.set (S7.out.2.2.2.2) 0 _).set 1 _).set 2 _).set 3 _).set 4 _))⟩
    replace B : Below w.heap.size w u7 := by rw [← hu]; exact (((((B.setCell loZ _).setCell loZ _).setCell loZ _).setCell loZ _).setCell loZ _)
    rw [hu]
    clear hu S7
    refine (iredOk_any ⟨r.mn, r.mx, r.mp, x, r.cnt⟩ _).mono ?_
    rintro e w8 ⟨rfl, k⟩
    rw [GX.out]
    have b := k.1
    clear k
    have S8 : Hid (Sits w8 V (rdCells r) 68 ∧ Sits w8 X (rdCells ⟨r.mn, r.mx, r.mp, x, r.cnt⟩) 68 ∧ Sits w8 O (rdCells ⟨1000, 5000, 6553, 0, 0⟩) 68 ∧ Sits w8 Y (rdCells ⟨r.mn, r.mx, r.mp, a3, r.cnt⟩) 68 ∧ Sits w8 Z (rdCells ⟨r.mn, r.mx, r.mp, a3, r.cnt⟩) 68) := ⟨Sits.below (U7.out.1) b (Sits.lt (U7.out.1)), Sits.below (U7.out.2.1) b (Sits.lt (U7.out.2.1)), Sits.below (U7.out.2.2.1) b (Sits.lt (U7.out.2.2.1)), Sits.below (U7.out.2.2.2.1) b (Sits.lt (U7.out.2.2.2.1)), Sits.below (U7.out.2.2.2.2) b (Sits.lt (U7.out.2.2.2.2))⟩
    replace B := B.trans (b.mono B.size)
    clear b U7
    obtain ⟨cV0, cV1, cV2, cV3, cV4⟩ := rd_cells (S8.out.1)
    try dsimp only [Rd.zero] at cV0 cV1 cV2 cV3 cV4
    have fV := Sits.frozen (S8.out.1)
    have lV := Sits.lt (S8.out.1)
    obtain ⟨cX0, cX1, cX2, cX3, cX4⟩ := rd_cells (S8.out.2.1)
    try dsimp only [Rd.zero] at cX0 cX1 cX2 cX3 cX4
    have fX := Sits.frozen (S8.out.2.1)
    have lX := Sits.lt (S8.out.2.1)
    obtain ⟨cO0, cO1, cO2, cO3, cO4⟩ := rd_cells (S8.out.2.2.1)
    try dsimp only [Rd.zero] at cO0 cO1 cO2 cO3 cO4
    have fO := Sits.frozen (S8.out.2.2.1)
    have lO := Sits.lt (S8.out.2.2.1)
    obtain ⟨cY0, cY1, cY2, cY3, cY4⟩ := rd_cells (S8.out.2.2.2.1)
    try dsimp only [Rd.zero] at cY0 cY1 cY2 cY3 cY4
    have fY := Sits.frozen (S8.out.2.2.2.1)
    have lY := Sits.lt (S8.out.2.2.2.1)
    obtain ⟨cZ0, cZ1, cZ2, cZ3, cZ4⟩ := rd_cells (S8.out.2.2.2.2)
    try dsimp only [Rd.zero] at cZ0 cZ1 cZ2 cZ3 cZ4
    have fZ := Sits.frozen (S8.out.2.2.2.2)
    have lZ := Sits.lt (S8.out.2.2.2.2)
    have q1 : a3 ≤ r.avg := by omega
    have q2 : (a3 == a3) = true := by simp
    rcases (by omega : 0 ≤ r.avg - n * 65536 ∨ r.avg - n * 65536 < 0) with hw | hw
    · obtain ⟨t0, t1⟩ := y1 hw
      clear y1 y2
      go_wp2_with (go_at_call 37; refine (iredOk_any ⟨1000, 5000, 6553, 0, 0⟩ _).mono ?_; rintro e w9 ⟨rfl, k9⟩; rw [new_good]; have C := B.trans (k9.1.mono B.size))
      go_ret
      exact ⟨rfl, C⟩
    · obtain ⟨t0, t1⟩ := y2 hw
      clear y1 y2
      go_wp2_with (go_at_call 37; refine (iredOk_any ⟨1000, 5000, 6553, 0, 0⟩ _).mono ?_; rintro e w9 ⟨rfl, k9⟩; rw [new_good]; have C := B.trans (k9.1.mono B.size))
      go_ret
      exact ⟨rfl, C⟩

set_option maxRecDepth 100000 in
theorem lifted (os : Os) (started : os.Started) (H : Type) (enc : TypeId × Value → H) :
    ReturnsInHanded {} Try.checked os 7 .any (Rows.fnRedAvgsSpec.pre6 enc Try.prog Try.f7 Rows.fnRedAvgsRow.domain false) (Rows.fnRedAvgsSpec.post enc Try.prog Try.f7 false true false false) := by
  refine returnsInHanded_of_change (C := Try.checked) own started (by kernel_rfl) Try.func7
    (ChangeSpec.witness6 (enc := enc) (C := Try.checked) false ⟨#[], #[.slice none 0 0], []⟩ 8 (by kernel_rfl) (by kernel_rfl) (by kernel_rfl) (by kernel_rfl)) ?_
  intro W base args ds gs before hval0 hW hcnd _
  have hval : ∀ (j : Nat) t v, Try.f7.params[j]? = some t → args[j]? = some v → Value.okWide Try.prog W .any base t v := hval0
  have hW' := hW
  obtain ⟨p, q, hA0, hV, rfl, hfz, hnd⟩ := hW
  have hA : DataW.TrodAll enc Try.prog W 0 (fun _ => true) true Try.f7.params.toList args.toList ds p := hA0
  rw [Try.params7] at hA hval
  obtain ⟨v0, vs0, d0, ds0, p0, q0, hargs, rfl, rfl, h0, r0⟩ := trodAll_cons hA
  obtain ⟨rfl, rfl, rfl⟩ := trodAll_nil r0
  obtain rfl : args = #[v0] := by cases args; simp_all
  obtain ⟨rfl, rfl⟩ := trodVars_none hV
  obtain ⟨a0, len0, cap0, rfl⟩ := okWide_slice Try.underlying22 (hval 0 22 v0 rfl rfl)
  have k0 := h0
  have lt0 : ∀ x ∈ p0, x.block < W.heap.size := by obtain ⟨m, hm⟩ := k0; exact DataW.trod_lt m _ _ _ hm
  obtain ⟨z0, w0⟩ : ∃ zs, IsRow .u8 W a0 len0 cap0 zs := by
    obtain ⟨fuel, hf⟩ := h0
    rcases open_ints Try.underlying22 Try.underlying5 (by kernel_rfl) hf with ⟨hcs, _⟩ | ⟨x, l, c, zs, hcs, _, hl, hm, hz, _, hcell, hwz⟩
    · simp [Value.cells] at hcs
      obtain ⟨rfl, rfl, rfl⟩ := hcs
      exact ⟨[], .inl ⟨rfl, rfl, rfl, rfl⟩⟩
    · simp [Value.cells] at hcs
      obtain ⟨rfl, rfl, rfl⟩ := hcs
      exact ⟨zs, .inr ⟨_, rfl, hl, hm, by simpa using hz, hcell, hwz⟩⟩
  clear hA0 hval0
  refine (walk a0 len0 cap0 z0 W w0).mono fun e W' ⟨he, bel⟩ => ?_
  subst he
  exact ⟨_, rfl, _, _, _, [], _, [], hW', trodAll_mk1 (shut_bool Try.underlying4 _), (trodAll_cons_mk (Below.trod laidOut (by kernel_rfl) (of_decide_eq_true (by kernel_rfl)) k0 bel lt0) trodAll_mk0), rfl, bel.frame _, fun h => by cases h⟩

theorem over : Rows.fnRedAvgsRow.holds Try.pinned (OpenSpec.ofChange Rows.fnRedAvgsSpec) :=
  OpenClaim.holds_of_wide 7 Try.f7 rfl rfl rfl rfl rfl rfl rfl ⟨rfl, rfl, rfl, rfl, rfl⟩ rfl rfl rfl rfl rfl (by kernel_rfl) Try.func7 (by kernel_rfl)
    (of_decide_eq_true (by kernel_rfl)) (by unfold Func.isWrapper; first | (rw [if_pos (by decide +kernel)]; kernel_rfl) | (rw [if_neg (by decide +kernel)]; exact ⟨rfl, rfl⟩))
    (fun os started H enc _ => lifted os started H enc)

theorem proved : Rows.FnRedAvgsSaid := over
end Go.Proofs.Ytboomccnfnaboab.fnRedAvgs
namespace Go.Proofs.Ytboomccnfnaboab
theorem fnRedAvgs_holds : Rows.FnRedAvgsSaid := fnRedAvgs.proved
#print axioms fnRedAvgs_holds
end Go.Proofs.Ytboomccnfnaboab
