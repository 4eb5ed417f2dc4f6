/-
  Whatever bytes the law FnRedArrives draws its Red, its bytes and its draw from, it returns true and leaves the bytes as they were; no condition.
-/
import Derived.Test.YtboomccnfnaboacRows
import Derived.WalkKit
import Derived.ProofKit
import Derived.OpenShut
import Derived.Test.YtboomccnfnaboacArrive2
import Derived.Test.YtboomccnfnaboacDrawRed3
import Derived.ShutString
import Derived.ChangeOld
import Derived.Below
namespace Go.Proofs.Ytboomccnfnaboac.fnRedArrives
open Go.ChangeShapes Go.WideShapes Go.ChangeAt Go.RowKit
open Go.ChangeMaps (open_string shut_string)
set_option linter.unusedVariables false

theorem own : ownKnob Try.prog.godebug = none := by kernel_rfl
theorem laidOut : laidOutB Try.prog = true := by kernel_rfl

/-- A slice of integers that came in. -/
def IsRow (k : IntKind) (w : World) (a : Option Addr) (len cap : Nat) (zs : List Int) : Prop :=
  (a = none ∧ len = 0 ∧ cap = 0 ∧ zs = []) ∨
  ∃ x, a = some x ∧ len ≤ cap ∧ cap ≤ maxLen ∧ zs.length = cap ∧ (∀ i, i < zs.length → w.cell? (x.add i) = some (.int k (zs.getD i 0))) ∧ ∀ n ∈ zs, (Lit.int k n).wf = true

theorem code_of {w : World} {a : Option Addr} {len cap : Nat} {zs : List Int} (h : IsRow .u8 w a len cap zs) : len ≤ 9223372036854775807 ∧ Code w w.heap.size a len := by
  rcases h with ⟨rfl, rfl, rfl, rfl⟩ | ⟨x, rfl, hl, hm, hz, hcell, hwz⟩
  · exact ⟨by omega, .inl rfl⟩
  · unfold maxLen at hm
    refine ⟨by omega, ?_⟩
    by_cases h0 : len = 0
    · exact .inl h0
    · obtain ⟨b, off, rfl, hc⟩ := ints_at hcell (by omega)
      refine .inr ⟨b, off, rfl, World.block_lt_of_cell? w _ (hc 0 (by omega)), fun k hk => ?_⟩
      have hb := bounds_u8 (hwz (zs.getD k 0) (by rw [List.getD_eq_getElem?_getD, List.getElem?_eq_getElem (by omega)]; exact List.getElem_mem _))
      exact ⟨zs.getD k 0, hb.1, hb.2, hc k (by omega)⟩

theorem new_good : (Rd.mk 1000 5000 6553 0 0).good = true := by decide
theorem con_arr (r : Rd) (b d : Int) : ∀ w : World, Calls Try.prog 5 #[r.val, .int .i64 b, .int .i64 d] w fun e w' => e = .returned (.tuple #[(r.arrived b d).val, .bool (hitB r b d)]) ∧ Below w.heap.size w w' := fun w => iredArrive_any r b d w
theorem con_not (r : Rd) (b d : Int) (hm : r.may b d = false) : ∀ w : World, Calls Try.prog 5 #[r.val, .int .i64 b, .int .i64 d] w fun e w' => e = .returned (.tuple #[Rd.zero.val, .bool false]) ∧ Below w.heap.size w w' := fun w => by
  refine (iredArrive_any r b d w).mono ?_
  rintro e w' ⟨rfl, h⟩
  have e1 : r.arrived b d = Rd.zero := by unfold Rd.arrived; simp [hm]
  have e2 : hitB r b d = false := by unfold hitB; simp [hm]
  rw [e1, e2]
  exact ⟨rfl, h⟩
theorem con_prob (r : Rd) (hg : r.good = true) : ∀ w : World, Calls Try.prog 9 #[r.val] w fun e w' => e = .returned (.int .i64 (chanceF r)) ∧ Below w.heap.size w w' := fun w => by
  refine (iredProb_any r w).mono ?_
  rintro e w' ⟨rfl, h⟩
  rw [prob_good hg]
  exact ⟨rfl, h⟩
theorem why_not {r : Rd} {b d : Int} (hm : r.may b d = false) : r.good = false ∨ (r.good = true ∧ b < 0) ∨ (r.good = true ∧ ¬ b < 0 ∧ 1048576 < b) ∨ (r.good = true ∧ ¬ b < 0 ∧ ¬ 1048576 < b ∧ d < 0) ∨ (r.good = true ∧ ¬ b < 0 ∧ ¬ 1048576 < b ∧ ¬ d < 0 ∧ 65536 ≤ d) := by
  cases hg : r.good
  · exact .inl rfl
  · simp [Rd.may, inR, hg] at hm
    simp
    omega
theorem avg_plain (r : Rd) (b : Int) (hg : r.good = true) (b0 : 0 ≤ b) (b1 : b ≤ 1048576) : ∀ w : World, Calls Try.prog 8 #[r.val, .int .i64 b] w fun e w' => e = .returned (.tuple #[(Rd.mk r.mn r.mx r.mp (avgF r.avg b) r.cnt).val, .bool true]) ∧ Below w.heap.size w w' := fun w => by
  have hi : inR b 0 1048576 = true := by simp [inR]; omega
  refine (iredAvg_any r b w).mono ?_
  rintro e w' ⟨rfl, h⟩
  have e1 : r.avgd b = ⟨r.mn, r.mx, r.mp, avgF r.avg b, r.cnt⟩ := by unfold Rd.avgd; simp [hg, hi]
  rw [e1, hg, hi]
  exact ⟨rfl, h⟩

set_option maxHeartbeats 4000000 in
theorem walk (a0 : Option Addr) (len0 cap0 : Nat) (z0 : List Int) (w : World) (w0 : IsRow .u8 w a0 len0 cap0 z0) :
    Calls Try.prog 3 #[.slice a0 len0 cap0] w fun e w' => e = .returned (.bool true) ∧ Below w.heap.size w w' := by
  obtain ⟨hl, hcode⟩ := code_of w0
  clear w0
  go_enter Try.func3, Try.ntmps3
  go_wp2_with fail
  have B := Below.refl w.heap.size w
  refine (drawRedArrive a0 len0 cap0 _ hl hcode).mono ?_
  rintro e w1 ⟨r, n, d, rfl, hr, hn, hd, b⟩
  replace B := B.trans (b.mono B.size)
  clear b hcode
  go_wp2_with fail
  obtain ⟨V, hV⟩ : ∃ V, w1.heap.size = V := ⟨_, rfl⟩
  obtain ⟨u1, hu⟩ : ∃ uu, w1.alloc (.cells (rdCells r) 24) = uu := ⟨_, rfl⟩
  have loV : w.heap.size ≤ V := by rw [← hV]; exact B.size
  have U1 : Hid (Sits u1 V (rdCells r) 24) := (by rw [← hu]; exact Sits.new' hV)
  replace B : Below w.heap.size w u1 := by rw [← hu]; exact B.alloc B.size _
  have hu' : w1.alloc (.cells #[.int .i64 r.mn, .int .i64 r.mx, .int .i64 r.mp, .int .i64 r.avg, .int .i64 r.cnt] 24) = u1 := hu
  rw [hu', hV]
  clear hu hu' hV
  unfold In64' at hn hd
  obtain ⟨hn0, hn1⟩ := hn
  obtain ⟨hd0, hd1⟩ := hd
  cases hm : r.may n d
  case false =>
    have CX : Hid _ := con_not r n d hm
    have hc := why_not hm
    refine (CX.out _).mono ?_
    rintro e w2 ⟨rfl, b⟩
    have S2 : Hid (Sits w2 V (rdCells r) 24) := Sits.below (U1.out) b (Sits.lt (U1.out))
    replace B := B.trans (b.mono B.size)
    clear b U1
    obtain ⟨cV0, cV1, cV2, cV3, cV4⟩ := rd_cells (S2.out)
    try dsimp only [Rd.zero] at cV0 cV1 cV2 cV3 cV4
    have fV := Sits.frozen (S2.out)
    have lV := Sits.lt (S2.out)
    rcases hc with hg | ⟨hg, h1⟩ | ⟨hg, h1, h2⟩ | ⟨hg, h1, h2, h3⟩ | ⟨hg, h1, h2, h3, h4⟩
    all_goals
      go_wp2_with fail
      clear cV0 cV1 cV2 cV3 cV4 fV lV
      obtain ⟨X, hX⟩ : ∃ V, w2.heap.size = V := ⟨_, rfl⟩
      obtain ⟨u2, hu⟩ : ∃ uu, w2.alloc (.cells (rdCells Rd.zero) 24) = uu := ⟨_, rfl⟩
      have nVX : V < X := by rw [← hX]; exact Sits.lt (S2.out)
      have loX : w.heap.size ≤ X := by rw [← hX]; exact B.size
      have U2 : Hid (Sits u2 V (rdCells r) 24 ∧ Sits u2 X (rdCells Rd.zero) 24) := ⟨(by rw [← hu]; exact Sits.alloc (S2.out) _), (by rw [← hu]; exact Sits.new' hX)⟩
      replace B : Below w.heap.size w u2 := by rw [← hu]; exact B.alloc B.size _
      have hu' : w2.alloc (.cells #[.int .i64 Rd.zero.mn, .int .i64 Rd.zero.mx, .int .i64 Rd.zero.mp, .int .i64 Rd.zero.avg, .int .i64 Rd.zero.cnt] 24) = u2 := hu
      rw [hu', hX]
      clear hu hu' hX S2
      refine (sredOk_any r _).mono ?_
      rintro e w3 ⟨rfl, k⟩
      rw [hg]
      have b := k.1
      clear k
      have S3 : Hid (Sits w3 V (rdCells r) 24 ∧ Sits w3 X (rdCells Rd.zero) 24) := ⟨Sits.below (U2.out.1) b (Sits.lt (U2.out.1)), Sits.below (U2.out.2) b (Sits.lt (U2.out.2))⟩
      replace B := B.trans (b.mono B.size)
      clear b U2
      obtain ⟨cV0, cV1, cV2, cV3, cV4⟩ := rd_cells (S3.out.1)
      try dsimp only [Rd.zero] at cV0 cV1 cV2 cV3 cV4
      have fV := Sits.frozen (S3.out.1)
      have lV := Sits.lt (S3.out.1)
      obtain ⟨cX0, cX1, cX2, cX3, cX4⟩ := rd_cells (S3.out.2)
      try dsimp only [Rd.zero] at cX0 cX1 cX2 cX3 cX4
      have fX := Sits.frozen (S3.out.2)
      have lX := Sits.lt (S3.out.2)
      go_wp2_with fail
      clear cV0 cV1 cV2 cV3 cV4 fV lV cX0 cX1 cX2 cX3 cX4 fX lX
      refine (iredNew_any 1000 5000 6553 _).mono ?_
      rintro e w4 ⟨rfl, b⟩
      rw [new_good, if_pos rfl]
      have S4 : Hid (Sits w4 V (rdCells r) 24 ∧ Sits w4 X (rdCells Rd.zero) 24) := ⟨Sits.below (S3.out.1) b (Sits.lt (S3.out.1)), Sits.below (S3.out.2) b (Sits.lt (S3.out.2))⟩
      replace B := B.trans (b.mono B.size)
      clear b S3
      obtain ⟨cV0, cV1, cV2, cV3, cV4⟩ := rd_cells (S4.out.1)
      try dsimp only [Rd.zero] at cV0 cV1 cV2 cV3 cV4
      have fV := Sits.frozen (S4.out.1)
      have lV := Sits.lt (S4.out.1)
      obtain ⟨cX0, cX1, cX2, cX3, cX4⟩ := rd_cells (S4.out.2)
      try dsimp only [Rd.zero] at cX0 cX1 cX2 cX3 cX4
      have fX := Sits.frozen (S4.out.2)
      have lX := Sits.lt (S4.out.2)
      go_wp2_with fail
      go_ret
      exact ⟨rfl, B.alloc B.size _⟩
  case true =>
    obtain ⟨⟨hg, hb⟩, hdd⟩ : (r.good = true ∧ inR n 0 1048576 = true) ∧ inR d 0 65535 = true := by simpa [Rd.may] using hm
    obtain ⟨g1, g2, g3, g4, g5, g6, g7, g8, g9⟩ := r.good_iff.1 hg
    obtain ⟨n0, n1⟩ : 0 ≤ n ∧ n ≤ 1048576 := by simpa [inR] using hb
    obtain ⟨d0, d1⟩ : 0 ≤ d ∧ d ≤ 65535 := by simpa [inR] using hdd
    have hcg := come_good hg hb
    have GX := arrived_good hm
    obtain ⟨p, hp⟩ : ∃ p, chanceF (r.come n) = p := ⟨_, rfl⟩
    have hpb := chanceF_bd hcg
    rw [hp] at hpb
    obtain ⟨pb0, pb1⟩ := hpb
    obtain ⟨c, hc⟩ : ∃ c, cntF r n d = c := ⟨_, rfl⟩
    have hA : r.arrived n d = ⟨r.mn, r.mx, r.mp, avgF r.avg n, c⟩ := by unfold Rd.arrived; rw [if_pos hm, hc]
    have hH : hitB r n d = decide (d < p) := by unfold hitB; rw [hm, hp]; rfl
    have hcc : (p = 0 ∨ d < p) → c = 0 := fun h => by rw [← hc]; unfold cntF; rw [hp, if_pos h]
    have CX := con_arr r n d
    rw [hA, hH] at CX
    rw [hA] at GX
    have CA := avg_plain r n hg n0 n1
    have CP := con_prob ⟨r.mn, r.mx, r.mp, avgF r.avg n, r.cnt⟩ hcg
    rw [show chanceF ⟨r.mn, r.mx, r.mp, avgF r.avg n, r.cnt⟩ = p from hp] at CP
    obtain ⟨a, ha⟩ : ∃ a, avgF r.avg n = a := ⟨_, rfl⟩
    rw [ha] at CX GX CA CP
    have CX' : Hid _ := CX
    have CA' : Hid _ := CA
    have CP' : Hid _ := CP
    have GX' : Hid _ := GX
    clear CX CA CP GX hA hH hc hp hcg ha hm
    rcases (by omega : d < p ∨ (¬ d < p ∧ p = 0) ∨ (¬ d < p ∧ 0 < p)) with h1 | ⟨h1, h2⟩ | ⟨h1, h2⟩
    · have hdec : decide (d < p) = true := by simp; omega
      rw [hdec] at CX'
      have hc0 : (c == 0) = true := by simpa using hcc (by omega)
      clear hcc
      refine (CX'.out _).mono ?_
      rintro e w2 ⟨rfl, b⟩
      have S2 : Hid (Sits w2 V (rdCells r) 24) := Sits.below (U1.out) b (Sits.lt (U1.out))
      replace B := B.trans (b.mono B.size)
      clear b U1
      obtain ⟨cV0, cV1, cV2, cV3, cV4⟩ := rd_cells (S2.out)
      try dsimp only [Rd.zero] at cV0 cV1 cV2 cV3 cV4
      have fV := Sits.frozen (S2.out)
      have lV := Sits.lt (S2.out)
      go_wp2_with fail
      clear cV0 cV1 cV2 cV3 cV4 fV lV
      obtain ⟨X, hX⟩ : ∃ V, w2.heap.size = V := ⟨_, rfl⟩
      obtain ⟨u2, hu⟩ : ∃ uu, w2.alloc (.cells (rdCells ⟨r.mn, r.mx, r.mp, a, c⟩) 24) = uu := ⟨_, rfl⟩
      have nVX : V < X := by rw [← hX]; exact Sits.lt (S2.out)
      have loX : w.heap.size ≤ X := by rw [← hX]; exact B.size
      have U2 : Hid (Sits u2 V (rdCells r) 24 ∧ Sits u2 X (rdCells ⟨r.mn, r.mx, r.mp, a, c⟩) 24) := ⟨(by rw [← hu]; exact Sits.alloc (S2.out) _), (by rw [← hu]; exact Sits.new' hX)⟩
      replace B : Below w.heap.size w u2 := by rw [← hu]; exact B.alloc B.size _
      have hu' : w2.alloc (.cells #[.int .i64 r.mn, .int .i64 r.mx, .int .i64 r.mp, .int .i64 a, .int .i64 c] 24) = u2 := hu
      rw [hu', hX]
      clear hu hu' hX S2
      refine (sredOk_any r _).mono ?_
      rintro e w3 ⟨rfl, k⟩
      rw [hg]
      have b := k.1
      clear k
      have S3 : Hid (Sits w3 V (rdCells r) 24 ∧ Sits w3 X (rdCells ⟨r.mn, r.mx, r.mp, a, c⟩) 24) := ⟨Sits.below (U2.out.1) b (Sits.lt (U2.out.1)), Sits.below (U2.out.2) b (Sits.lt (U2.out.2))⟩
      replace B := B.trans (b.mono B.size)
      clear b U2
      obtain ⟨cV0, cV1, cV2, cV3, cV4⟩ := rd_cells (S3.out.1)
      try dsimp only [Rd.zero] at cV0 cV1 cV2 cV3 cV4
      have fV := Sits.frozen (S3.out.1)
      have lV := Sits.lt (S3.out.1)
      obtain ⟨cX0, cX1, cX2, cX3, cX4⟩ := rd_cells (S3.out.2)
      try dsimp only [Rd.zero] at cX0 cX1 cX2 cX3 cX4
      have fX := Sits.frozen (S3.out.2)
      have lX := Sits.lt (S3.out.2)
      go_wp2_with fail
      clear cV0 cV1 cV2 cV3 cV4 fV lV cX0 cX1 cX2 cX3 cX4 fX lX
      refine (CA'.out _).mono ?_
      rintro e w4 ⟨rfl, b⟩
      have S4 : Hid (Sits w4 V (rdCells r) 24 ∧ Sits w4 X (rdCells ⟨r.mn, r.mx, r.mp, a, c⟩) 24) := ⟨Sits.below (S3.out.1) b (Sits.lt (S3.out.1)), Sits.below (S3.out.2) b (Sits.lt (S3.out.2))⟩
      replace B := B.trans (b.mono B.size)
      clear b S3
      go_wp2_with fail
      obtain ⟨Y, hY⟩ : ∃ V, w4.heap.size = V := ⟨_, rfl⟩
      obtain ⟨u4, hu⟩ : ∃ uu, w4.alloc (.cells (rdCells ⟨r.mn, r.mx, r.mp, a, r.cnt⟩) 24) = uu := ⟨_, rfl⟩
      have nVY : V < Y := by rw [← hY]; exact Sits.lt (S4.out.1)
      have nXY : X < Y := by rw [← hY]; exact Sits.lt (S4.out.2)
      have loY : w.heap.size ≤ Y := by rw [← hY]; exact B.size
      have U4 : Hid (Sits u4 V (rdCells r) 24 ∧ Sits u4 X (rdCells ⟨r.mn, r.mx, r.mp, a, c⟩) 24 ∧ Sits u4 Y (rdCells ⟨r.mn, r.mx, r.mp, a, r.cnt⟩) 24) := ⟨(by rw [← hu]; exact Sits.alloc (S4.out.1) _), (by rw [← hu]; exact Sits.alloc (S4.out.2) _), (by rw [← hu]; exact Sits.new' hY)⟩
      replace B : Below w.heap.size w u4 := by rw [← hu]; exact B.alloc B.size _
      have hu' : w4.alloc (.cells #[.int .i64 r.mn, .int .i64 r.mx, .int .i64 r.mp, .int .i64 a, .int .i64 r.cnt] 24) = u4 := hu
      rw [hu', hY]
      clear hu hu' hY S4
      refine (CP'.out _).mono ?_
      rintro e w5 ⟨rfl, b⟩
      have S5 : Hid (Sits w5 V (rdCells r) 24 ∧ Sits w5 X (rdCells ⟨r.mn, r.mx, r.mp, a, c⟩) 24 ∧ Sits w5 Y (rdCells ⟨r.mn, r.mx, r.mp, a, r.cnt⟩) 24) := ⟨Sits.below (U4.out.1) b (Sits.lt (U4.out.1)), Sits.below (U4.out.2.1) b (Sits.lt (U4.out.2.1)), Sits.below (U4.out.2.2) b (Sits.lt (U4.out.2.2))⟩
      replace B := B.trans (b.mono B.size)
      clear b U4
      obtain ⟨cV0, cV1, cV2, cV3, cV4⟩ := rd_cells (S5.out.1)
      try dsimp only [Rd.zero] at cV0 cV1 cV2 cV3 cV4
      have fV := Sits.frozen (S5.out.1)
      have lV := Sits.lt (S5.out.1)
      obtain ⟨cX0, cX1, cX2, cX3, cX4⟩ := rd_cells (S5.out.2.1)
      try dsimp only [Rd.zero] at cX0 cX1 cX2 cX3 cX4
      have fX := Sits.frozen (S5.out.2.1)
      have lX := Sits.lt (S5.out.2.1)
      obtain ⟨cY0, cY1, cY2, cY3, cY4⟩ := rd_cells (S5.out.2.2)
      try dsimp only [Rd.zero] at cY0 cY1 cY2 cY3 cY4
      have fY := Sits.frozen (S5.out.2.2)
      have lY := Sits.lt (S5.out.2.2)
      go_wp2_with (go_at_call 10; refine (iredOk_any ⟨r.mn, r.mx, r.mp, a, c⟩ _).mono ?_; rintro e w9 ⟨rfl, k9⟩; rw [GX'.out]; have C := B.trans (k9.1.mono B.size))
      go_ret
      exact ⟨rfl, C⟩
    · have hdec : decide (d < p) = false := by simp; omega
      rw [hdec] at CX'
      have hc0 : (c == 0) = true := by simpa using hcc (by omega)
      have hp0 : ¬ 0 < p := by omega
      clear hcc h2
      refine (CX'.out _).mono ?_
      rintro e w2 ⟨rfl, b⟩
      have S2 : Hid (Sits w2 V (rdCells r) 24) := Sits.below (U1.out) b (Sits.lt (U1.out))
      replace B := B.trans (b.mono B.size)
      clear b U1
      obtain ⟨cV0, cV1, cV2, cV3, cV4⟩ := rd_cells (S2.out)
      try dsimp only [Rd.zero] at cV0 cV1 cV2 cV3 cV4
      have fV := Sits.frozen (S2.out)
      have lV := Sits.lt (S2.out)
      go_wp2_with fail
      clear cV0 cV1 cV2 cV3 cV4 fV lV
      obtain ⟨X, hX⟩ : ∃ V, w2.heap.size = V := ⟨_, rfl⟩
      obtain ⟨u2, hu⟩ : ∃ uu, w2.alloc (.cells (rdCells ⟨r.mn, r.mx, r.mp, a, c⟩) 24) = uu := ⟨_, rfl⟩
      have nVX : V < X := by rw [← hX]; exact Sits.lt (S2.out)
      have loX : w.heap.size ≤ X := by rw [← hX]; exact B.size
      have U2 : Hid (Sits u2 V (rdCells r) 24 ∧ Sits u2 X (rdCells ⟨r.mn, r.mx, r.mp, a, c⟩) 24) := ⟨(by rw [← hu]; exact Sits.alloc (S2.out) _), (by rw [← hu]; exact Sits.new' hX)⟩
      replace B : Below w.heap.size w u2 := by rw [← hu]; exact B.alloc B.size _
      have hu' : w2.alloc (.cells #[.int .i64 r.mn, .int .i64 r.mx, .int .i64 r.mp, .int .i64 a, .int .i64 c] 24) = u2 := hu
      rw [hu', hX]
      clear hu hu' hX S2
      refine (sredOk_any r _).mono ?_
      rintro e w3 ⟨rfl, k⟩
      rw [hg]
      have b := k.1
      clear k
      have S3 : Hid (Sits w3 V (rdCells r) 24 ∧ Sits w3 X (rdCells ⟨r.mn, r.mx, r.mp, a, c⟩) 24) := ⟨Sits.below (U2.out.1) b (Sits.lt (U2.out.1)), Sits.below (U2.out.2) b (Sits.lt (U2.out.2))⟩
      replace B := B.trans (b.mono B.size)
      clear b U2
      obtain ⟨cV0, cV1, cV2, cV3, cV4⟩ := rd_cells (S3.out.1)
      try dsimp only [Rd.zero] at cV0 cV1 cV2 cV3 cV4
      have fV := Sits.frozen (S3.out.1)
      have lV := Sits.lt (S3.out.1)
      obtain ⟨cX0, cX1, cX2, cX3, cX4⟩ := rd_cells (S3.out.2)
      try dsimp only [Rd.zero] at cX0 cX1 cX2 cX3 cX4
      have fX := Sits.frozen (S3.out.2)
      have lX := Sits.lt (S3.out.2)
      go_wp2_with fail
      clear cV0 cV1 cV2 cV3 cV4 fV lV cX0 cX1 cX2 cX3 cX4 fX lX
      refine (CA'.out _).mono ?_
      rintro e w4 ⟨rfl, b⟩
      have S4 : Hid (Sits w4 V (rdCells r) 24 ∧ Sits w4 X (rdCells ⟨r.mn, r.mx, r.mp, a, c⟩) 24) := ⟨Sits.below (S3.out.1) b (Sits.lt (S3.out.1)), Sits.below (S3.out.2) b (Sits.lt (S3.out.2))⟩
      replace B := B.trans (b.mono B.size)
      clear b S3
      go_wp2_with fail
      obtain ⟨Y, hY⟩ : ∃ V, w4.heap.size = V := ⟨_, rfl⟩
      obtain ⟨u4, hu⟩ : ∃ uu, w4.alloc (.cells (rdCells ⟨r.mn, r.mx, r.mp, a, r.cnt⟩) 24) = uu := ⟨_, rfl⟩
      have nVY : V < Y := by rw [← hY]; exact Sits.lt (S4.out.1)
      have nXY : X < Y := by rw [← hY]; exact Sits.lt (S4.out.2)
      have loY : w.heap.size ≤ Y := by rw [← hY]; exact B.size
      have U4 : Hid (Sits u4 V (rdCells r) 24 ∧ Sits u4 X (rdCells ⟨r.mn, r.mx, r.mp, a, c⟩) 24 ∧ Sits u4 Y (rdCells ⟨r.mn, r.mx, r.mp, a, r.cnt⟩) 24) := ⟨(by rw [← hu]; exact Sits.alloc (S4.out.1) _), (by rw [← hu]; exact Sits.alloc (S4.out.2) _), (by rw [← hu]; exact Sits.new' hY)⟩
      replace B : Below w.heap.size w u4 := by rw [← hu]; exact B.alloc B.size _
      have hu' : w4.alloc (.cells #[.int .i64 r.mn, .int .i64 r.mx, .int .i64 r.mp, .int .i64 a, .int .i64 r.cnt] 24) = u4 := hu
      rw [hu', hY]
      clear hu hu' hY S4
      refine (CP'.out _).mono ?_
      rintro e w5 ⟨rfl, b⟩
      have S5 : Hid (Sits w5 V (rdCells r) 24 ∧ Sits w5 X (rdCells ⟨r.mn, r.mx, r.mp, a, c⟩) 24 ∧ Sits w5 Y (rdCells ⟨r.mn, r.mx, r.mp, a, r.cnt⟩) 24) := ⟨Sits.below (U4.out.1) b (Sits.lt (U4.out.1)), Sits.below (U4.out.2.1) b (Sits.lt (U4.out.2.1)), Sits.below (U4.out.2.2) b (Sits.lt (U4.out.2.2))⟩
      replace B := B.trans (b.mono B.size)
      clear b U4
      obtain ⟨cV0, cV1, cV2, cV3, cV4⟩ := rd_cells (S5.out.1)
      try dsimp only [Rd.zero] at cV0 cV1 cV2 cV3 cV4
      have fV := Sits.frozen (S5.out.1)
      have lV := Sits.lt (S5.out.1)
      obtain ⟨cX0, cX1, cX2, cX3, cX4⟩ := rd_cells (S5.out.2.1)
      try dsimp only [Rd.zero] at cX0 cX1 cX2 cX3 cX4
      have fX := Sits.frozen (S5.out.2.1)
      have lX := Sits.lt (S5.out.2.1)
      obtain ⟨cY0, cY1, cY2, cY3, cY4⟩ := rd_cells (S5.out.2.2)
      try dsimp only [Rd.zero] at cY0 cY1 cY2 cY3 cY4
      have fY := Sits.frozen (S5.out.2.2)
      have lY := Sits.lt (S5.out.2.2)
      go_wp2_with (go_at_call 10; refine (iredOk_any ⟨r.mn, r.mx, r.mp, a, c⟩ _).mono ?_; rintro e w9 ⟨rfl, k9⟩; rw [GX'.out]; have C := B.trans (k9.1.mono B.size))
      go_ret
      exact ⟨rfl, C⟩
    · have hdec : decide (d < p) = false := by simp; omega
      rw [hdec] at CX'
      clear hcc
      refine (CX'.out _).mono ?_
      rintro e w2 ⟨rfl, b⟩
      have S2 : Hid (Sits w2 V (rdCells r) 24) := Sits.below (U1.out) b (Sits.lt (U1.out))
      replace B := B.trans (b.mono B.size)
      clear b U1
      obtain ⟨cV0, cV1, cV2, cV3, cV4⟩ := rd_cells (S2.out)
      try dsimp only [Rd.zero] at cV0 cV1 cV2 cV3 cV4
      have fV := Sits.frozen (S2.out)
      have lV := Sits.lt (S2.out)
      go_wp2_with fail
      clear cV0 cV1 cV2 cV3 cV4 fV lV
      obtain ⟨X, hX⟩ : ∃ V, w2.heap.size = V := ⟨_, rfl⟩
      obtain ⟨u2, hu⟩ : ∃ uu, w2.alloc (.cells (rdCells ⟨r.mn, r.mx, r.mp, a, c⟩) 24) = uu := ⟨_, rfl⟩
      have nVX : V < X := by rw [← hX]; exact Sits.lt (S2.out)
      have loX : w.heap.size ≤ X := by rw [← hX]; exact B.size
      have U2 : Hid (Sits u2 V (rdCells r) 24 ∧ Sits u2 X (rdCells ⟨r.mn, r.mx, r.mp, a, c⟩) 24) := ⟨(by rw [← hu]; exact Sits.alloc (S2.out) _), (by rw [← hu]; exact Sits.new' hX)⟩
      replace B : Below w.heap.size w u2 := by rw [← hu]; exact B.alloc B.size _
      have hu' : w2.alloc (.cells #[.int .i64 r.mn, .int .i64 r.mx, .int .i64 r.mp, .int .i64 a, .int .i64 c] 24) = u2 := hu
      rw [hu', hX]
      clear hu hu' hX S2
      refine (sredOk_any r _).mono ?_
      rintro e w3 ⟨rfl, k⟩
      rw [hg]
      have b := k.1
      clear k
      have S3 : Hid (Sits w3 V (rdCells r) 24 ∧ Sits w3 X (rdCells ⟨r.mn, r.mx, r.mp, a, c⟩) 24) := ⟨Sits.below (U2.out.1) b (Sits.lt (U2.out.1)), Sits.below (U2.out.2) b (Sits.lt (U2.out.2))⟩
      replace B := B.trans (b.mono B.size)
      clear b U2
      obtain ⟨cV0, cV1, cV2, cV3, cV4⟩ := rd_cells (S3.out.1)
      try dsimp only [Rd.zero] at cV0 cV1 cV2 cV3 cV4
      have fV := Sits.frozen (S3.out.1)
      have lV := Sits.lt (S3.out.1)
      obtain ⟨cX0, cX1, cX2, cX3, cX4⟩ := rd_cells (S3.out.2)
      try dsimp only [Rd.zero] at cX0 cX1 cX2 cX3 cX4
      have fX := Sits.frozen (S3.out.2)
      have lX := Sits.lt (S3.out.2)
      go_wp2_with fail
      clear cV0 cV1 cV2 cV3 cV4 fV lV cX0 cX1 cX2 cX3 cX4 fX lX
      refine (CA'.out _).mono ?_
      rintro e w4 ⟨rfl, b⟩
      have S4 : Hid (Sits w4 V (rdCells r) 24 ∧ Sits w4 X (rdCells ⟨r.mn, r.mx, r.mp, a, c⟩) 24) := ⟨Sits.below (S3.out.1) b (Sits.lt (S3.out.1)), Sits.below (S3.out.2) b (Sits.lt (S3.out.2))⟩
      replace B := B.trans (b.mono B.size)
      clear b S3
      go_wp2_with fail
      obtain ⟨Y, hY⟩ : ∃ V, w4.heap.size = V := ⟨_, rfl⟩
      obtain ⟨u4, hu⟩ : ∃ uu, w4.alloc (.cells (rdCells ⟨r.mn, r.mx, r.mp, a, r.cnt⟩) 24) = uu := ⟨_, rfl⟩
      have nVY : V < Y := by rw [← hY]; exact Sits.lt (S4.out.1)
      have nXY : X < Y := by rw [← hY]; exact Sits.lt (S4.out.2)
      have loY : w.heap.size ≤ Y := by rw [← hY]; exact B.size
      have U4 : Hid (Sits u4 V (rdCells r) 24 ∧ Sits u4 X (rdCells ⟨r.mn, r.mx, r.mp, a, c⟩) 24 ∧ Sits u4 Y (rdCells ⟨r.mn, r.mx, r.mp, a, r.cnt⟩) 24) := ⟨(by rw [← hu]; exact Sits.alloc (S4.out.1) _), (by rw [← hu]; exact Sits.alloc (S4.out.2) _), (by rw [← hu]; exact Sits.new' hY)⟩
      replace B : Below w.heap.size w u4 := by rw [← hu]; exact B.alloc B.size _
      have hu' : w4.alloc (.cells #[.int .i64 r.mn, .int .i64 r.mx, .int .i64 r.mp, .int .i64 a, .int .i64 r.cnt] 24) = u4 := hu
      rw [hu', hY]
      clear hu hu' hY S4
      refine (CP'.out _).mono ?_
      rintro e w5 ⟨rfl, b⟩
      have S5 : Hid (Sits w5 V (rdCells r) 24 ∧ Sits w5 X (rdCells ⟨r.mn, r.mx, r.mp, a, c⟩) 24 ∧ Sits w5 Y (rdCells ⟨r.mn, r.mx, r.mp, a, r.cnt⟩) 24) := ⟨Sits.below (U4.out.1) b (Sits.lt (U4.out.1)), Sits.below (U4.out.2.1) b (Sits.lt (U4.out.2.1)), Sits.below (U4.out.2.2) b (Sits.lt (U4.out.2.2))⟩
      replace B := B.trans (b.mono B.size)
      clear b U4
      obtain ⟨cV0, cV1, cV2, cV3, cV4⟩ := rd_cells (S5.out.1)
      try dsimp only [Rd.zero] at cV0 cV1 cV2 cV3 cV4
      have fV := Sits.frozen (S5.out.1)
      have lV := Sits.lt (S5.out.1)
      obtain ⟨cX0, cX1, cX2, cX3, cX4⟩ := rd_cells (S5.out.2.1)
      try dsimp only [Rd.zero] at cX0 cX1 cX2 cX3 cX4
      have fX := Sits.frozen (S5.out.2.1)
      have lX := Sits.lt (S5.out.2.1)
      obtain ⟨cY0, cY1, cY2, cY3, cY4⟩ := rd_cells (S5.out.2.2)
      try dsimp only [Rd.zero] at cY0 cY1 cY2 cY3 cY4
      have fY := Sits.frozen (S5.out.2.2)
      have lY := Sits.lt (S5.out.2.2)
      go_wp2_with (go_at_call 10; refine (iredOk_any ⟨r.mn, r.mx, r.mp, a, c⟩ _).mono ?_; rintro e w9 ⟨rfl, k9⟩; rw [GX'.out]; have C := B.trans (k9.1.mono B.size))
      go_ret
      exact ⟨rfl, C⟩

set_option maxRecDepth 100000 in
theorem lifted (os : Os) (started : os.Started) (H : Type) (enc : TypeId × Value → H) :
    ReturnsInHanded {} Try.checked os 3 .any (Rows.fnRedArrivesSpec.pre6 enc Try.prog Try.f3 Rows.fnRedArrivesRow.domain false) (Rows.fnRedArrivesSpec.post enc Try.prog Try.f3 false true false false) := by
  refine returnsInHanded_of_change (C := Try.checked) own started (by kernel_rfl) Try.func3
    (ChangeSpec.witness6 (enc := enc) (C := Try.checked) false ⟨#[], #[.slice none 0 0], []⟩ 8 (by kernel_rfl) (by kernel_rfl) (by kernel_rfl) (by kernel_rfl)) ?_
  intro W base args ds gs before hval0 hW hcnd _
  have hval : ∀ (j : Nat) t v, Try.f3.params[j]? = some t → args[j]? = some v → Value.okWide Try.prog W .any base t v := hval0
  have hW' := hW
  obtain ⟨p, q, hA0, hV, rfl, hfz, hnd⟩ := hW
  have hA : DataW.TrodAll enc Try.prog W 0 (fun _ => true) true Try.f3.params.toList args.toList ds p := hA0
  rw [Try.params3] at hA hval
  obtain ⟨v0, vs0, d0, ds0, p0, q0, hargs, rfl, rfl, h0, r0⟩ := trodAll_cons hA
  obtain ⟨rfl, rfl, rfl⟩ := trodAll_nil r0
  obtain rfl : args = #[v0] := by cases args; simp_all
  obtain ⟨rfl, rfl⟩ := trodVars_none hV
  obtain ⟨a0, len0, cap0, rfl⟩ := okWide_slice Try.underlying22 (hval 0 22 v0 rfl rfl)
  have k0 := h0
  have lt0 : ∀ x ∈ p0, x.block < W.heap.size := by obtain ⟨m, hm⟩ := k0; exact DataW.trod_lt m _ _ _ hm
  obtain ⟨z0, w0⟩ : ∃ zs, IsRow .u8 W a0 len0 cap0 zs := by
    obtain ⟨fuel, hf⟩ := h0
    rcases open_ints Try.underlying22 Try.underlying5 (by kernel_rfl) hf with ⟨hcs, _⟩ | ⟨x, l, c, zs, hcs, _, hl, hm, hz, _, hcell, hwz⟩
    · simp [Value.cells] at hcs
      obtain ⟨rfl, rfl, rfl⟩ := hcs
      exact ⟨[], .inl ⟨rfl, rfl, rfl, rfl⟩⟩
    · simp [Value.cells] at hcs
      obtain ⟨rfl, rfl, rfl⟩ := hcs
      exact ⟨zs, .inr ⟨_, rfl, hl, hm, by simpa using hz, hcell, hwz⟩⟩
  clear hA0 hval0
  refine (walk a0 len0 cap0 z0 W w0).mono fun e W' ⟨he, bel⟩ => ?_
  subst he
  exact ⟨_, rfl, _, _, _, [], _, [], hW', trodAll_mk1 (shut_bool Try.underlying4 _), (trodAll_cons_mk (Below.trod laidOut (by kernel_rfl) (of_decide_eq_true (by kernel_rfl)) k0 bel lt0) trodAll_mk0), rfl, bel.frame _, fun h => by cases h⟩

theorem over : Rows.fnRedArrivesRow.holds Try.pinned (OpenSpec.ofChange Rows.fnRedArrivesSpec) :=
  OpenClaim.holds_of_wide 3 Try.f3 rfl rfl rfl rfl rfl rfl rfl ⟨rfl, rfl, rfl, rfl, rfl⟩ rfl rfl rfl rfl rfl (by kernel_rfl) Try.func3 (by kernel_rfl)
    (of_decide_eq_true (by kernel_rfl)) (by unfold Func.isWrapper; first | (rw [if_pos (by decide +kernel)]; kernel_rfl) | (rw [if_neg (by decide +kernel)]; exact ⟨rfl, rfl⟩))
    (fun os started H enc _ => lifted os started H enc)

theorem proved : Rows.FnRedArrivesSaid := over
end Go.Proofs.Ytboomccnfnaboac.fnRedArrives
namespace Go.Proofs.Ytboomccnfnaboac
theorem fnRedArrives_holds : Rows.FnRedArrivesSaid := fnRedArrives.proved
#print axioms fnRedArrives_holds
end Go.Proofs.Ytboomccnfnaboac
