/-
  Whatever bytes the law FnOrders takes its segments from, where the program's error lies in its variable, it returns true and leaves the bytes as they were: six segments that come in one order or the other one leave the same receiver; no condition.
-/
import Derived.Test.YtobdnhldodknaaaDoorRows
import Derived.WalkKit
import Derived.ProofKit
import Derived.OpenShut
import Derived.Test.YtobdnhldodknaaaDoorLaidS
import Derived.Test.YtobdnhldodknaaaDoorSegY
import Derived.Test.YtobdnhldodknaaaDoorOrdN
import Derived.Test.YtobdnhldodknaaaDoorOrdI
import Derived.Deep.RegionHeld3
import Derived.Deep.Cut
import Derived.Deep.CutRange
import Derived.Deep.Slices
import Derived.ShutString
import Derived.ChangeOld
import Derived.Below
namespace Go.Proofs.YtobdnhldodknaaaDoor.fnOrders
open Go.ChangeShapes Go.WideShapes Go.ChangeAt Go.RowKit
open Go.ChangeMaps (open_string shut_string)
set_option linter.unusedVariables false

theorem own : ownKnob Tryd.prog.godebug = none := by kernel_rfl
theorem laidOut : laidOutB Tryd.prog = true := by kernel_rfl
theorem cellsInt : Tryd.prog.cellsOf 3 = 1 := by kernel_rfl

/-- A slice of integers that came in: nil, or each cell holds its number. -/
def IsRow (k : IntKind) (w : World) (a : Option Addr) (len cap : Nat) (zs : List Int) : Prop :=
  (a = none ∧ len = 0 ∧ cap = 0 ∧ zs = []) ∨ ∃ x, a = some x ∧ len ≤ cap ∧ cap ≤ maxLen ∧ zs.length = cap ∧ (∀ i, i < zs.length → w.cell? (x.add i) = some (.int k (zs.getD i 0))) ∧ ∀ n ∈ zs, (Lit.int k n).wf = true

theorem row_of {w : World} {a : Option Addr} {len cap : Nat} {zs : List Int} (h : IsRow .u8 w a len cap zs) : Row .u8 w a len (fun i => zs.getD i 0) ∧ Byt len (fun i => zs.getD i 0) ∧ len ≤ cap := by
  rcases h with ⟨rfl, rfl, rfl, rfl⟩ | ⟨x, rfl, hl, hm, hz, hcell, hwz⟩
  · exact ⟨.inl rfl, fun i hi => absurd hi (Nat.not_lt_zero _), Nat.le_refl _⟩
  · by_cases h0 : len = 0
    · subst h0
      exact ⟨.inl rfl, fun i hi => absurd hi (Nat.not_lt_zero _), hl⟩
    · obtain ⟨b, off, rfl, hc⟩ := ints_at hcell (by omega)
      refine ⟨.inr ⟨b, off, rfl, World.block_lt_of_cell? w _ (hc 0 (by omega)), fun k hk => hc k (by omega)⟩, fun k hk => ?_, hl⟩
      exact bounds_u8 (hwz (zs.getD k 0) (by rw [List.getD_eq_getElem?_getD, List.getElem?_eq_getElem (by omega)]; exact List.getElem_mem _))


/-- The segment number j. -/
def frF (A : Nat → Int) (j : Nat) : Int := A j % 40
def toF (A : Nat → Int) (j : Nat) : Int := A j % 40 + 1 + A (j + 6) % 9
theorem seg_bd {A : Nat → Int} (h : ∀ j, 0 ≤ A j ∧ A j ≤ 255) (j : Nat) : 0 ≤ frF A j ∧ frF A j < toF A j ∧ toF A j ≤ 1000000000000 := by
  unfold frF toF
  have := h j
  have := h (j + 6)
  omega
def sgP (A : Nat → Int) (j : Nat) (t : Int) : Prop := frF A j ≤ t ∧ t < toF A j
theorem sg_more {A : Nat → Int} {g : Nat → Nat} {k : Nat} {P : Int → Prop} {Q : Int → Prop} (h : ∀ t, P t ↔ ∃ j, j < k ∧ sgP A (g j) t) (hq : ∀ t, Q t ↔ P t ∨ sgP A (g k) t) : ∀ t, Q t ↔ ∃ j, j < k + 1 ∧ sgP A (g j) t := fun t => by
  rw [hq, h]
  constructor
  · rintro (⟨j, hj, hs⟩ | hs)
    · exact ⟨j, by omega, hs⟩
    · exact ⟨k, by omega, hs⟩
  · rintro ⟨j, hj, hs⟩
    by_cases e : j = k
    · subst e; exact .inr hs
    · exact .inl ⟨j, by omega, hs⟩
theorem sg_turn {A : Nat → Int} (t : Int) : (∃ j, j < 6 ∧ sgP A j t) ↔ ∃ j, j < 6 ∧ sgP A (5 - j) t := by
  constructor
  · rintro ⟨j, hj, hs⟩; exact ⟨5 - j, by omega, by rw [show 5 - (5 - j) = j by omega]; exact hs⟩
  · rintro ⟨j, hj, hs⟩; exact ⟨5 - j, by omega, hs⟩
theorem in_0 (t : Int) : inL' (pcs 0 []) t ↔ ∃ j, j < 0 ∧ False := by
  unfold pcs
  rw [inL'_one]
  constructor
  · rintro ⟨h1, h2⟩; dsimp only at h1 h2; omega
  · rintro ⟨j, hj, _⟩; omega


set_option maxRecDepth 100000 in
set_option maxHeartbeats 12000000 in
theorem walk (a0 : Option Addr) (len0 cap0 : Nat) (z0 : List Int) (w : World) (w0 : IsRow .u8 w a0 len0 cap0 z0) (hs : ErrSps w) :
    Calls Tryd.prog 4 #[.slice a0 len0 cap0] w fun e w' => e = .returned (.bool true) ∧ Below w.heap.size w w' := by
  obtain ⟨hrow, hby, hlc⟩ := row_of w0
  have hl : (len0 : Int) ≤ 9223372036854775807 := by
    rcases w0 with ⟨_, rfl, _, _⟩ | ⟨_, _, h1, h2, _⟩
    · omega
    · unfold maxLen at h2; omega
  obtain ⟨zf, hzf⟩ : ∃ zf : Nat → Int, (fun i => z0.getD i 0) = zf := ⟨_, rfl⟩
  rw [hzf] at hrow hby
  have HROW : Hid (∀ V, Below w.heap.size w V → Row .u8 V a0 len0 zf) := fun V h => hrow.below h
  have HBY : Hid (∀ j, j < len0 → 0 ≤ zf j ∧ zf j ≤ 255) := hby
  clear hzf w0 hrow hby hlc
  obtain ⟨er, her⟩ := hs
  have HER : Hid (∀ V, Below w.heap.size w V → ErrSp er V) := fun V h => ErrSp.below her h her.lt
  clear her
  obtain ⟨A, hA⟩ : ∃ A : Nat → Int, (fun i => atF zf len0 i) = A := ⟨_, rfl⟩
  have HAB : Hid (∀ j, 0 ≤ A j ∧ A j ≤ 255) := fun j => by rw [← hA]; exact atF_bd HBY.out
  have HAT : Hid (∀ (V : World) (z : Int), Below w.heap.size w V → 0 ≤ z → z ≤ 100 → Calls Tryd.prog 11 #[.slice a0 len0 cap0, .int .i64 z] V fun e w' => e = .returned (.int .i64 (A z.toNat)) ∧ w' = V) := fun V z hV hz hi => by
    have := at_any a0 len0 cap0 zf z.toNat V ((HROW.out) V hV) HBY.out hl (by omega)
    rw [show atF zf len0 z.toNat = A z.toNat by rw [← hA], Int.toNat_of_nonneg hz] at this
    exact this
  clear hA HBY HROW
  obtain ⟨W0, hW0⟩ : ∃ W, (w.alloc (.cells (rcCells 0 none 0 0) 25)).alloc (.cells (rcCells 0 none 0 0) 25) = W := ⟨_, rfl⟩
  have B0 : Below w.heap.size w W0 := by rw [← hW0]; exact ((Below.refl _ w).alloc (Nat.le_refl _) _).alloc (by simp) _
  have HSA : Hid (Sits W0 w.heap.size (rcCells 0 none 0 0) 25) := by rw [← hW0]; exact (Sits.new _ _ _).alloc _
  have HSB : Hid (Sits W0 (w.heap.size + 1) (rcCells 0 none 0 0) 25) := by rw [← hW0]; exact Sits.new' (by simp)
  have HB0 : Hid (Below w.heap.size w W0) := B0
  have HW0 : Hid ((w.alloc (.cells (rcCells 0 none 0 0) 25)).alloc (.cells (rcCells 0 none 0 0) 25) = W0) := hW0
  clear B0 hW0
  go_enter Tryd.func4, Tryd.ntmps4
  go_upto_region 2 with fail
  change Code.wp _ _ _ _ ((w.alloc (.cells (rcCells 0 none 0 0) 25)).alloc (.cells (rcCells 0 none 0 0) 25))
  rw [HW0.out]
  clear HW0
  go_wp2
  go_loopw [5] (fun i wr => ∃ (k : Nat) (nA nB : Int) (LA LB : List Sp) (xA xB : Option Addr) (cA cB : Nat), k ≤ 6 ∧ i = .int .i64 k ∧ Sits wr w.heap.size (rcCells nA xA LA.length cA) 25 ∧ Sits wr (w.heap.size + 1) (rcCells nB xB LB.length cB) 25 ∧ OS (w.heap.size + 1 + 1) wr xA cA LA ∧ OS (w.heap.size + 1 + 1) wr xB cB LB ∧ Rv nA LA ∧ Rv nB LB ∧ LA.length ≤ k ∧ LB.length ≤ k ∧ (∀ t, inL' (pcs nA LA) t ↔ ∃ j, j < k ∧ sgP A j t) ∧ (∀ t, inL' (pcs nB LB) t ↔ ∃ j, j < k ∧ sgP A (5 - j) t) ∧ Below w.heap.size w wr) (fun i _ => 6 - (intOf i).toNat)
  case atStart => exact ⟨0, 0, 0, [], [], none, none, 0, 0, by omega, rfl, HSA.out, HSB.out, World.ownsRow_nil _ _ _ _, World.ownsRow_nil _ _ _ _, ⟨by omega, by omega, trivial⟩, ⟨by omega, by omega, trivial⟩, by simp, by simp, fun t => (in_0 t).trans ⟨fun ⟨j, hj, _⟩ => absurd hj (Nat.not_lt_zero _), fun ⟨j, hj, _⟩ => absurd hj (Nat.not_lt_zero _)⟩, fun t => (in_0 t).trans ⟨fun ⟨j, hj, _⟩ => absurd hj (Nat.not_lt_zero _), fun ⟨j, hj, _⟩ => absurd hj (Nat.not_lt_zero _)⟩, HB0.out⟩
  case round =>
    obtain ⟨k, nA, nB, LA, LB, xA, xB, cA, cB, hk, rfl, sA, sB, oA, oB, rA, rB, lA, lB, iA, iB, hB⟩ := hrel
    have HIA : Hid (∀ t, inL' (pcs nA LA) t ↔ ∃ j, j < k ∧ sgP A j t) := iA
    have HIB : Hid (∀ t, inL' (pcs nB LB) t ↔ ∃ j, j < k ∧ sgP A (5 - j) t) := iB
    have HRA : Hid (Rv nA LA) := rA
    have HRB : Hid (Rv nB LB) := rB
    have HB : Hid (Below w.heap.size w wr) := hB
    have HOA : Hid (OS (w.heap.size + 1 + 1) wr xA cA LA) := oA
    have HOB : Hid (OS (w.heap.size + 1 + 1) wr xB cB LB) := oB
    have HA : Hid (Sits wr w.heap.size (rcCells nA xA LA.length cA) 25) := sA
    have HSBX : Hid (Sits wr (w.heap.size + 1) (rcCells nB xB LB.length cB) 25) := sB
    have hsz := hB.size
    have hlB := sB.lt
    clear iA iB rA rB hB oA oB HSA HSB HB0
    by_cases hlt : k < 6
    · obtain ⟨a0', a1'⟩ := rc_cells sA
      clear sA sB
      have hkb : (k : Int) < 6 := by omega
      have HK : Hid (LA.length ≤ k ∧ LB.length ≤ k ∧ k < 6) := ⟨lA, lB, hlt⟩
      have bA1 := (HAB.out) k
      have bA2 := (HAB.out) (k + 6)
      have bA1 := (HAB.out) (k)
      have bA2 := (HAB.out) (k + 6)
      obtain ⟨F, hF⟩ : ∃ F, A (k) = F := ⟨_, rfl⟩
      obtain ⟨G, hG⟩ : ∃ G, A (k + 6) = G := ⟨_, rfl⟩
      rw [hF] at bA1
      rw [hG] at bA2
      have w1 : IntKind.i64.wrap ((k : Int) + 6) = (k : Int) + 6 := by rw [IntKind.wrap_i64]; omega
      have w2 : IntKind.i64.wrap (F % 40) = F % 40 := by rw [IntKind.wrap_i64]; omega
      have w3 : IntKind.i64.wrap (F % 40 + 1) = F % 40 + 1 := by rw [IntKind.wrap_i64]; omega
      have w4 : IntKind.i64.wrap (F % 40 + 1 + G % 9) = F % 40 + 1 + G % 9 := by rw [IntKind.wrap_i64]; omega
      have w5' : IntKind.i64.wrap (G % 9) = G % 9 := by rw [IntKind.wrap_i64]; omega
      have r1 : Int.tmod F 40 = F % 40 := Int.tmod_eq_emod_of_nonneg bA1.1
      have r2 : Int.tmod G 9 = G % 9 := Int.tmod_eq_emod_of_nonneg bA2.1
      have T1 : Hid (A ((k : Int) : Int).toNat = F) := by show _ = _; rw [show ((k : Int) : Int).toNat = k by omega]; exact hF
      have T2 : Hid (A ((k : Int) + 6 : Int).toNat = G) := by show _ = _; rw [show ((k : Int) + 6 : Int).toNat = k + 6 by omega]; exact hG
      have hfr : frF A (k) = F % 40 := by unfold frF; rw [hF]
      have hto : toF A (k) = F % 40 + 1 + G % 9 := by unfold toF; rw [hF, hG]
      obtain ⟨k1, k2, k3, k4⟩ := @seg_next nA (frF A (k)) (toF A (k)) LA HRA.out (by omega) (seg_bd HAB.out (k)).1 (seg_bd HAB.out (k)).2.1 (seg_bd HAB.out (k)).2.2
      obtain ⟨Na, hN⟩ : ∃ N, outN nA (lf LA) LA.length (frF A (k)) (toF A (k)) = N := ⟨_, rfl⟩
      obtain ⟨Ma, hM⟩ : ∃ N, outL nA (lf LA) LA.length (frF A (k)) (toF A (k)) = N := ⟨_, rfl⟩
      obtain ⟨Qa, hQ⟩ : ∃ N, outM nA (lf LA) LA.length (frF A (k)) (toF A (k)) = N := ⟨_, rfl⟩
      rw [hN, hM] at k1 k4
      rw [hM] at k2
      have HRa : Hid (Rv Na Ma) := k1
      have HLNa : Hid (Ma.length ≤ LA.length + 1) := k2
      have HINa : Hid (∀ t, inL' (pcs Na Ma) t ↔ inL' (pcs nA LA) t ∨ sgP A (k) t) := k4
      have HI : Hid (∀ V, Below wr.heap.size wr V → Calls Tryd.prog 6 #[.agg #[.int .i64 nA, .slice xA LA.length cA], .int .i64 (F % 40), .int .i64 (F % 40 + 1 + G % 9)] V fun e w' => ∃ (x : Option Addr) (cap : Nat), e = .returned (.tuple #[.agg #[.int .i64 Na, .slice x Ma.length cap], .int .i64 Qa, .bool true]) ∧ OS V.heap.size w' x cap Ma ∧ Below V.heap.size V w') := fun V hV => by
        have hb := (HB.out).trans (hV.mono (HB.out).size)
        have hsr : SR V.heap.size V xA LA.length (lf LA) := ZS.sr (OS.zs (OS.below HOA.out hV))
        have := irecvSeg_any nA xA LA.length cA (lf LA) (frF A (k)) (toF A (k)) er V hsr (by omega) ((HER.out) V hb)
        rw [hN, hM, hQ, k3, hfr, hto] at this
        exact this
      clear hN hM hQ k1 k2 k3 k4 hfr hto hF hG
      have hz5 : wr.heap.size ≤ wr.heap.size := Nat.le_refl _
      have HBB : Hid (∀ V, Below wr.heap.size wr V → Below w.heap.size w V) := fun V h => (HB.out).trans (h.mono (HB.out).size)
      have HSK : Hid (∀ V, Below wr.heap.size wr V → V.cell? ⟨w.heap.size, 0, none⟩ = some (.int .i64 nA) ∧ V.cell? ⟨w.heap.size, 1, none⟩ = some (.slice xA LA.length cA)) := fun V hV => rc_cells (Sits.below HA.out hV (by omega))
      go_upto_region 5 with fail
      go_cut [6, 7, 8] from 14 to 69 (fun v6 v7 v8 wx => ∃ (V : Nat) (x : Option Addr) (c : Nat), v6 = .pointer (some ⟨V, 0, none⟩) ∧ v7 = .int .i64 Qa ∧ v8 = .bool true ∧ wr.heap.size ≤ V ∧ Sits wx V (rcCells Na x Ma.length c) 25 ∧ OS wr.heap.size wx x c Ma ∧ Below wr.heap.size wr wx)
      case first =>
        set_option maxRecDepth 100000 in go_region_held3 (fun w' => w'.cell? ⟨w.heap.size, 0, none⟩ = some (.int .i64 nA) ∧ w'.cell? ⟨w.heap.size, 1, none⟩ = some (.slice xA LA.length cA)) ((refine HSK.out _ ?_; first | exact hb5 | exact hb5.alloc hb5.size _ | (refine Below.setCell (Below.setCell hb5 ?_ _) ?_ _ <;> (show wr.heap.size ≤ _; omega)) | (refine Below.setCell (Below.setCell (Below.alloc hb5 ?_ _) ?_ _) ?_ _ <;> (have := hb5.size; show wr.heap.size ≤ _; omega)) | go_grown)) (first | (go_at_call 11; refine ((HAT.out) _ _ ((HBB.out) _ (by go_grown)) (by omega) (by omega)).mono ?_; rintro e w9 ⟨rfl, hw9⟩; replace hw9 := hw9.symm; subst hw9; (first | rw [T1.out] | rw [T2.out])) | (go_at_call 6; refine ((HI.out) _ (by go_grown)).mono ?_; rintro e w5 ⟨x5, c5, rfl, ho5, b5⟩; have hb5 : Below wr.heap.size wr w5 := Below.trans (by go_grown) (b5.mono (by simp)); (first | (have s5 : Sits w5 wr.heap.size (rcCells 0 none 0 0) 25 := Sits.below (Sits.new wr.drew _ _) b5 (by simp); obtain ⟨p0, p1⟩ := rc_cells s5; have fz := s5.frozen) | skip)))
        all_goals
          go_wp2
          go_meet
          case rel => first | exact ⟨w5.heap.size, x5, c5, rfl, rfl, rfl, hb5.size, Sits.new _ _ _, OS.below ho5 ((Below.refl _ _).alloc (Nat.le_refl _) _), hb5.alloc hb5.size _⟩ | exact ⟨wr.heap.size, x5, c5, rfl, rfl, rfl, Nat.le_refl _, Sits.set (Sits.set s5 0 _) 1 _, OS.mono (OS.far (OS.far ho5 (by simp) _ _) (by simp) _ _) (by simp), (hb5.setCell (Nat.le_refl _) _).setCell (Nat.le_refl _) _⟩
      case rest =>
        obtain ⟨VA, xa, ca, rfl, rfl, rfl, hVA, sVA, oVA, bVA⟩ := hcut
        obtain ⟨wd, rfl⟩ : ∃ W, W = wc := ⟨wc, rfl⟩
        have HBc : Hid (Below w.heap.size w wd) := (HB.out).trans (bVA.mono (HB.out).size)
        have HAc : Hid (Sits wd w.heap.size (rcCells nA xA LA.length cA) 25) := Sits.below HA.out bVA (by omega)
        have HSBc : Hid (Sits wd (w.heap.size + 1) (rcCells nB xB LB.length cB) 25) := Sits.below HSBX.out bVA (by omega)
        have HOBc : Hid (OS (w.heap.size + 1 + 1) wd xB cB LB) := OS.below HOB.out bVA
        have HVA : Hid (Sits wd VA (rcCells Na xa Ma.length ca) 25) := sVA
        have HOVA : Hid (OS (w.heap.size + 1 + 1) wd xa ca Ma) := OS.mono oVA (by omega)
        have hszc := (HBc.out).size
        have hlc := Sits.lt HSBc.out
        have hlVA := sVA.lt
        have hww := bVA.size
        clear sVA oVA bVA a0' a1' HI HSK HBB hz5 T1 T2 w1 w2 w3 w4 w5' r1 r2 bA1 bA2 HA HSBX HOB
        obtain ⟨m, hm⟩ : ∃ m : Nat, 5 - k = m := ⟨_, rfl⟩
        have hmi : (5 : Int) - (k : Int) = (m : Int) := by omega
        have hmb : (m : Int) ≤ 5 := by omega
        have hmw : IntKind.i64.wrap (m : Int) = (m : Int) := by rw [IntKind.wrap_i64]; omega
        have HM5 : Hid (5 - k = m) := hm
        clear hm
        have bA1 := (HAB.out) (m)
        have bA2 := (HAB.out) (m + 6)
        obtain ⟨F, hF⟩ : ∃ F, A (m) = F := ⟨_, rfl⟩
        obtain ⟨G, hG⟩ : ∃ G, A (m + 6) = G := ⟨_, rfl⟩
        rw [hF] at bA1
        rw [hG] at bA2
        have w1 : IntKind.i64.wrap ((m : Int) + 6) = (m : Int) + 6 := by rw [IntKind.wrap_i64]; omega
        have w2 : IntKind.i64.wrap (F % 40) = F % 40 := by rw [IntKind.wrap_i64]; omega
        have w3 : IntKind.i64.wrap (F % 40 + 1) = F % 40 + 1 := by rw [IntKind.wrap_i64]; omega
        have w4 : IntKind.i64.wrap (F % 40 + 1 + G % 9) = F % 40 + 1 + G % 9 := by rw [IntKind.wrap_i64]; omega
        have w5' : IntKind.i64.wrap (G % 9) = G % 9 := by rw [IntKind.wrap_i64]; omega
        have r1 : Int.tmod F 40 = F % 40 := Int.tmod_eq_emod_of_nonneg bA1.1
        have r2 : Int.tmod G 9 = G % 9 := Int.tmod_eq_emod_of_nonneg bA2.1
        have T1 : Hid (A ((m : Int) : Int).toNat = F) := by show _ = _; rw [show ((m : Int) : Int).toNat = m by omega]; exact hF
        have T2 : Hid (A ((m : Int) + 6 : Int).toNat = G) := by show _ = _; rw [show ((m : Int) + 6 : Int).toNat = m + 6 by omega]; exact hG
        have hfr : frF A (m) = F % 40 := by unfold frF; rw [hF]
        have hto : toF A (m) = F % 40 + 1 + G % 9 := by unfold toF; rw [hF, hG]
        obtain ⟨k1, k2, k3, k4⟩ := @seg_next nB (frF A (m)) (toF A (m)) LB HRB.out (by omega) (seg_bd HAB.out (m)).1 (seg_bd HAB.out (m)).2.1 (seg_bd HAB.out (m)).2.2
        obtain ⟨Nb, hN⟩ : ∃ N, outN nB (lf LB) LB.length (frF A (m)) (toF A (m)) = N := ⟨_, rfl⟩
        obtain ⟨Mb, hM⟩ : ∃ N, outL nB (lf LB) LB.length (frF A (m)) (toF A (m)) = N := ⟨_, rfl⟩
        obtain ⟨Qb, hQ⟩ : ∃ N, outM nB (lf LB) LB.length (frF A (m)) (toF A (m)) = N := ⟨_, rfl⟩
        rw [hN, hM] at k1 k4
        rw [hM] at k2
        have HRb : Hid (Rv Nb Mb) := k1
        have HLNb : Hid (Mb.length ≤ LB.length + 1) := k2
        have HINb : Hid (∀ t, inL' (pcs Nb Mb) t ↔ inL' (pcs nB LB) t ∨ sgP A (m) t) := k4
        have HI : Hid (∀ V, Below wd.heap.size wd V → Calls Tryd.prog 6 #[.agg #[.int .i64 nB, .slice xB LB.length cB], .int .i64 (F % 40), .int .i64 (F % 40 + 1 + G % 9)] V fun e w' => ∃ (x : Option Addr) (cap : Nat), e = .returned (.tuple #[.agg #[.int .i64 Nb, .slice x Mb.length cap], .int .i64 Qb, .bool true]) ∧ OS V.heap.size w' x cap Mb ∧ Below V.heap.size V w') := fun V hV => by
          have hb := (HBc.out).trans (hV.mono (HBc.out).size)
          have hsr : SR V.heap.size V xB LB.length (lf LB) := ZS.sr (OS.zs (OS.below HOBc.out hV))
          have := irecvSeg_any nB xB LB.length cB (lf LB) (frF A (m)) (toF A (m)) er V hsr (by omega) ((HER.out) V hb)
          rw [hN, hM, hQ, k3, hfr, hto] at this
          exact this
        clear hN hM hQ k1 k2 k3 k4 hfr hto hF hG
        have HBB : Hid (∀ V, Below wd.heap.size wd V → Below w.heap.size w V) := fun V h => (HBc.out).trans (h.mono (HBc.out).size)
        have HSK : Hid (∀ V, Below wd.heap.size wd V → V.cell? ⟨w.heap.size + 1, 0, none⟩ = some (.int .i64 nB) ∧ V.cell? ⟨w.heap.size + 1, 1, none⟩ = some (.slice xB LB.length cB)) := fun V hV => rc_cells (Sits.below HSBc.out hV (by omega))
        obtain ⟨b0', b1'⟩ := rc_cells HSBc.out
        go_upto_region 7 with fail
        go_cut [10, 11, 12] from 14 to 69 (fun v6 v7 v8 wx => ∃ (V : Nat) (x : Option Addr) (c : Nat), v6 = .pointer (some ⟨V, 0, none⟩) ∧ v7 = .int .i64 Qb ∧ v8 = .bool true ∧ wd.heap.size ≤ V ∧ Sits wx V (rcCells Nb x Mb.length c) 25 ∧ OS wd.heap.size wx x c Mb ∧ Below wd.heap.size wd wx)
        case first =>
          set_option maxRecDepth 100000 in go_region_held3 (fun w' => w'.cell? ⟨w.heap.size + 1, 0, none⟩ = some (.int .i64 nB) ∧ w'.cell? ⟨w.heap.size + 1, 1, none⟩ = some (.slice xB LB.length cB)) ((refine HSK.out _ ?_; first | exact hb5 | exact hb5.alloc hb5.size _ | (refine Below.setCell (Below.setCell hb5 ?_ _) ?_ _ <;> (show wd.heap.size ≤ _; omega)) | (refine Below.setCell (Below.setCell (Below.alloc hb5 ?_ _) ?_ _) ?_ _ <;> (have := hb5.size; show wd.heap.size ≤ _; omega)) | go_grown)) (first | (go_at_call 11; refine ((HAT.out) _ _ ((HBB.out) _ (by go_grown)) (by omega) (by omega)).mono ?_; rintro e w9 ⟨rfl, hw9⟩; replace hw9 := hw9.symm; subst hw9; (first | rw [T1.out] | rw [T2.out])) | (go_at_call 6; refine ((HI.out) _ (by go_grown)).mono ?_; rintro e w5 ⟨x5, c5, rfl, ho5, b5⟩; have hb5 : Below wd.heap.size wd w5 := Below.trans (by go_grown) (b5.mono (by simp)); (first | (have s5 : Sits w5 wd.heap.size (rcCells 0 none 0 0) 25 := Sits.below (Sits.new wd.drew _ _) b5 (by simp); obtain ⟨p0, p1⟩ := rc_cells s5; have fz := s5.frozen) | skip)))
          all_goals
            go_wp2
            go_meet
            case rel => first | exact ⟨w5.heap.size, x5, c5, rfl, rfl, rfl, hb5.size, Sits.new _ _ _, OS.below ho5 ((Below.refl _ _).alloc (Nat.le_refl _) _), hb5.alloc hb5.size _⟩ | exact ⟨wd.heap.size, x5, c5, rfl, rfl, rfl, Nat.le_refl _, Sits.set (Sits.set s5 0 _) 1 _, OS.mono (OS.far (OS.far ho5 (by simp) _ _) (by simp) _ _) (by simp), (hb5.setCell (Nat.le_refl _) _).setCell (Nat.le_refl _) _⟩
        case rest =>
          obtain ⟨VB, xb, cb, rfl, rfl, rfl, hVB, sVB, oVB, bVB⟩ := hcut
          have HBd : Hid (Below w.heap.size w wc) := (HBc.out).trans (bVB.mono (HBc.out).size)
          have sA := Sits.below HAc.out bVB (by omega)
          have sB := Sits.below HSBc.out bVB (by omega)
          have sVA := Sits.below HVA.out bVB hlVA
          have HOVAd : Hid (OS (w.heap.size + 1 + 1) wc xa ca Ma) := OS.below HOVA.out bVB
          have HOVB : Hid (OS (w.heap.size + 1 + 1) wc xb cb Mb) := OS.mono oVB (by omega)
          have HSA1 : Hid (Sits wc w.heap.size (rcCells nA xA LA.length cA) 25) := sA
          have HSB1 : Hid (Sits wc (w.heap.size + 1) (rcCells nB xB LB.length cB) 25) := sB
          obtain ⟨p0, p1⟩ := rc_cells sA
          obtain ⟨q0, q1⟩ := rc_cells sB
          obtain ⟨y0, y1⟩ := rc_cells sVA
          obtain ⟨u0', u1'⟩ := rc_cells sVB
          have fA := sA.frozen
          have fB := sB.frozen
          have hlVB := sVB.lt
          have hlA1 := sVA.lt
          have n1 : ¬ VA = w.heap.size := by omega
          have n2 : ¬ VB = w.heap.size := by omega
          have n3 : ¬ w.heap.size = VB := by omega
          have n4 : ¬ w.heap.size + 1 = VB := by omega
          clear sA sB sVA sVB oVB bVB b0' b1' HI HSK HBB T1 T2 w1 w2 w3 w4 w5' r1 r2 bA1 bA2 hmi hmw
          go_wp2
          go_roundw
          case rel => exact ⟨k + 1, Na, Nb, Ma, Mb, xa, xb, ca, cb, by omega, by go_num, Sits.other (Sits.other (Sits.set (Sits.set HSA1.out 0 _) 1 _) (by omega) _) (by omega) _, Sits.set (Sits.set (Sits.other (Sits.other HSB1.out (by omega) _) (by omega) _) 0 _) 1 _, OS.far (OS.far (OS.far (OS.far HOVAd.out (by omega) _ _) (by omega) _ _) (by omega) _ _) (by omega) _ _, OS.far (OS.far (OS.far (OS.far HOVB.out (by omega) _ _) (by omega) _ _) (by omega) _ _) (by omega) _ _, HRa.out, HRb.out, by have := HLNa.out; omega, by have := HLNb.out; omega, sg_more (g := fun j => j) HIA.out HINa.out, sg_more (g := fun j => 5 - j) HIB.out (by rw [HM5.out]; exact HINb.out), (((Below.setCell HBd.out (by show w.heap.size ≤ w.heap.size; omega) _).setCell (by show w.heap.size ≤ w.heap.size; omega) _).setCell (by show w.heap.size ≤ w.heap.size + 1; omega) _).setCell (by show w.heap.size ≤ w.heap.size + 1; omega) _⟩
          case measure => simp [intOf]; omega
    · obtain rfl : k = 6 := by omega
      have hrv := rv_eq HRA.out HRB.out (fun t => ((HIA.out) t).trans ((sg_turn t).trans ((HIB.out) t).symm))
      obtain ⟨e1, e2⟩ := hrv
      subst e1 e2
      obtain ⟨p0, p1⟩ := rc_cells sA
      obtain ⟨q0, q1⟩ := rc_cells sB
      have hSA : SR wr.heap.size wr xA LA.length (lf LA) := ZS.sr (OS.zs HOA.out)
      have hSB : SR wr.heap.size wr xB LA.length (lf LA) := ZS.sr (OS.zs HOB.out)
      have HSA : Hid (SR wr.heap.size wr xA LA.length (lf LA)) := hSA
      have HSB : Hid (SR wr.heap.size wr xB LA.length (lf LA)) := hSB
      clear hSA hSB sA sB HIA HIB HRA HRB HOA HOB
      have hlA6 : (LA.length : Int) ≤ 6 := by omega
      go_wp2
      obtain ⟨wz, rfl⟩ : ∃ W, W = wr := ⟨wr, rfl⟩
      go_loopw [13] (fun i wq => ∃ m : Nat, m ≤ LA.length ∧ i = .int .i64 m ∧ Below wz.heap.size wz wq) (fun i _ => LA.length - (intOf i).toNat)
      case atStart => exact ⟨0, Nat.zero_le _, rfl, Below.refl _ _⟩
      case round =>
        obtain ⟨m, hm, rfl, hq⟩ := hrel
        have HQ : Hid (Below wz.heap.size wz wr) := hq
        obtain ⟨g0, g1⟩ := rc_cells (Sits.below HA.out hq (by omega))
        obtain ⟨i0, i1⟩ := rc_cells (Sits.below HSBX.out hq (by omega))
        have hmb : (m : Int) ≤ 6 := by omega
        by_cases hlt2 : m < LA.length
        · obtain ⟨b, off, hbe, hbl, hcs⟩ := SR.at HSA.out hlt2
          obtain ⟨b2, off2, hbe2, hbl2, hcs2⟩ := SR.at HSB.out hlt2
          obtain ⟨c0, c1⟩ := (hcs m hlt2).below hq hbl
          obtain ⟨d0, d1⟩ := (hcs2 m hlt2).below hq hbl2
          rw [hbe] at g1
          rw [hbe2] at i1
          clear hcs hcs2 hq p0 p1 q0 q1 hbe hbe2
          go_wp2
          go_region
          go_wp2
          go_roundw
          case rel => exact ⟨m + 1, by omega, by go_num, (HQ.out).drew⟩
          case measure => simp [intOf]; omega
        · obtain rfl : m = LA.length := by omega
          clear hq p0 p1 q0 q1
          go_wp2
          go_ret
          exact ⟨rfl, (HB.out).trans ((HQ.out).mono (HB.out).size)⟩

section
variable {H : Type} {enc : TypeId × Value → H} {W : World} {base : Nat} {sp : Nat → Bool} {held : Bool}

set_option maxRecDepth 100000 in
theorem openInt {n : Nat} {c : Value} {y : DataW H × List MemPlace} (h : DataW.trod enc Tryd.prog W base sp held n 3 [c] = some y) : ∃ z : Int, c = .int .i64 z ∧ (-9223372036854775808 ≤ z ∧ z ≤ 9223372036854775807) := by
  obtain ⟨z, h1, _, hw⟩ := DataW.trod_int Tryd.underlying3 h
  simp only [List.cons.injEq, and_true] at h1
  exact ⟨z, h1, bd hw⟩

end

set_option maxRecDepth 100000 in
theorem lifted (os : Os) (started : os.Started) (H : Type) (enc : TypeId × Value → H) :
    ReturnsInHanded {} Tryd.checked os 4 .any (fun w args => (Rows.fnOrdersSpec.pre enc Tryd.prog Tryd.f4 [] false w args ∧ laidMetH Tryd.prog Rows.fnOrdersRow.laid w) ∧ sizedMet enc Tryd.prog Tryd.f4 (OpenSpec.ofChange Rows.fnOrdersSpec) false w args)
      (Rows.fnOrdersSpec.post enc Tryd.prog Tryd.f4 false true false false) := by
  refine returnsInHanded_of_change_and (C := Tryd.checked) (X := fun w _ => laidMetH Tryd.prog Rows.fnOrdersRow.laid w) (fun _ _ _ hh h => h.of_heap hh) own started (by kernel_rfl) Tryd.func4
    (ChangeSpec.witness_shaped (enc := enc) (C := Tryd.checked) (os := os) (X := fun w _ => laidMetH Tryd.prog Rows.fnOrdersRow.laid w) false (World.doorLaid Tryd.prog 400 os) #[.slice none 0 0] 8 rfl (World.shaped_of_RefB (by kernel_rfl) (by kernel_rfl)) (by kernel_rfl) (by kernel_rfl) (by kernel_rfl) (door_met os _)) ?_
  intro W base args ds gs before hval0 hW _ _ hL _
  have hval : ∀ (j : Nat) t v, Tryd.f4.params[j]? = some t → args[j]? = some v → Value.okWide Tryd.prog W .any base t v := hval0
  have hW' := hW
  obtain ⟨p, q, hA0, hV0, rfl, hfz, hnd⟩ := hW
  have hA : DataW.TrodAll enc Tryd.prog W 0 (fun _ => true) true Tryd.f4.params.toList args.toList ds p := hA0
  have hV : DataW.TrodVars enc Tryd.prog W (fun _ => true) ["loop.example/g00453/impl.errNoSpan"] gs q := hV0
  have hV1 := hV
  rw [Tryd.params4] at hA hval
  obtain ⟨v0, vs0, d0, ds0, p0, q0, hargs, rfl, rfl, h0, tl0⟩ := trodAll_cons hA
  obtain ⟨rfl, rfl, rfl⟩ := trodAll_nil tl0
  obtain rfl : args = #[v0] := by cases args; simp_all
  obtain ⟨gg, tt, gcs, gfuel, gd, gp, rfl, _⟩ := trodVars_one hV1
  have k0 := h0
  have lt0 : ∀ x ∈ p0, x.block < W.heap.size := by obtain ⟨m, hm⟩ := k0; exact DataW.trod_lt m _ _ _ hm
  obtain ⟨a0, len0, cap0, rfl⟩ := okWide_slice Tryd.underlying22 (hval 0 22 v0 rfl rfl)
  obtain ⟨z0, hin0⟩ : ∃ zs, IsRow .u8 W a0 len0 cap0 zs := by
    obtain ⟨fuel, hf⟩ := h0
    rcases open_ints Tryd.underlying22 Tryd.underlying5 (by kernel_rfl) hf with ⟨hcs, _⟩ | ⟨x, l, c, zs, hcs, _, hl, hm, hz, _, hcell, hwz⟩
    · simp [Value.cells] at hcs
      obtain ⟨rfl, rfl, rfl⟩ := hcs
      exact ⟨[], .inl ⟨rfl, rfl, rfl, rfl⟩⟩
    · simp [Value.cells] at hcs
      obtain ⟨rfl, rfl, rfl⟩ := hcs
      exact ⟨zs, .inr ⟨_, rfl, hl, hm, by simpa using hz, hcell, hwz⟩⟩
  clear hA0 hV0 hval0
  refine (walk a0 len0 cap0 z0 W hin0 (errs_of hL)).mono fun e W' ⟨he, bel⟩ => ?_
  subst he
  exact ⟨_, rfl, _, _, _, [], _, _, hW', trodAll_mk1 (shut_bool Tryd.underlying4 _), (trodAll_cons_mk (Below.trod laidOut (by kernel_rfl) (of_decide_eq_true (by kernel_rfl)) k0 bel lt0) trodAll_mk0), Below.trodVars laidOut bel (by kernel_rfl) hV, bel.frame _, fun h => by cases h⟩

theorem over : Rows.FnOrdersSaid :=
  OpenClaim.holds_of_wide 4 Tryd.f4 rfl rfl rfl rfl rfl rfl rfl ⟨rfl, rfl, rfl, rfl, rfl⟩ rfl rfl rfl rfl rfl (by kernel_rfl) Tryd.func4 (by kernel_rfl)
    (of_decide_eq_true (by kernel_rfl)) (by unfold Func.isWrapper; first | (rw [if_pos (by decide +kernel)]; kernel_rfl) | (rw [if_neg (by decide +kernel)]; exact ⟨rfl, rfl⟩))
    (fun os started H enc _ => lifted os started H enc)

theorem plain (f : FuncId) (fn : Func) (hf : Tryd.pinned.checked.prog.funcNamed "loop.example/g00453/laws.FnOrders" = some f) (hfn : Tryd.pinned.checked.prog.funcs[f]? = some fn) :
    false = Tryd.pinned.checked.prog.looks [] ∧ ∀ (j : Nat) t, fn.params[j]? = some t → Tryd.pinned.checked.prog.wantsStandIn t = false := by
  obtain rfl : f = 4 := Option.some.inj ((show Tryd.prog.funcNamed "loop.example/g00453/laws.FnOrders" = some 4 by kernel_rfl).symm.trans hf) |>.symm
  obtain rfl : fn = Tryd.f4 := (Option.some.inj (Tryd.func4.symm.trans hfn)).symm
  refine ⟨by kernel_rfl, fun j t ht => ?_⟩
  rw [Tryd.params4] at ht
  have hm := Array.mem_of_getElem? ht
  have hall : (Tryd.f4.params.toList.all fun u => !Tryd.prog.wantsStandIn u) = true := by kernel_rfl
  rw [Tryd.params4] at hall
  exact (show Tryd.prog.wantsStandIn t = false by simpa using List.all_eq_true.1 hall t (by simpa using hm))

theorem proved : Rows.FnOrdersCardSaid :=
  Claim7.holds_tied_plain_at .later [] _ _ _ _ over (fun _ h => by cases h) (by kernel_rfl) (fun _ h => by cases h) fnOrders_row_tie rfl ⟨rfl, rfl⟩ (by kernel_rfl) rfl plain (by kernel_rfl)
end Go.Proofs.YtobdnhldodknaaaDoor.fnOrders
namespace Go.Proofs.YtobdnhldodknaaaDoor
theorem fnOrders_holds : Rows.FnOrdersCardSaid := fnOrders.proved
#print axioms fnOrders_holds
end Go.Proofs.YtobdnhldodknaaaDoor
