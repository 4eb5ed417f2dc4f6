/-
  A SERVICE OF THE PROGRAM: serviceOf.
-/
import Derived.Test.YtdhdigjghchdjaaFatL
import Derived.Deep.RegionHeld3
import Derived.Deep.Cut
namespace Go.Proofs.Ytdhdigjghchdjaa
open Go.RowKit
set_option linter.unusedVariables false

/-- A zero service's cells. -/
def svZero : Array Value := #[.int .i64 0, .int .i64 0, .int .i64 0, .int .i64 0, .int .i64 0, .int .i64 0, .int .i64 0, .int .i64 0, .bool false, .slice none 0 0, .int .i64 0, .int .i64 0, .int .i64 0, .int .i64 0, .int .i64 0, .int .i64 0, .int .i64 0, .bool false, .slice none 0 0, .int .i64 0, .int .i64 0, .int .i64 0, .int .i64 0, .int .i64 0, .int .i64 0, .int .i64 0, .bool false, .slice none 0 0, .int .i64 0, .int .i64 0, .int .i64 0, .int .i64 0, .int .i64 0, .int .i64 0, .int .i64 0, .bool false, .slice none 0 0, .int .i64 0, .int .i64 0, .int .i64 0, .int .i64 0, .int .i64 0, .int .i64 0, .int .i64 0, .bool false, .slice none 0 0, .int .i64 0, .int .i64 0, .int .i64 0, .int .i64 0, .int .i64 0, .int .i64 0, .int .i64 0, .bool false, .slice none 0 0, .int .i64 0, .int .i64 0, .int .i64 0, .int .i64 0, .int .i64 0, .int .i64 0, .int .i64 0, .bool false, .slice none 0 0, .int .i64 0, .int .i64 0, .int .i64 0, .int .i64 0, .int .i64 0, .int .i64 0, .int .i64 0, .bool false, .slice none 0 0, .int .i64 0, .int .i64 0, .int .i64 0, .int .i64 0, .int .i64 0, .int .i64 0, .int .i64 0, .bool false, .slice none 0 0, .int .i64 0, .int .i64 0, .int .i64 0, .int .i64 0, .int .i64 0, .int .i64 0, .int .i64 0, .bool false, .slice none 0 0, .int .i64 0, .int .i64 0, .int .i64 0, .int .i64 0, .int .i64 0, .int .i64 0, .int .i64 0, .bool false, .slice none 0 0, .int .i64 0, .int .i64 0, .int .i64 0, .int .i64 0, .int .i64 0, .int .i64 0, .int .i64 0, .bool false, .slice none 0 0, .int .i64 0, .int .i64 0, .int .i64 0, .int .i64 0, .int .i64 0, .int .i64 0, .int .i64 0, .bool false, .slice none 0 0, .int .i64 0, .int .i64 0, .int .i64 0, .int .i64 0, .int .i64 0, .int .i64 0, .int .i64 0, .bool false, .slice none 0 0, .int .i64 0, .int .i64 0, .int .i64 0, .int .i64 0, .int .i64 0, .int .i64 0, .int .i64 0, .bool false, .slice none 0 0, .int .i64 0, .int .i64 0, .int .i64 0, .int .i64 0, .int .i64 0, .int .i64 0, .int .i64 0, .bool false, .slice none 0 0, .int .i64 0, .slice none 0 0, .slice none 0 0, .slice none 0 0]
set_option maxRecDepth 100000 in
theorem svZero_size : svZero.size = 149 := by kernel_rfl
theorem svZero_ne : (svZero = #[]) = False := by
  apply eq_false
  intro h
  have := svZero_size
  rw [h] at this
  cases this
set_option maxRecDepth 100000 in
theorem zero_sv (w : World) : Sem.run Try.prog (zeroValue 78) w = .ok (.agg svZero) w := by kernel_rfl

attribute [local go_sem] zero_sv svZero_size svZero_ne

set_option maxRecDepth 100000 in
set_option maxHeartbeats 8000000 in
theorem iserviceOf_any (q lim : Int) (a : Option Addr) (ca : Nat) (b : Option Addr) (nn cb : Nat) (c : Option Addr) (no cc : Nat) (L : Nat → Ln) (nw od : Nat → Int) (w : World)
    (hnn : nn ≤ 1048576) (hno : no ≤ 1048576) (hL : ∀ i, i < 16 → (L i).n ≤ 1048576) (hP : LR w.heap.size w a 16 L) (hb : Row .i64 w b nn nw) (hc : Row .i64 w c no od) :
    Calls Try.prog 16 #[faVal q lim a 16 ca b nn cb c no cc] w fun e w' => ∃ (B : Nat) (vs : Array Value) (X : Nat → Option Addr) (C : Nat → Nat), e = .returned (.pointer (some ⟨B, 0, none⟩)) ∧ Sits w' B vs 78 ∧ (∀ i, i < 16 → NV vs (2 + i * 9) (X i) (C i) (L i)) ∧ (∀ i, i < 16 → PR w'.heap.size w' (X i) (L i).n (L i).f) ∧ Below w.heap.size w w' := by
  have HL : Hid (∀ i, i < 16 → (L i).n ≤ 1048576) := hL
  have HNN : Hid (nn ≤ 1048576) := hnn
  have HNO : Hid (no ≤ 1048576) := hno
  obtain ⟨W0, hW0⟩ : ∃ W, w.alloc (.cells (faCells q lim a 16 ca b nn cb c no cc) 30) = W := ⟨_, rfl⟩
  have s0 : Sits W0 w.heap.size (faCells q lim a 16 ca b nn cb c no cc) 30 := by rw [← hW0]; exact Sits.new _ _ _
  have b0 : Below w.heap.size w W0 := by rw [← hW0]; exact (Below.refl _ w).alloc (Nat.le_refl _) _
  have HW0 : Hid (w.alloc (.cells (faCells q lim a 16 ca b nn cb c no cc) 30) = W0) := hW0
  have HB0 : Hid (Below w.heap.size w W0) := b0
  have HP0 : Hid (LR W0.heap.size W0 a 16 L) := LR.go hP b0 b0.size
  have HRB : Hid (∀ V, Below W0.heap.size W0 V → Row .i64 V b nn nw) := fun V h => Row.below (Row.below hb b0) h
  have HRC : Hid (∀ V, Below W0.heap.size W0 V → Row .i64 V c no od) := fun V h => Row.below (Row.below hc b0) h
  have hsz0 : w.heap.size < W0.heap.size := s0.lt
  have HSK : Hid (∀ V, Below W0.heap.size W0 V → (fun w' => w'.cell? ⟨w.heap.size, 0, none⟩ = some (.int .i64 q) ∧ w'.cell? ⟨w.heap.size, 1, none⟩ = some (.int .i64 lim) ∧ w'.cell? ⟨w.heap.size, 2, none⟩ = some (.slice a 16 ca) ∧ w'.cell? ⟨w.heap.size, 3, none⟩ = some (.slice b nn cb) ∧ w'.cell? ⟨w.heap.size, 4, none⟩ = some (.slice c no cc)) V) := fun V h => by
    have s := Sits.below s0 h s0.lt
    exact ⟨s.cell 0, s.cell 1, s.cell 2, s.cell 3, s.cell 4⟩
  have x0 := s0.cell 0
  have x1 := s0.cell 1
  have x2 := s0.cell 2
  have x3 := s0.cell 3
  have x4 := s0.cell 4
  clear s0 b0 hW0 hL hnn hno hP hb hc
  go_enter Try.func16, Try.ntmps16
  go_upto_region 1 with fail
  rw [HW0.out]
  clear HW0
  go_cut [3] from 6 (fun s wx => ∃ (B : Nat) (vs : Array Value), s = .pointer (some ⟨B, 0, none⟩) ∧ Sits wx B vs 78 ∧ vs.size = 149 ∧ Below W0.heap.size W0 wx ∧ W0.heap.size ≤ B)
  case first =>
    go_region_held3 (fun w' => w'.cell? ⟨w.heap.size, 0, none⟩ = some (.int .i64 q) ∧ w'.cell? ⟨w.heap.size, 1, none⟩ = some (.int .i64 lim) ∧ w'.cell? ⟨w.heap.size, 2, none⟩ = some (.slice a 16 ca) ∧ w'.cell? ⟨w.heap.size, 3, none⟩ = some (.slice b nn cb) ∧ w'.cell? ⟨w.heap.size, 4, none⟩ = some (.slice c no cc)) ((refine HSK.out _ ?_; first | exact BB | exact BC | exact BB.alloc BB.size _ | exact BC.alloc BC.size _ | exact (Below.refl _ _).drew | exact Below.refl _ _ | go_grown)) (first | (go_at_call 32; (first | (refine (ilistOf_any b nn cb nw _ HNN.out (HRB.out _ BC)).mono ?_) | (refine (ilistOf_any b nn cb nw _ HNN.out (HRB.out _ (Below.drew (Below.refl _ _)))).mono ?_)); rintro e wBB ⟨xb, kb, rfl, -, bBB⟩; have BB : Below W0.heap.size W0 wBB := (by first | exact (BC).trans (bBB.mono (BC).size) | exact (Below.drew (Below.refl _ _)).trans (bBB.mono (Nat.le_refl _)))) | (go_at_call 32; (first | (refine (ilistOf_any c no cc od _ HNO.out (HRC.out _ BB)).mono ?_) | (refine (ilistOf_any c no cc od _ HNO.out (HRC.out _ (Below.drew (Below.refl _ _)))).mono ?_)); rintro e wBC ⟨xc, kc, rfl, -, bBC⟩; have BC : Below W0.heap.size W0 wBC := (by first | exact (BB).trans (bBC.mono (BB).size) | exact (Below.drew (Below.refl _ _)).trans (bBC.mono (Nat.le_refl _)))))
    all_goals
      go_wp2
      go_meet
      case rel => first | exact ⟨_, _, rfl, Sits.new _ _ _, by simp [svZero_size], BB.alloc BB.size _, BB.size⟩ | exact ⟨_, _, rfl, Sits.new _ _ _, by simp [svZero_size], BC.alloc BC.size _, BC.size⟩
  case rest =>
    obtain ⟨B, vs0, rfl, hS, hvs, hB, hBl⟩ := hcut
    obtain ⟨wd, rfl⟩ : ∃ W, W = wc := ⟨wc, rfl⟩
    have HS : Hid (Sits wd B vs0 78) := hS
    have HVS0 : Hid (vs0.size = 149) := hvs
    have HBd : Hid (Below W0.heap.size W0 wd) := hB
    have hBd : B < wd.heap.size := hS.lt
    obtain ⟨z0, z1, z2, z3, z4⟩ := HSK.out _ hB
    clear hS hvs hB x0 x1 x2 x3 x4 z0 z1 z3 z4
    go_wp2
    go_loopw [21] (fun i wr => ∃ (k : Nat) (X : Nat → Option Addr) (C : Nat → Nat) (vs : Array Value), k ≤ 16 ∧ i = .int .i64 k ∧ Sits wr B vs 78 ∧ vs.size = 149 ∧ Below W0.heap.size W0 wr ∧ wd.heap.size ≤ wr.heap.size ∧ (∀ i, i < k → NV vs (2 + i * 9) (X i) (C i) (L i)) ∧ (∀ i, i < k → PO wd.heap.size wr (X i) (L i).n (C i) (L i).f)) (fun i _ => 16 - (intOf i).toNat)
    case atStart => exact ⟨0, fun _ => none, fun _ => 0, vs0, Nat.zero_le _, rfl, HS.out, HVS0.out, HBd.out, Nat.le_refl _, fun i hi => absurd hi (Nat.not_lt_zero _), fun i hi => absurd hi (Nat.not_lt_zero _)⟩
    case round =>
      obtain ⟨k, X, C, vs, hk, rfl, hs, hvs, hb, hwd, hnv, hpo⟩ := hrel
      by_cases hlt : k < 16
      · obtain ⟨b1, off, rfl, hbl, hcs⟩ := LR.at HP0.out hlt
        obtain ⟨x, c', hat, hnc, hpr⟩ := hcs k hlt
        obtain ⟨c0, c1, c2, c3, c4, c5, c6, c7, c8⟩ := hat.below hb hbl
        have hki : (k : Int) < 16 := by omega
        have hk0 : (0 : Int) ≤ (k : Int) := by omega
        have hnk := HL.out k hlt
        obtain ⟨V1, hV1⟩ : ∃ W, wr.alloc (.cells (lnCells x c' (L k)) 53) = W := ⟨_, rfl⟩
        have sv : Sits V1 wr.heap.size (lnCells x c' (L k)) 53 := by rw [← hV1]; exact Sits.new _ _ _
        have bv : Below wr.heap.size wr V1 := by rw [← hV1]; exact (Below.refl _ wr).alloc (Nat.le_refl _) _
        have HV1 : Hid (wr.alloc (.cells (lnCells x c' (L k)) 53) = V1) := hV1
        have HSV : Hid (Sits V1 wr.heap.size (lnCells x c' (L k)) 53) := sv
        have HBV : Hid (Below W0.heap.size W0 V1) := hb.trans (bv.mono hb.size)
        have HPR : Hid (PR V1.drew.heap.size V1.drew x (L k).n (L k).f) := ((hpr.below hb).mono hb.size).below bv |>.mono bv.size
        have HSB : Hid (Sits V1 B vs 78) := Sits.below hs bv hs.lt
        have HVS : Hid (vs.size = 149) := hvs
        have HNV : Hid (∀ i, i < k → NV vs (2 + i * 9) (X i) (C i) (L i)) := hnv
        have HPOK : Hid (∀ i, i < k → PO wd.heap.size V1.drew (X i) (L i).n (C i) (L i).f) := fun i hi => PO.below (hpo i hi) bv.drew
        have hne : wr.heap.size ≠ B := by have := hs.lt; omega
        have hwv : wr.heap.size ≤ V1.heap.size := bv.size
        have HK0 : Hid ((fun w' => w'.cell? ⟨wr.heap.size, 0, none⟩ = some (.slice x (L k).n c') ∧ w'.cell? ⟨wr.heap.size, 1, none⟩ = some (.int .i64 (L k).sh) ∧ w'.cell? ⟨wr.heap.size, 2, none⟩ = some (.int .i64 (L k).cd.tg) ∧ w'.cell? ⟨wr.heap.size, 3, none⟩ = some (.int .i64 (L k).cd.iv) ∧ w'.cell? ⟨wr.heap.size, 4, none⟩ = some (.int .i64 (L k).cd.fi) ∧ w'.cell? ⟨wr.heap.size, 5, none⟩ = some (.int .i64 (L k).cd.nx) ∧ w'.cell? ⟨wr.heap.size, 6, none⟩ = some (.int .i64 (L k).cd.ct) ∧ w'.cell? ⟨wr.heap.size, 7, none⟩ = some (.int .i64 (L k).cd.la) ∧ w'.cell? ⟨wr.heap.size, 8, none⟩ = some (.bool (L k).cd.dr)) V1.drew) := ⟨(Sits.drew sv).cell 0, (Sits.drew sv).cell 1, (Sits.drew sv).cell 2, (Sits.drew sv).cell 3, (Sits.drew sv).cell 4, (Sits.drew sv).cell 5, (Sits.drew sv).cell 6, (Sits.drew sv).cell 7, (Sits.drew sv).cell 8⟩
        obtain ⟨d0, d1, d2, d3, d4, d5, d6, d7, d8⟩ := HK0.out
        clear hcs hat hpr hs hvs hb hnv hpo sv bv hV1
        go_upto_region 5 with fail
        rw [HV1.out]
        clear c0 c1 c2 c3 c4 c5 c6 c7 c8 HV1
        go_region_held3 (fun w' => w'.cell? ⟨wr.heap.size, 0, none⟩ = some (.slice x (L k).n c') ∧ w'.cell? ⟨wr.heap.size, 1, none⟩ = some (.int .i64 (L k).sh) ∧ w'.cell? ⟨wr.heap.size, 2, none⟩ = some (.int .i64 (L k).cd.tg) ∧ w'.cell? ⟨wr.heap.size, 3, none⟩ = some (.int .i64 (L k).cd.iv) ∧ w'.cell? ⟨wr.heap.size, 4, none⟩ = some (.int .i64 (L k).cd.fi) ∧ w'.cell? ⟨wr.heap.size, 5, none⟩ = some (.int .i64 (L k).cd.nx) ∧ w'.cell? ⟨wr.heap.size, 6, none⟩ = some (.int .i64 (L k).cd.ct) ∧ w'.cell? ⟨wr.heap.size, 7, none⟩ = some (.int .i64 (L k).cd.la) ∧ w'.cell? ⟨wr.heap.size, 8, none⟩ = some (.bool (L k).cd.dr)) (first | with_reducible exact HK0.out | with_reducible exact HK1.out | with_reducible exact HK2.out | go_keep) ((go_at_call 33; refine (ilistOfP_any x (L k).n c' (L k).f _ HPR.out hnk).mono ?_; rintro e w5 ⟨y, cy, rfl, hpo, b5⟩; have HPO : Hid (PO V1.drew.heap.size w5 y (L k).n cy (L k).f) := hpo; have HB5 : Hid (Below V1.drew.heap.size V1.drew w5) := b5; have sV := Sits.below (Sits.drew HSV.out) b5 (by show _ < V1.heap.size; exact Sits.lt HSV.out); have HK1 : Hid (((fun w' => w'.cell? ⟨wr.heap.size, 0, none⟩ = some (.slice x (L k).n c') ∧ w'.cell? ⟨wr.heap.size, 1, none⟩ = some (.int .i64 (L k).sh) ∧ w'.cell? ⟨wr.heap.size, 2, none⟩ = some (.int .i64 (L k).cd.tg) ∧ w'.cell? ⟨wr.heap.size, 3, none⟩ = some (.int .i64 (L k).cd.iv) ∧ w'.cell? ⟨wr.heap.size, 4, none⟩ = some (.int .i64 (L k).cd.fi) ∧ w'.cell? ⟨wr.heap.size, 5, none⟩ = some (.int .i64 (L k).cd.nx) ∧ w'.cell? ⟨wr.heap.size, 6, none⟩ = some (.int .i64 (L k).cd.ct) ∧ w'.cell? ⟨wr.heap.size, 7, none⟩ = some (.int .i64 (L k).cd.la) ∧ w'.cell? ⟨wr.heap.size, 8, none⟩ = some (.bool (L k).cd.dr))) w5) := ⟨(sV).cell 0, (sV).cell 1, (sV).cell 2, (sV).cell 3, (sV).cell 4, (sV).cell 5, (sV).cell 6, (sV).cell 7, (sV).cell 8⟩; have sV9 : Sits ((((((((((w5).setCell ⟨B, 2 + k * 9, none⟩ (.int .i64 (L k).cd.tg)).setCell ⟨B, 2 + k * 9 + 1, none⟩ (.int .i64 (L k).cd.iv)).setCell ⟨B, 2 + k * 9 + 2, none⟩ (.int .i64 (L k).cd.fi)).setCell ⟨B, 2 + k * 9 + 3, none⟩ (.int .i64 (L k).cd.nx)).setCell ⟨B, 2 + k * 9 + 4, none⟩ (.int .i64 (L k).cd.ct)).setCell ⟨B, 2 + k * 9 + 5, none⟩ (.int .i64 (L k).cd.la)).setCell ⟨B, 2 + k * 9 + 6, none⟩ (.bool (L k).cd.dr)).setCell ⟨B, 2 + k * 9 + 7, none⟩ (.slice y (L k).n cy)).setCell ⟨B, 2 + k * 9 + 8, none⟩ (.int .i64 (L k).sh)) wr.heap.size (lnCells x c' (L k)) 53 := (Sits.other (Sits.other (Sits.other (Sits.other (Sits.other (Sits.other (Sits.other (Sits.other (Sits.other sV hne _) hne _) hne _) hne _) hne _) hne _) hne _) hne _) hne _); have HK2 : Hid (((fun w' => w'.cell? ⟨wr.heap.size, 0, none⟩ = some (.slice x (L k).n c') ∧ w'.cell? ⟨wr.heap.size, 1, none⟩ = some (.int .i64 (L k).sh) ∧ w'.cell? ⟨wr.heap.size, 2, none⟩ = some (.int .i64 (L k).cd.tg) ∧ w'.cell? ⟨wr.heap.size, 3, none⟩ = some (.int .i64 (L k).cd.iv) ∧ w'.cell? ⟨wr.heap.size, 4, none⟩ = some (.int .i64 (L k).cd.fi) ∧ w'.cell? ⟨wr.heap.size, 5, none⟩ = some (.int .i64 (L k).cd.nx) ∧ w'.cell? ⟨wr.heap.size, 6, none⟩ = some (.int .i64 (L k).cd.ct) ∧ w'.cell? ⟨wr.heap.size, 7, none⟩ = some (.int .i64 (L k).cd.la) ∧ w'.cell? ⟨wr.heap.size, 8, none⟩ = some (.bool (L k).cd.dr))) ((((((((((w5).setCell ⟨B, 2 + k * 9, none⟩ (.int .i64 (L k).cd.tg)).setCell ⟨B, 2 + k * 9 + 1, none⟩ (.int .i64 (L k).cd.iv)).setCell ⟨B, 2 + k * 9 + 2, none⟩ (.int .i64 (L k).cd.fi)).setCell ⟨B, 2 + k * 9 + 3, none⟩ (.int .i64 (L k).cd.nx)).setCell ⟨B, 2 + k * 9 + 4, none⟩ (.int .i64 (L k).cd.ct)).setCell ⟨B, 2 + k * 9 + 5, none⟩ (.int .i64 (L k).cd.la)).setCell ⟨B, 2 + k * 9 + 6, none⟩ (.bool (L k).cd.dr)).setCell ⟨B, 2 + k * 9 + 7, none⟩ (.slice y (L k).n cy)).setCell ⟨B, 2 + k * 9 + 8, none⟩ (.int .i64 (L k).sh))) := ⟨(sV9).cell 0, (sV9).cell 1, (sV9).cell 2, (sV9).cell 3, (sV9).cell 4, (sV9).cell 5, (sV9).cell 6, (sV9).cell 7, (sV9).cell 8⟩; have s5 := Sits.below (Sits.drew HSB.out) b5 (by show _ < V1.heap.size; exact Sits.lt HSB.out); have gf := s5.frozen; obtain ⟨u0, g0⟩ : ∃ u, w5.cell? ⟨B, 2 + k * 9, none⟩ = some u := ⟨_, (s5.cell _).trans (Array.getElem?_eq_getElem (by rw [HVS.out]; omega))⟩; obtain ⟨u1, g1⟩ : ∃ u, w5.cell? ⟨B, 2 + k * 9 + 1, none⟩ = some u := ⟨_, (s5.cell _).trans (Array.getElem?_eq_getElem (by rw [HVS.out]; omega))⟩; obtain ⟨u2, g2⟩ : ∃ u, w5.cell? ⟨B, 2 + k * 9 + 2, none⟩ = some u := ⟨_, (s5.cell _).trans (Array.getElem?_eq_getElem (by rw [HVS.out]; omega))⟩; obtain ⟨u3, g3⟩ : ∃ u, w5.cell? ⟨B, 2 + k * 9 + 3, none⟩ = some u := ⟨_, (s5.cell _).trans (Array.getElem?_eq_getElem (by rw [HVS.out]; omega))⟩; obtain ⟨u4, g4⟩ : ∃ u, w5.cell? ⟨B, 2 + k * 9 + 4, none⟩ = some u := ⟨_, (s5.cell _).trans (Array.getElem?_eq_getElem (by rw [HVS.out]; omega))⟩; obtain ⟨u5, g5⟩ : ∃ u, w5.cell? ⟨B, 2 + k * 9 + 5, none⟩ = some u := ⟨_, (s5.cell _).trans (Array.getElem?_eq_getElem (by rw [HVS.out]; omega))⟩; obtain ⟨u6, g6⟩ : ∃ u, w5.cell? ⟨B, 2 + k * 9 + 6, none⟩ = some u := ⟨_, (s5.cell _).trans (Array.getElem?_eq_getElem (by rw [HVS.out]; omega))⟩; obtain ⟨u7, g7⟩ : ∃ u, w5.cell? ⟨B, 2 + k * 9 + 7, none⟩ = some u := ⟨_, (s5.cell _).trans (Array.getElem?_eq_getElem (by rw [HVS.out]; omega))⟩; obtain ⟨u8, g8⟩ : ∃ u, w5.cell? ⟨B, 2 + k * 9 + 8, none⟩ = some u := ⟨_, (s5.cell _).trans (Array.getElem?_eq_getElem (by rw [HVS.out]; omega))⟩; have HS5 : Hid (Sits w5 B vs 78) := s5; clear hpo b5 sV sV9 s5))
        go_wp2
        go_roundw
        case rel =>
          have p9 := (HBV.out).drew.trans ((HB5.out).mono ((HBV.out).size))
          have hf := hBd
          refine ⟨k + 1, fun i => if i = k then y else X i, fun i => if i = k then cy else C i, setN vs (2 + k * 9) y cy (L k), by omega, by go_num, Sits.setN HS5.out (2 + k * 9) y cy (L k), (setN_size _ _ _ _ _).trans HVS.out, ?_, ?_, fun i hi => ?_, fun i hi => ?_⟩
          · exact (Below.setCell (Below.setCell (Below.setCell (Below.setCell (Below.setCell (Below.setCell (Below.setCell (Below.setCell (Below.setCell p9 hBl _) hBl _) hBl _) hBl _) hBl _) hBl _) hBl _) hBl _) hBl _)
          · have h5 := (HB5.out).size
            have h6 : V1.drew.heap.size = V1.heap.size := rfl
            refine Nat.le_trans (m := w5.heap.size) (by omega) (Below.size (B := 0) (Below.setCell (Below.setCell (Below.setCell (Below.setCell (Below.setCell (Below.setCell (Below.setCell (Below.setCell (Below.setCell (Below.refl 0 w5) (Nat.zero_le _) _) (Nat.zero_le _) _) (Nat.zero_le _) _) (Nat.zero_le _) _) (Nat.zero_le _) _) (Nat.zero_le _) _) (Nat.zero_le _) _) (Nat.zero_le _) _) (Nat.zero_le _) _))
          · by_cases e : i = k
            · subst e
              simp only [if_true]
              exact setN_nv _ _ _ _ _ (by rw [HVS.out]; omega)
            · simp only [if_neg e]
              exact NV.setN (HNV.out i (by omega)) (by omega)
          · by_cases e : i = k
            · subst e
              simp only [if_true]
              exact (PO.far (PO.far (PO.far (PO.far (PO.far (PO.far (PO.far (PO.far (PO.far (PO.mono HPO.out (by show wd.heap.size ≤ V1.heap.size; omega)) hBd _ _) hBd _ _) hBd _ _) hBd _ _) hBd _ _) hBd _ _) hBd _ _) hBd _ _) hBd _ _)
            · simp only [if_neg e]
              exact (PO.far (PO.far (PO.far (PO.far (PO.far (PO.far (PO.far (PO.far (PO.far (PO.below (HPOK.out i (by omega)) HB5.out) hBd _ _) hBd _ _) hBd _ _) hBd _ _) hBd _ _) hBd _ _) hBd _ _) hBd _ _) hBd _ _)
        case measure => simp [intOf]; omega
      · obtain rfl : k = 16 := by omega
        go_wp2
        go_ret
        exact ⟨B, vs, X, C, rfl, hs, hnv, fun i hi => ZI.pr (PO.zi (hpo i hi)), (HB0.out).trans (hb.mono (HB0.out).size)⟩

end Go.Proofs.Ytdhdigjghchdjaa
