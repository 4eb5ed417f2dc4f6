/-
  Whatever bytes the law FnFifos draws its queue and its packet from, it returns true and leaves the bytes as they were: what comes into a queue goes out in that order; no condition.
-/
import Derived.Test.YtkmiijgoinpndaaRows
import Derived.WalkKit
import Derived.ProofKit
import Derived.OpenShut
import Derived.BigQuiet
import Derived.Deep.QuietTactic
import Derived.Deep.Quiet
import Derived.Deep.RegionHeld3
import Derived.Deep.Cut
import Derived.Test.YtkmiijgoinpndaaQOps
import Derived.Test.YtkmiijgoinpndaaFifoLaw
import Derived.Test.YtkmiijgoinpndaaDrawPu
import Derived.ShutString
import Derived.ChangeOld
import Derived.Below
namespace Go.Proofs.Ytkmiijgoinpndaa.fnFifos
open Go.ChangeShapes Go.WideShapes Go.ChangeAt Go.RowKit
open Go.ChangeMaps (open_string shut_string)
set_option linter.unusedVariables false

theorem own : ownKnob Try.prog.godebug = none := by kernel_rfl
theorem laidOut : laidOutB Try.prog = true := by kernel_rfl

/-- A slice of integers that came in. -/
def IsRow (k : IntKind) (w : World) (a : Option Addr) (len cap : Nat) (zs : List Int) : Prop :=
  (a = none ∧ len = 0 ∧ cap = 0 ∧ zs = []) ∨
  ∃ x, a = some x ∧ len ≤ cap ∧ cap ≤ maxLen ∧ zs.length = cap ∧ (∀ i, i < zs.length → w.cell? (x.add i) = some (.int k (zs.getD i 0))) ∧ ∀ n ∈ zs, (Lit.int k n).wf = true

theorem code_of {w : World} {a : Option Addr} {len cap : Nat} {zs : List Int} (h : IsRow .u8 w a len cap zs) : len ≤ 9223372036854775807 ∧ Code w w.heap.size a len := by
  rcases h with ⟨rfl, rfl, rfl, rfl⟩ | ⟨x, rfl, hl, hm, hz, hcell, hwz⟩
  · exact ⟨by omega, .inl rfl⟩
  · unfold maxLen at hm
    refine ⟨by omega, ?_⟩
    by_cases h0 : len = 0
    · exact .inl h0
    · obtain ⟨b, off, rfl, hc⟩ := ints_at hcell (by omega)
      refine .inr ⟨b, off, rfl, World.block_lt_of_cell? w _ (hc 0 (by omega)), fun k hk => ?_⟩
      have hb := bounds_u8 (hwz (zs.getD k 0) (by rw [List.getD_eq_getElem?_getD, List.getElem?_eq_getElem (by omega)]; exact List.getElem_mem _))
      exact ⟨zs.getD k 0, hb.1, hb.2, hc k (by omega)⟩


set_option maxRecDepth 100000 in
set_option maxHeartbeats 12000000 in
theorem walk (a0 : Option Addr) (len0 cap0 : Nat) (z0 : List Int) (w : World) (w0 : IsRow .u8 w a0 len0 cap0 z0) :
    Calls Try.prog 3 #[.slice a0 len0 cap0] w fun e w' => e = .returned (.bool true) ∧ Below w.heap.size w w' := by
  obtain ⟨hl, hcode⟩ := code_of w0
  clear w0
  have HC : Hid (Code w w.heap.size a0 len0) := hcode
  clear hcode
  go_enter Try.func3, Try.ntmps3
  go_wp2_with fail
  refine (drawPush a0 len0 cap0 _ hl HC.out).mono ?_
  rintro e w1 ⟨x, n, c, lim, g, ⟨i1, i2, i3, i4, i5, i6⟩, rfl, zx, hnk, hn13, hsm, ⟨l0, l1⟩, -, b1⟩
  simp only [Pk.val]
  clear HC hl hsm
  go_upto_region 2 with fail
  obtain ⟨V, hV⟩ : ∃ V, w1.heap.size = V := ⟨_, rfl⟩
  obtain ⟨wv, hwv⟩ : ∃ y, (w1.alloc (.cells #[.slice x n c, .int .i64 lim] 25)).alloc (.cells #[.int .i64 i1, .int .i64 i2, .int .i64 i3, .int .i64 i4, .int .i64 i5, .int .i64 i6] 27) = y := ⟨_, rfl⟩
  have hbv : Below w1.heap.size w1 wv := by rw [← hwv]; exact ((Below.refl _ _).alloc (Nat.le_refl _) _).alloc (by simp) _
  have HV : Hid (Sits wv V #[.slice x n c, .int .i64 lim] 25) := by show Sits _ _ _ _; rw [← hwv]; exact (Sits.new' hV).alloc _
  have HP : Hid (Sits wv (V + 1) #[.int .i64 i1, .int .i64 i2, .int .i64 i3, .int .i64 i4, .int .i64 i5, .int .i64 i6] 27) := by show Sits _ _ _ _; rw [← hwv]; exact Sits.new' (by simp [hV])
  have hVl : V + 1 < wv.heap.size := Sits.lt HP.out
  have HPR : Hid (PR wv.heap.size wv x n g) := ZI.pr (zx.below hbv)
  have HB : Hid (Below w.heap.size w wv) := b1.trans (hbv.mono b1.size)
  have hnm : n ≤ 1048576 := by omega
  have hni : (n : Int) ≤ 13 := by omega
  have HNC : Hid (n ≤ c) := hnk
  rw [hwv, hV]
  clear hwv hV hbv zx b1 hnk
  have HPA : Hid (∀ U, Below wv.heap.size wv U → PR U.heap.size U x n g) := fun U h => (PR.below HPR.out h).mono h.size
  have HVA : Hid (∀ U, Below wv.heap.size wv U → U.cell? ⟨V, 0, none⟩ = some (.slice x n c) ∧ U.cell? ⟨V, 1, none⟩ = some (.int .i64 lim) ∧ U.cell? ⟨V + 1, 0, none⟩ = some (.int .i64 i1) ∧ U.cell? ⟨V + 1, 1, none⟩ = some (.int .i64 i2) ∧ U.cell? ⟨V + 1, 2, none⟩ = some (.int .i64 i3) ∧ U.cell? ⟨V + 1, 3, none⟩ = some (.int .i64 i4) ∧ U.cell? ⟨V + 1, 4, none⟩ = some (.int .i64 i5) ∧ U.cell? ⟨V + 1, 5, none⟩ = some (.int .i64 i6)) := fun U h => by
    have s := Sits.below HV.out h (by omega)
    have t := Sits.below HP.out h hVl
    exact ⟨s.cell 0, s.cell 1, t.cell 0, t.cell 1, t.cell 2, t.cell 3, t.cell 4, t.cell 5⟩
  have HPK : Hid (∀ U : World, Calls Try.prog 7 #[.agg #[.int .i64 i1, .int .i64 i2, .int .i64 i3, .int .i64 i4, .int .i64 i5, .int .i64 i6]] U fun e w' => e = .returned (.bool (Pk.mk i1 i2 i3 i4 i5 i6).good) ∧ Below U.heap.size U w') := fun U => (spktOk_any ⟨i1, i2, i3, i4, i5, i6⟩ U).mono fun e w' h => ⟨h.1, h.2.1⟩
  have HIP : Hid (∀ U : World, Calls Try.prog 12 #[.agg #[.int .i64 i1, .int .i64 i2, .int .i64 i3, .int .i64 i4, .int .i64 i5, .int .i64 i6]] U fun e w' => e = .returned (.bool (Pk.mk i1 i2 i3 i4 i5 i6).good) ∧ Below U.heap.size U w') := fun U => (ipktOk_any ⟨i1, i2, i3, i4, i5, i6⟩ U).mono fun e w' h => ⟨h.1, h.2.1⟩
  obtain ⟨gd, hgd⟩ : ∃ b, (Pk.mk i1 i2 i3 i4 i5 i6).good = b := ⟨_, rfl⟩
  obtain ⟨fk, hfk⟩ : ∃ b, fifoB g n lim = b := ⟨_, rfl⟩
  have HFK : Hid (∀ U, Below wv.heap.size wv U → Calls Try.prog 6 #[.agg #[.slice x n c, .int .i64 lim]] U fun e w' => e = .returned (.bool fk) ∧ Below U.heap.size U w') := fun U h => by
    have := sfifoOk_any x n c g lim U hnm HNC.out (HPA.out U h)
    rw [hfk] at this
    exact this
  have HS4 : Hid ((Pk.mk i1 i2 i3 i4 i5 i6).good = gd) := hgd
  have HS5 : Hid (fifoB g n lim = fk) := hfk
  rw [hgd] at HPK HIP
  clear hgd hfk
  have hr2 : Below wv.heap.size wv wv := Below.refl _ _
  have HR0 : Hid (Below wv.heap.size wv wv) := hr2
  clear hr2
  obtain ⟨c0, c1, d0, d1, d2, d3, d4, d5⟩ := HVA.out _ HR0.out
  by_cases hbad : (fk && gd) = false
  case pos =>
    have HBAD : Hid (∀ U, Below wv.heap.size wv U → Calls Try.prog 5 #[.agg #[.slice x n c, .int .i64 lim], .agg #[.int .i64 i1, .int .i64 i2, .int .i64 i3, .int .i64 i4, .int .i64 i5, .int .i64 i6]] U fun e w' => ∃ (y : Option Addr) (cap : Nat), e = .returned (.tuple #[.agg #[.slice y 0 cap, .int .i64 0], .bool false]) ∧ Below U.heap.size U w') := fun U h => ipush_bad x n c g lim i1 i2 i3 i4 i5 i6 U hnm HNC.out (HPA.out U h) (by rw [HS4.out, HS5.out]; exact hbad)
    go_upto_region 3 with (go_at_call 5; refine (HBAD.out _ HR0.out).mono ?_; rintro e w2 ⟨y, cy, rfl, b2⟩)
    obtain ⟨B, hB⟩ : ∃ B, w2.heap.size = B := ⟨_, rfl⟩
    obtain ⟨wb, hwb⟩ : ∃ z, w2.alloc (.cells #[.slice y 0 cy, .int .i64 0] 25) = z := ⟨_, rfl⟩
    have bb : Below w2.heap.size w2 wb := by rw [← hwb]; exact (Below.refl _ _).alloc (Nat.le_refl _) _
    have HSB : Hid (Sits wb B #[.slice y 0 cy, .int .i64 0] 25) := by show Sits _ _ _ _; rw [← hwb]; exact Sits.new' hB
    have HBB : Hid (Below wv.heap.size wv wb) := b2.trans (bb.mono b2.size)
    have hBl : B < wb.heap.size := Sits.lt HSB.out
    have hVB : wv.heap.size ≤ B := by rw [← hB]; exact b2.size
    rw [hwb, hB]
    clear hwb bb b2 c0 c1 d0 d1 d2 d3 d4 d5 hB
    obtain ⟨c0, c1, d0, d1, d2, d3, d4, d5⟩ := HVA.out _ HBB.out
    have HBO : Hid (∀ U, Below wb.heap.size wb U → Below wv.heap.size wv U ∧ U.cell? ⟨B, 0, none⟩ = some (.slice y 0 cy)) := fun U h => ⟨HBB.out.trans (h.mono HBB.out.size), (Sits.below HSB.out h hBl).cell 0⟩
    cases fk
    case false =>
      clear hbad
      go_upto_region 4 with (go_at_call 6; refine (HFK.out _ HBB.out).mono ?_; rintro e w3 ⟨rfl, b3⟩)
      have z0 := ((HBO.out) _ b3).2
      have HW3 : Hid (Below w.heap.size w w3) := (HB.out).trans ((((HBO.out) _ b3).1).mono (HB.out).size)
      clear b3
      go_wp2_with (go_at_call 8; refine (fifos_any _).mono ?_; rintro e w5 ⟨rfl, b5⟩)
      go_ret
      exact ⟨rfl, (HW3.out).trans (b5.mono (HW3.out).size)⟩
    case true =>
      obtain rfl : gd = false := by simpa using hbad
      clear hbad
      go_upto_region 4 with (first | (go_at_call 6; refine (HFK.out _ HBB.out).mono ?_; rintro e w3 ⟨rfl, b3⟩; have HB3 : Hid (Below wb.heap.size wb w3) := b3; clear b3; obtain ⟨e0, e1, f0, f1, f2, f3, f4, f5⟩ := HVA.out _ (((HBO.out) _ HB3.out).1)) | (go_at_call 7; refine (HPK.out _).mono ?_; rintro e w4 ⟨rfl, b4⟩))
      have b34 := (HB3.out).trans (b4.mono (HB3.out).size)
      have z0 := ((HBO.out) _ b34).2
      have HW3 : Hid (Below w.heap.size w w4) := (HB.out).trans ((((HBO.out) _ b34).1).mono (HB.out).size)
      clear b34 b4
      go_wp2_with (go_at_call 8; refine (fifos_any _).mono ?_; rintro e w5 ⟨rfl, b5⟩)
      go_ret
      exact ⟨rfl, (HW3.out).trans (b5.mono (HW3.out).size)⟩
  case neg =>
    have hfg : fk = true ∧ gd = true := by cases fk <;> cases gd <;> simp_all
    obtain ⟨rfl, rfl⟩ := hfg
    clear hbad
    have hok : (fifoB g n lim && (Pk.mk i1 i2 i3 i4 i5 i6).good) = true := by rw [HS4.out, HS5.out]; rfl
    have HOK : Hid ((fifoB g n lim && (Pk.mk i1 i2 i3 i4 i5 i6).good) = true) := hok
    clear hok
    obtain ⟨G, hG⟩ : ∃ G, pushF g n ⟨i1, i2, i3, i4, i5, i6⟩ = G := ⟨_, rfl⟩
    by_cases hin : fifoB G (n + 1) lim = true
    case neg =>
      have HFULL : Hid (∀ U, Below wv.heap.size wv U → Calls Try.prog 5 #[.agg #[.slice x n c, .int .i64 lim], .agg #[.int .i64 i1, .int .i64 i2, .int .i64 i3, .int .i64 i4, .int .i64 i5, .int .i64 i6]] U fun e w' => ∃ (y : Option Addr) (cap : Nat), e = .returned (.tuple #[.agg #[.slice y n cap, .int .i64 lim], .bool false]) ∧ PO U.heap.size w' y n cap g ∧ Below U.heap.size U w') := fun U h => ipush_full x n c g lim i1 i2 i3 i4 i5 i6 U hnm HNC.out (HPA.out U h) HOK.out (by rw [hG]; simpa using hin)
      clear hin hG
      go_upto_region 3 with (go_at_call 5; refine (HFULL.out _ HR0.out).mono ?_; rintro e w2 ⟨y, cy, rfl, hy, b2⟩)
      obtain ⟨B, hB⟩ : ∃ B, w2.heap.size = B := ⟨_, rfl⟩
      obtain ⟨wb, hwb⟩ : ∃ z, w2.alloc (.cells #[.slice y n cy, .int .i64 lim] 25) = z := ⟨_, rfl⟩
      have bb : Below w2.heap.size w2 wb := by rw [← hwb]; exact (Below.refl _ _).alloc (Nat.le_refl _) _
      have HSB : Hid (Sits wb B #[.slice y n cy, .int .i64 lim] 25) := by show Sits _ _ _ _; rw [← hwb]; exact Sits.new' hB
      have HBB : Hid (Below wv.heap.size wv wb) := b2.trans (bb.mono b2.size)
      have hBl : B < wb.heap.size := Sits.lt HSB.out
      have hVB : wv.heap.size ≤ B := by rw [← hB]; exact b2.size
      have HY : Hid (ZI wv.heap.size B wb y (n * 6) (flat g)) := by show ZI _ _ _ _ _ _; rw [← hB]; exact (hy.zi).below bb
      rw [hwb, hB]
      clear hwb bb b2 c0 c1 d0 d1 d2 d3 d4 d5 hy hB
      obtain ⟨c0, c1, d0, d1, d2, d3, d4, d5⟩ := HVA.out _ HBB.out
      have HBO : Hid (∀ U, Below wb.heap.size wb U → Below wv.heap.size wv U ∧ U.cell? ⟨B, 0, none⟩ = some (.slice y n cy)) := fun U h => ⟨HBB.out.trans (h.mono HBB.out.size), (Sits.below HSB.out h hBl).cell 0⟩
      go_upto_region 5 with (first | (go_at_call 6; refine (HFK.out _ HBB.out).mono ?_; rintro e w3 ⟨rfl, b3⟩; have HB3 : Hid (Below wb.heap.size wb w3) := b3; clear b3; obtain ⟨e0, e1, f0, f1, f2, f3, f4, f5⟩ := HVA.out _ (((HBO.out) _ HB3.out).1)) | (go_at_call 7; refine (HPK.out _).mono ?_; rintro e w4 ⟨rfl, b4⟩))
      have HB4 : Hid (Below wb.heap.size wb w4) := (HB3.out).trans (b4.mono (HB3.out).size)
      have z0 := ((HBO.out) _ HB4.out).2
      have HW4 : Hid (Below w.heap.size w w4) := (HB.out).trans ((((HBO.out) _ HB4.out).1).mono (HB.out).size)
      have HY4 : Hid (PR w4.heap.size w4 y n g) := ((PR.below (ZI.pr HY.out) HB4.out).mono (HB4.out).size)
      have HX4 : Hid (PR w4.heap.size w4 x n g) := HPA.out _ (((HBO.out) _ HB4.out).1)
      obtain ⟨k0, k1, m0, m1, m2, m3, m4, m5⟩ := HVA.out _ (((HBO.out) _ HB4.out).1)
      clear b4 c0 c1 d0 d1 d2 d3 d4 d5 e0 e1 f0 f1 f2 f3 f4 f5
      go_wp2_with (first | (go_at_call 9; refine (samePkts_yes y x n cy c g g _ hnm HY4.out HX4.out (fun _ _ => rfl)).mono ?_; rintro e w5 ⟨rfl, hk5, -⟩; have b5 := hk5.1; clear hk5) | (go_at_call 8; refine (fifos_any _).mono ?_; rintro e w6 ⟨rfl, b6⟩))
      go_ret
      have B5 := (HW4.out).trans (b5.mono (HW4.out).size)
      exact ⟨rfl, B5.trans (b6.mono B5.size)⟩
    case pos =>
      have HIN : Hid (∀ U, Below wv.heap.size wv U → Calls Try.prog 5 #[.agg #[.slice x n c, .int .i64 lim], .agg #[.int .i64 i1, .int .i64 i2, .int .i64 i3, .int .i64 i4, .int .i64 i5, .int .i64 i6]] U fun e w' => ∃ (y : Option Addr) (cap : Nat), e = .returned (.tuple #[.agg #[.slice y (n + 1) cap, .int .i64 lim], .bool true]) ∧ PO U.heap.size w' y (n + 1) cap G ∧ Below U.heap.size U w') := fun U h => by
        have := ipush_in x n c g lim i1 i2 i3 i4 i5 i6 U hnm HNC.out (HPA.out U h) HOK.out (by rw [hG]; exact hin)
        rw [hG] at this
        exact this
      have HF : Hid (fifoB G (n + 1) lim = true) := hin
      have HG : Hid (pushF g n ⟨i1, i2, i3, i4, i5, i6⟩ = G) := hG
      clear hin hG
      go_upto_region 3 with (go_at_call 5; refine (HIN.out _ HR0.out).mono ?_; rintro e w2 ⟨y, cy, rfl, hy, b2⟩)
      obtain ⟨B, hB⟩ : ∃ B, w2.heap.size = B := ⟨_, rfl⟩
      obtain ⟨wb, hwb⟩ : ∃ z, w2.alloc (.cells #[.slice y (n + 1) cy, .int .i64 lim] 25) = z := ⟨_, rfl⟩
      have bb : Below w2.heap.size w2 wb := by rw [← hwb]; exact (Below.refl _ _).alloc (Nat.le_refl _) _
      have HSB : Hid (Sits wb B #[.slice y (n + 1) cy, .int .i64 lim] 25) := by show Sits _ _ _ _; rw [← hwb]; exact Sits.new' hB
      have HBB : Hid (Below wv.heap.size wv wb) := b2.trans (bb.mono b2.size)
      have hBl : B < wb.heap.size := Sits.lt HSB.out
      have hVB : wv.heap.size ≤ B := by rw [← hB]; exact b2.size
      have hcy : n + 1 ≤ cy := hy.cap
      have HY : Hid (ZI wv.heap.size B wb y ((n + 1) * 6) (flat G)) := by show ZI _ _ _ _ _ _; rw [← hB]; exact (hy.zi).below bb
      rw [hwb, hB]
      clear hwb bb b2 c0 c1 d0 d1 d2 d3 d4 d5 hy hB
      obtain ⟨c0, c1, d0, d1, d2, d3, d4, d5⟩ := HVA.out _ HBB.out
      have HBO : Hid (∀ U, Below wb.heap.size wb U → Below wv.heap.size wv U ∧ U.cell? ⟨B, 0, none⟩ = some (.slice y (n + 1) cy) ∧ U.cell? ⟨B, 1, none⟩ = some (.int .i64 lim) ∧ PR U.heap.size U y (n + 1) G) := fun U h => ⟨HBB.out.trans (h.mono HBB.out.size), (Sits.below HSB.out h hBl).cell 0, (Sits.below HSB.out h hBl).cell 1, (PR.below (ZI.pr HY.out) h).mono h.size⟩
      have HSUM : Hid (bytesF G (n + 1) lim = bytesF g n lim + i4) := by show _ = _; unfold bytesF; rw [HF.out, HS5.out, ← HG.out]; simpa using sum_pushed g n ⟨i1, i2, i3, i4, i5, i6⟩
      have HSZ : Hid ((0 ≤ bytesF g n lim ∧ bytesF g n lim ≤ 2000 * (n : Int)) ∧ 1 ≤ i4 ∧ i4 ≤ 2000) := by
        have hln : lineP g n := (fifo_nums HS5.out).2.2.2
        have hq := good_nums HS4.out
        refine ⟨?_, hq.2.2.2.2.1⟩
        unfold bytesF; rw [if_pos HS5.out]
        exact sumF_bd g n (fun j hj => (good_nums (hln j hj).1).2.2.2.2.1)
      go_upto_region 5 with (first | (go_at_call 6; refine (HFK.out _ HBB.out).mono ?_; rintro e w3 ⟨rfl, b3⟩; have HB3 : Hid (Below wb.heap.size wb w3) := b3; clear b3; obtain ⟨e0, e1, f0, f1, f2, f3, f4, f5⟩ := HVA.out _ (((HBO.out) _ HB3.out).1)) | (go_at_call 7; refine (HPK.out _).mono ?_; rintro e w4 ⟨rfl, b4⟩))
      have HB4 : Hid (Below wb.heap.size wb w4) := (HB3.out).trans (b4.mono (HB3.out).size)
      clear b4 c0 c1 d0 d1 d2 d3 d4 d5 e0 e1 f0 f1 f2 f3 f4 f5
      obtain ⟨p0, z0, z1, -⟩ := (HBO.out) _ HB4.out
      obtain ⟨k0, k1, m0, m1, m2, m3, m4, m5⟩ := HVA.out _ p0
      clear p0
      have hl4 : B < w4.heap.size := Nat.lt_of_lt_of_le hBl (HB4.out).size
      have hv4 : V + 1 < w4.heap.size := by omega
      have HBASE : Hid (∀ U, Below w4.heap.size w4 U → Below wb.heap.size wb U) := fun U h => (HB4.out).trans (h.mono (HB4.out).size)
      have HIF : Hid (∀ U, Below w4.heap.size w4 U → Calls Try.prog 10 #[.agg #[.slice y (n + 1) cy, .int .i64 lim]] U fun e w' => e = .returned (.bool true) ∧ Below U.heap.size U w') := fun U h => by
        have := ififoOk_any y (n + 1) cy G lim U (by omega) hcy (((HBO.out) _ ((HBASE.out) U h)).2.2.2)
        rw [HF.out] at this
        exact this
      obtain ⟨sg, hsg⟩ : ∃ s, bytesF g n lim = s := ⟨_, rfl⟩
      have HIB : Hid (∀ U, Below w4.heap.size w4 U → Calls Try.prog 11 #[.agg #[.slice y (n + 1) cy, .int .i64 lim]] U fun e w' => e = .returned (.int .i64 (sg + i4)) ∧ Below U.heap.size U w') := fun U h => by
        have := ibytes_any y (n + 1) cy G lim U (by omega) hcy (((HBO.out) _ ((HBASE.out) U h)).2.2.2)
        rw [HSUM.out, hsg] at this
        exact this
      have HIX : Hid (∀ U, Below w4.heap.size w4 U → Calls Try.prog 11 #[.agg #[.slice x n c, .int .i64 lim]] U fun e w' => e = .returned (.int .i64 sg) ∧ Below U.heap.size U w') := fun U h => by
        have := ibytes_any x n c g lim U hnm HNC.out (HPA.out _ (((HBO.out) _ ((HBASE.out) U h)).1))
        rw [hsg] at this
        exact this
      have hsz := HSZ.out
      rw [hsg] at hsz
      obtain ⟨⟨sg0, sg1⟩, si0, si1⟩ := hsz
      have hwr : IntKind.i64.wrap (sg + i4) = sg + i4 := by rw [IntKind.wrap_i64]; omega
      clear hsg
      have HW4 : Hid (Below w.heap.size w w4) := (HB.out).trans ((((HBO.out) _ HB4.out).1).mono (HB.out).size)
      go_wp2
      refine wp_region_quiet (C := fun w' => Below w4.heap.size w4 w') (by kernel_rfl) (by kernel_rfl) ((Below.refl _ _).drew) ?_
      simp only []
      repeat (first
        | go_big_quiet_skip
        | (go_big_quiet_want
           unfold Oper.quiet
           apply Exists.intro
           refine ⟨fun w' hw' => ?_, ?_⟩
           (have y0 := (hw'.cell (p := ⟨B, 0, none⟩) hl4).trans z0
            have y1 := (hw'.cell (p := ⟨B, 1, none⟩) hl4).trans z1
            have x0 := (hw'.cell (p := ⟨V, 0, none⟩) (by show V < _; omega)).trans k0
            have x1 := (hw'.cell (p := ⟨V, 1, none⟩) (by show V < _; omega)).trans k1
            have u0 := (hw'.cell (p := ⟨V + 1, 0, none⟩) hv4).trans m0
            have u1 := (hw'.cell (p := ⟨V + 1, 1, none⟩) hv4).trans m1
            have u2 := (hw'.cell (p := ⟨V + 1, 2, none⟩) hv4).trans m2
            have u3 := (hw'.cell (p := ⟨V + 1, 3, none⟩) hv4).trans m3
            have u4 := (hw'.cell (p := ⟨V + 1, 4, none⟩) hv4).trans m4
            have u5 := (hw'.cell (p := ⟨V + 1, 5, none⟩) hv4).trans m5
            go_simp
            first
              | (go_at_call 10; refine ((HIF.out) _ hw').mono ?_; rintro e w1 ⟨rfl, hk1⟩; exact ⟨rfl, hw'.trans (hk1.mono hw'.size)⟩)
              | (go_at_call 11; refine ((HIB.out) _ hw').mono ?_; rintro e w1 ⟨rfl, hk1⟩; exact ⟨rfl, hw'.trans (hk1.mono hw'.size)⟩)
              | (go_at_call 11; refine ((HIX.out) _ hw').mono ?_; rintro e w1 ⟨rfl, hk1⟩; exact ⟨rfl, hw'.trans (hk1.mono hw'.size)⟩)
              | (go_at_call 12; refine ((HIP.out) _).mono ?_; rintro e w1 ⟨rfl, hk1⟩; exact ⟨rfl, hw'.trans (hk1.mono hw'.size)⟩)
              | exact rfl)
           simp only [Act.put, List.setIfInBounds_toArray, List.set_cons_zero, List.set_cons_succ]
           go_big_quiet_on))
      refine wpQuiet_nil ?_
      intro w5 hw5
      clear z0 z1 k0 k1 m0 m1 m2 m3 m4 m5 HIF HIB HIX hwr
      have HB5 : Hid (Below wb.heap.size wb w5) := (HB4.out).trans (hw5.mono (HB4.out).size)
      have hl5 : B < w5.heap.size := Nat.lt_of_lt_of_le hl4 hw5.size
      clear hw5
      have HVB : Hid (∀ U, Below B w5 U → U.cell? ⟨V, 0, none⟩ = some (.slice x n c) ∧ U.cell? ⟨V, 1, none⟩ = some (.int .i64 lim) ∧ U.cell? ⟨V + 1, 0, none⟩ = some (.int .i64 i1) ∧ U.cell? ⟨V + 1, 1, none⟩ = some (.int .i64 i2) ∧ U.cell? ⟨V + 1, 2, none⟩ = some (.int .i64 i3) ∧ U.cell? ⟨V + 1, 3, none⟩ = some (.int .i64 i4) ∧ U.cell? ⟨V + 1, 4, none⟩ = some (.int .i64 i5) ∧ U.cell? ⟨V + 1, 5, none⟩ = some (.int .i64 i6) ∧ PR U.heap.size U x n g ∧ Below w.heap.size w U) := fun U h => by
        have hz : B ≤ w5.heap.size := Nat.le_of_lt hl5
        have hbw : Below B wb U := ((HB5.out).mono (Nat.le_of_lt hBl)).trans h
        have hbv : Below wv.heap.size wv U := (HBB.out).trans (hbw.mono hVB)
        obtain ⟨a0, a1, a2, a3, a4, a5, a6, a7⟩ := HVA.out U hbv
        exact ⟨a0, a1, a2, a3, a4, a5, a6, a7, HPA.out U hbv, (HB.out).trans (hbv.mono (HB.out).size)⟩
      have HS5' : Hid (Sits w5 B #[.slice y (n + 1) cy, .int .i64 lim] 25) := Sits.below HSB.out HB5.out hBl
      have HZ5 : Hid (ZI wv.heap.size B w5 y ((n + 1) * 6) (flat G)) := ZI.below HY.out HB5.out
      clear HVA HBO HBASE HPA HFK HPK HIP HB5 HB4 HB3 HSB HY HW4 HIN
      go_wp2
      go_loopw [7, 8] (fun out i wr => ∃ (k m : Nat) (z : Option Addr) (cz : Nat) (ox : Option Addr) (oc L U : Nat), k + m = n + 1 ∧ i = .int .i64 k ∧ out = .slice ox k oc ∧ PO (B + 1) wr ox k oc G ∧ (∀ q, (Value.slice ox k oc).ownBlock = some q → q < L ∨ U ≤ q) ∧ ZI L U wr z (m * 6) (flat (shiftG G k)) ∧ (B < L ∨ U ≤ B) ∧ U ≤ wr.heap.size ∧ m ≤ cz ∧ Sits wr B #[.slice z m cz, .int .i64 lim] 25 ∧ Below B w5 wr) (fun _ i _ => n + 1 - (intOf i).toNat)
      case atStart => exact ⟨0, n + 1, y, cy, none, 0, wv.heap.size, B, by omega, rfl, rfl, PO.nil _ _ _, by simp [Value.ownBlock], by rw [shift_zero]; exact HZ5.out, .inr (Nat.le_refl _), Nat.le_of_lt hl5, hcy, HS5'.out, Below.refl _ _⟩
      case round =>
        obtain ⟨k, m, z, cz, ox, oc, L, U, hkm, rfl, rfl, ho, hoa, hz, hBL, hU, hmc, hs, hbel⟩ := hrel
        obtain ⟨wk, rfl⟩ : ∃ W, W = wr := ⟨wr, rfl⟩
        have HBW : Hid (Below B w5 wk) := hbel
        have HO : Hid (PO (B + 1) wk ox k oc G) := ho
        have HOA : Hid (∀ q, (Value.slice ox k oc).ownBlock = some q → q < L ∨ U ≤ q) := hoa
        have HZ : Hid (ZI L U wk z (m * 6) (flat (shiftG G k))) := hz
        have HS : Hid (Sits wk B #[.slice z m cz, .int .i64 lim] 25) := hs
        have hsl := hs.lt
        have hki : (k : Int) ≤ 14 := by omega
        obtain ⟨c0, c1, d0, d1, d2, d3, d4, d5, -, -⟩ := HVB.out _ HBW.out
        have s0 : wk.cell? ⟨B, 0, none⟩ = some (.slice z m cz) := hs.cell 0
        have s1 : wk.cell? ⟨B, 1, none⟩ = some (.int .i64 lim) := hs.cell 1
        clear hbel ho hoa hz hs
        have hfB : ∀ j, wk.frozen? ⟨B, j, none⟩ = false := fun j => Sits.frozen HS.out j
        rcases Nat.eq_zero_or_pos m with hm | hm
        case inr =>
          obtain ⟨m', rfl⟩ : ∃ m', m = m' + 1 := ⟨m - 1, by omega⟩
          have hcond : (k : Int) ≤ (n : Int) := by omega
          clear hfB
          go_upto_region 14 with (go_at_call 13; refine (ipop_head z G (n + 1) k m' cz lim _ HF.out hkm hmc (ZI.pr HZ.out)).mono ?_; rintro e w6 ⟨t, ct, rfl, ht, b6⟩)
          obtain ⟨D, hD⟩ : ∃ D, w6.heap.size = D := ⟨_, rfl⟩
          obtain ⟨W, hW⟩ : ∃ z, (w6.alloc (.cells #[.slice t m' ct, .int .i64 lim] 25)).alloc (.cells #[.int .i64 (G k).id, .int .i64 (G k).flow, .int .i64 (G k).host, .int .i64 (G k).size, .int .i64 (G k).tm, .int .i64 (G k).ecn] 27) = z := ⟨_, rfl⟩
          have b6' : Below wk.heap.size wk W := by rw [← hW]; exact (b6.alloc b6.size _).alloc (by have := b6.size; simp; omega) _
          have HWS : Hid (W.heap.size = D + 2) := by show _ = _; rw [← hW, ← hD]; simp
          have bD : Below w6.heap.size w6 W := by rw [← hW]; exact ((Below.refl _ _).alloc (Nat.le_refl _) _).alloc (by simp) _
          have s6 : Sits W D #[.slice t m' ct, .int .i64 lim] 25 := by rw [← hW]; exact (Sits.new' hD).alloc _
          have q6 : Sits W (D + 1) #[.int .i64 (G k).id, .int .i64 (G k).flow, .int .i64 (G k).host, .int .i64 (G k).size, .int .i64 (G k).tm, .int .i64 (G k).ecn] 27 := by rw [← hW]; exact Sits.new' (by simp [hD])
          have HT : Hid (ZI wk.heap.size D W t (m' * 6) (flat (shiftG G (k + 1)))) := by show ZI _ _ _ _ _ _; rw [← hD]; exact (ht.zi).below bD
          have hct : m' ≤ ct := ht.cap
          have hDk : wk.heap.size ≤ D := by rw [← hD]; exact b6.size
          have HO6 : Hid (PO (B + 1) W ox k oc G) := PO.below HO.out b6'
          have hBWl : B < W.heap.size := Nat.lt_of_lt_of_le hsl b6'.size
          have HOL : Hid (∀ q, (Value.slice ox k oc).ownBlock = some q → B + 1 ≤ q ∧ q < wk.heap.size) := PO.own_lt HO.out
          have HS6 : Hid (Sits W B #[.slice z (m' + 1) cz, .int .i64 lim] 25) := Sits.below HS.out b6' hsl
          have HBW6 : Hid (Below B w5 W) := (HBW.out).trans (b6'.mono (by omega))
          have HD6 : Hid (Sits W D #[.slice t m' ct, .int .i64 lim] 25) := s6
          have e0 : W.cell? ⟨D + 1, 0, none⟩ = some (.int .i64 (G k).id) := q6.cell 0
          have e1 : W.cell? ⟨D + 1, 1, none⟩ = some (.int .i64 (G k).flow) := q6.cell 1
          have e2 : W.cell? ⟨D + 1, 2, none⟩ = some (.int .i64 (G k).host) := q6.cell 2
          have e3 : W.cell? ⟨D + 1, 3, none⟩ = some (.int .i64 (G k).size) := q6.cell 3
          have e4 : W.cell? ⟨D + 1, 4, none⟩ = some (.int .i64 (G k).tm) := q6.cell 4
          have e5 : W.cell? ⟨D + 1, 5, none⟩ = some (.int .i64 (G k).ecn) := q6.cell 5
          rw [hW, hD]
          clear hW hD bD b6' b6 s6 q6 ht s0 s1 c0 c1 d0 d1 d2 d3 d4 d5
          go_upto_region 17 with (at_builtin; refine wpList_append_pk1 rfl _ _ rfl (B + 1) ox k oc G rfl (po_alloc HO6.out _) W.heap.size (G k) rfl (Lies.pk (Lies.new W (pkCells (G k)) _)) (by omega) (by simp; omega) ?_; intro gb c' w7 hbo hgrow hat hlt7)
          have hWs := HWS.out
          have hgr : ∀ j, j < W.heap.size → (∀ q, (Value.slice ox k oc).ownBlock = some q → j ≠ q) → w7.heap[j]? = W.heap[j]? := fun j hj hq => (hgrow.block j (by simp; omega) (fun e => hq j e.symm rfl)).trans (Below.heap_alloc W _ j hj)
          have t7 : Sits w7 B #[.slice z (m' + 1) cz, .int .i64 lim] 25 := (hgr B (by omega) (fun q e => by have := (HOL.out) q e; omega)).trans HS6.out
          have u7 : Sits w7 D #[.slice t m' ct, .int .i64 lim] 25 := (hgr D (by omega) (fun q e => by have := (HOL.out) q e; omega)).trans HD6.out
          have x0 : w7.cell? ⟨D, 0, none⟩ = some (.slice t m' ct) := u7.cell 0
          have x1 : w7.cell? ⟨D, 1, none⟩ = some (.int .i64 lim) := u7.cell 1
          have x2 : w7.cell? ⟨B, 0, none⟩ = some (.slice z (m' + 1) cz) := t7.cell 0
          have x3 : w7.cell? ⟨B, 1, none⟩ = some (.int .i64 lim) := t7.cell 1
          have x4 := t7.frozen
          have HT7 : Hid (Sits w7 B #[.slice z (m' + 1) cz, .int .i64 lim] 25) := t7
          have bz : Below (B + 1) (W.alloc (.cells (pkCells (G k)) 27)) w7 := (Below.refl _ _).grown hgrow (by simp; omega) (fun q e => ((HOL.out) q e).1)
          have HBZ : Hid (Below B w5 w7) := ((HBW6.out).alloc (by omega) _).trans (bz.mono (by omega))
          have HZ7 : Hid (ZI wk.heap.size D w7 t (m' * 6) (flat (shiftG G (k + 1)))) := zi_grown (ZI.below HT.out ((Below.refl _ _).alloc (Nat.le_refl _) _)) hgrow (fun q e => .inl ((HOL.out) q e).2)
          have HO7 : Hid (PO (B + 1) w7 (some ⟨gb, 0, none⟩) (k + 1) c' G) := PO.congr hbo (fun i hi => by show (if i = k then G k else G i) = G i; split <;> simp_all)
          have HAT : Hid (∀ q, (Value.slice (some ⟨gb, 0, none⟩) (k + 1) c').ownBlock = some q → q < wk.heap.size ∨ D ≤ q) := fun q e => by
            obtain rfl : gb = q := by simpa [Value.ownBlock] using e
            rcases hat with h | h
            · exact .inl (((HOL.out) gb h).2)
            · exact .inr (by rw [h]; simp; omega)
          have h7s : D + 2 ≤ w7.heap.size := by have := hgrow.size; simp at this; omega
          clear hWs hgr t7 u7 bz hgrow hat hbo e0 e1 e2 e3 e4 e5
          go_wp2
          go_roundw
          case rel => exact ⟨k + 1, m', t, ct, some ⟨gb, 0, none⟩, c', wk.heap.size, D, by omega, by go_num, rfl, ((HO7.out).far (by omega) 0 _).far (by omega) 1 _, HAT.out, zi_low (zi_low HZ7.out (by omega) 0 _) (by omega) 1 _, .inl hsl, by simp; omega, hct, ((HT7.out).set 0 _).set 1 _, ((HBZ.out).setCell (Nat.le_refl _) _).setCell (Nat.le_refl _) _⟩
          case measure => simp [intOf]; omega
        case inl =>
          subst hm
          obtain rfl : k = n + 1 := by omega
          have hcond : ¬ (((n + 1 : Nat) : Int) ≤ (n : Int)) := by omega
          have hcond2 : ¬ ((n : Int) + 1 ≤ (n : Int)) := by omega
          clear HZ hfB
          go_upto_region 19 with (go_at_call 13; refine (ipop_none z G cz lim _).mono ?_; rintro e w6 ⟨t, ct, l, rfl, b6⟩)
          obtain ⟨W, hW⟩ : ∃ z, (w6.alloc (.cells #[.slice t 0 ct, .int .i64 l] 25)).alloc (.cells #[.int .i64 0, .int .i64 0, .int .i64 0, .int .i64 0, .int .i64 0, .int .i64 0] 27) = z := ⟨_, rfl⟩
          have b6' : Below wk.heap.size wk W := by rw [← hW]; exact (b6.alloc b6.size _).alloc (by have := b6.size; simp; omega) _
          have HO6 : Hid (PR W.heap.size W ox (n + 1) G) := ZI.pr (PO.zi (PO.below HO.out b6'))
          have HBW6 : Hid (Below B w5 W) := (HBW.out).trans (b6'.mono (by omega))
          have hWl : B < W.heap.size := Nat.lt_of_lt_of_le hsl b6'.size
          have hvw : wv.heap.size < W.heap.size := by omega
          rw [hW]
          clear hW b6' b6 s0 s1 c0 c1 d0 d1 d2 d3 d4 d5 HO HS HBW HOA
          have HVW : Hid (∀ U, Below W.heap.size W U → (U.cell? ⟨V, 0, none⟩ = some (.slice x n c) ∧ U.cell? ⟨V + 1, 0, none⟩ = some (.int .i64 i1) ∧ U.cell? ⟨V + 1, 1, none⟩ = some (.int .i64 i2) ∧ U.cell? ⟨V + 1, 2, none⟩ = some (.int .i64 i3) ∧ U.cell? ⟨V + 1, 3, none⟩ = some (.int .i64 i4) ∧ U.cell? ⟨V + 1, 4, none⟩ = some (.int .i64 i5) ∧ U.cell? ⟨V + 1, 5, none⟩ = some (.int .i64 i6)) ∧ PR U.heap.size U x n g ∧ PR U.heap.size U ox (n + 1) G ∧ Below w.heap.size w U) := fun U h => by
            obtain ⟨a0, a1, a2, a3, a4, a5, a6, a7, a8, a9⟩ := HVB.out U ((HBW6.out).trans (h.mono (Nat.le_of_lt hWl)))
            exact ⟨⟨a0, a2, a3, a4, a5, a6, a7⟩, a8, (PR.below HO6.out h).mono h.size, a9⟩
          obtain ⟨⟨v0, p0, p1, p2, p3, p4, p5⟩, -, -, -⟩ := HVW.out _ (Below.refl _ _)
          have hn1 : n + 1 ≤ 1048576 := by omega
          have HEQ : Hid (∀ i, i < n + 1 → G i = (if i = n then (Pk.mk i1 i2 i3 i4 i5 i6) else g i)) := fun i _ => by rw [← HG.out]; rfl
          clear hcond hcond2
          go_upto_region 19 with fail
          go_region_held3 (fun w' => w'.cell? ⟨V, 0, none⟩ = some (.slice x n c) ∧ w'.cell? ⟨V + 1, 0, none⟩ = some (.int .i64 i1) ∧ w'.cell? ⟨V + 1, 1, none⟩ = some (.int .i64 i2) ∧ w'.cell? ⟨V + 1, 2, none⟩ = some (.int .i64 i3) ∧ w'.cell? ⟨V + 1, 3, none⟩ = some (.int .i64 i4) ∧ w'.cell? ⟨V + 1, 4, none⟩ = some (.int .i64 i5) ∧ w'.cell? ⟨V + 1, 5, none⟩ = some (.int .i64 i6)) (first | (with_reducible exact (HVW.out _ (bel0 W)).1) | (with_reducible exact (HVW.out _ (bel1 W _)).1) | (with_reducible exact (HVW.out _ (bel2 W _ _)).1) | (with_reducible exact (HVW.out _ b6).1) | (with_reducible exact (HVW.out _ (Below.alloc b6 (Below.size b6) _)).1) | (with_reducible exact (HVW.out _ b7).1) | (with_reducible exact (HVW.out _ b8).1) | fail) (first | (refine step_append_pkG rfl _ _ rfl W.heap.size _ rfl (mk1 W) x n c g rfl ((HVW.out _ (bel1 W _)).2.1) hnm (Below.size (bel1 W _)) ?_; intro g6 c6 w6 ho6 hg6; have b6 : Below W.heap.size W w6 := Below.grown (bel1 W _) hg6 (Below.size (bel1 W _)) (fun k e => by have := own_at e; omega)) | (refine step_append_pkG rfl _ _ rfl W.heap.size _ rfl (mk2 W _) x n c g rfl ((HVW.out _ (bel2 W _ _)).2.1) hnm (Below.size (bel2 W _ _)) ?_; intro g6 c6 w6 ho6 hg6; have b6 : Below W.heap.size W w6 := Below.grown (bel2 W _ _) hg6 (Below.size (bel2 W _ _)) (fun k e => by have := own_at e; omega); have hq6 : PAt w6 (W.heap.size + 1) 0 (Pk.mk i1 i2 i3 i4 i5 i6) := mk2q hg6) | (refine step_append_pkG rfl _ _ rfl W.heap.size _ rfl (mk3 W _) x n c g rfl ((HVW.out _ (bel2 W _ _)).2.1) hnm (Below.size (bel2 W _ _)) ?_; intro g6 c6 w6 ho6 hg6; have b6 : Below W.heap.size W w6 := Below.grown (bel2 W _ _) hg6 (Below.size (bel2 W _ _)) (fun k e => by have := own_at e; omega); have hq6 : PAt w6 W.heap.size 0 (Pk.mk i1 i2 i3 i4 i5 i6) := mk3q hg6) | (refine step_append_pk1G rfl _ _ rfl W.heap.size g6 n c6 g rfl (po_alloc ho6 _) w6.heap.size (Pk.mk i1 i2 i3 i4 i5 i6) rfl (Lies.pk (Lies.new w6 (pkCells (Pk.mk i1 i2 i3 i4 i5 i6)) _)) hnm (Below.size (Below.alloc b6 (Below.size b6) _)) ?_; intro gb cb w7 ho7 hg7 hat7 hlt7; have b7 : Below W.heap.size W w7 := Below.grown (Below.alloc b6 (Below.size b6) _) hg7 (Below.size (Below.alloc b6 (Below.size b6) _)) (fun k e => (PO.own_lt (po_alloc ho6 (.cells #[] 0)) k e).1)) | (refine step_append_pk1G rfl _ _ rfl W.heap.size g6 n c6 g rfl ho6 (W.heap.size + 1) (Pk.mk i1 i2 i3 i4 i5 i6) rfl hq6 hnm (Below.size b6) ?_; intro gb cb w7 ho7 hg7 hat7 hlt7; have b7 : Below W.heap.size W w7 := Below.grown b6 hg7 (Below.size b6) (fun k e => (PO.own_lt ho6 k e).1)) | (refine step_append_pk1G rfl _ _ rfl W.heap.size g6 n c6 g rfl ho6 W.heap.size (Pk.mk i1 i2 i3 i4 i5 i6) rfl hq6 hnm (Below.size b6) ?_; intro gb cb w7 ho7 hg7 hat7 hlt7; have b7 : Below W.heap.size W w7 := Below.grown b6 hg7 (Below.size b6) (fun k e => (PO.own_lt ho6 k e).1)) | (go_at_call 9; refine (samePkts_yes _ _ (n + 1) _ _ G _ w7 hn1 ((HVW.out _ b7).2.2.1) (ZI.pr (PO.zi ho7)) HEQ.out).mono ?_; rintro e w8 ⟨rfl, hk8, -⟩; have b8 : Below W.heap.size W w8 := b7.trans (hk8.1.mono b7.size)))
          all_goals
            go_wp2_with fail
            go_ret
            exact ⟨rfl, (HVW.out _ b8).2.2.2⟩

set_option maxRecDepth 100000 in
theorem lifted (os : Os) (started : os.Started) (H : Type) (enc : TypeId × Value → H) :
    ReturnsInHanded {} Try.checked os 3 .any (Rows.fnFifosSpec.pre6 enc Try.prog Try.f3 Rows.fnFifosRow.domain false) (Rows.fnFifosSpec.post enc Try.prog Try.f3 false true false false) := by
  refine returnsInHanded_of_change (C := Try.checked) own started (by kernel_rfl) Try.func3
    (ChangeSpec.witness6 (enc := enc) (C := Try.checked) false ⟨#[], #[.slice none 0 0], []⟩ 8 (by kernel_rfl) (by kernel_rfl) (by kernel_rfl) (by kernel_rfl)) ?_
  intro W base args ds gs before hval0 hW hcnd _
  have hval : ∀ (j : Nat) t v, Try.f3.params[j]? = some t → args[j]? = some v → Value.okWide Try.prog W .any base t v := hval0
  have hW' := hW
  obtain ⟨p, q, hA0, hV, rfl, hfz, hnd⟩ := hW
  have hA : DataW.TrodAll enc Try.prog W 0 (fun _ => true) true Try.f3.params.toList args.toList ds p := hA0
  rw [Try.params3] at hA hval
  obtain ⟨v0, vs0, d0, ds0, p0, q0, hargs, rfl, rfl, h0, r0⟩ := trodAll_cons hA
  obtain ⟨rfl, rfl, rfl⟩ := trodAll_nil r0
  obtain rfl : args = #[v0] := by cases args; simp_all
  obtain ⟨rfl, rfl⟩ := trodVars_none hV
  obtain ⟨a0, len0, cap0, rfl⟩ := okWide_slice Try.underlying22 (hval 0 22 v0 rfl rfl)
  have k0 := h0
  have lt0 : ∀ x ∈ p0, x.block < W.heap.size := by obtain ⟨m, hm⟩ := k0; exact DataW.trod_lt m _ _ _ hm
  obtain ⟨z0, w0⟩ : ∃ zs, IsRow .u8 W a0 len0 cap0 zs := by
    obtain ⟨fuel, hf⟩ := h0
    rcases open_ints Try.underlying22 Try.underlying5 (by kernel_rfl) hf with ⟨hcs, _⟩ | ⟨x, l, c, zs, hcs, _, hl, hm, hz, _, hcell, hwz⟩
    · simp [Value.cells] at hcs
      obtain ⟨rfl, rfl, rfl⟩ := hcs
      exact ⟨[], .inl ⟨rfl, rfl, rfl, rfl⟩⟩
    · simp [Value.cells] at hcs
      obtain ⟨rfl, rfl, rfl⟩ := hcs
      exact ⟨zs, .inr ⟨_, rfl, hl, hm, by simpa using hz, hcell, hwz⟩⟩
  clear hA0 hval0
  refine (walk a0 len0 cap0 z0 W w0).mono fun e W' ⟨he, bel⟩ => ?_
  subst he
  exact ⟨_, rfl, _, _, _, [], _, [], hW', trodAll_mk1 (shut_bool Try.underlying4 _), (trodAll_cons_mk (Below.trod laidOut (by kernel_rfl) (of_decide_eq_true (by kernel_rfl)) k0 bel lt0) trodAll_mk0), rfl, bel.frame _, fun h => by cases h⟩

theorem over : Rows.fnFifosRow.holds Try.pinned (OpenSpec.ofChange Rows.fnFifosSpec) :=
  OpenClaim.holds_of_wide 3 Try.f3 rfl rfl rfl rfl rfl rfl rfl ⟨rfl, rfl, rfl, rfl, rfl⟩ rfl rfl rfl rfl rfl (by kernel_rfl) Try.func3 (by kernel_rfl)
    (of_decide_eq_true (by kernel_rfl)) (by unfold Func.isWrapper; first | (rw [if_pos (by decide +kernel)]; kernel_rfl) | (rw [if_neg (by decide +kernel)]; exact ⟨rfl, rfl⟩))
    (fun os started H enc _ => lifted os started H enc)

theorem proved : Rows.FnFifosSaid := over
end Go.Proofs.Ytkmiijgoinpndaa.fnFifos
namespace Go.Proofs.Ytkmiijgoinpndaa
theorem fnFifos_holds : Rows.FnFifosSaid := fnFifos.proved
#print axioms fnFifos_holds
end Go.Proofs.Ytkmiijgoinpndaa
