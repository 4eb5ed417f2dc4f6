/-
  Whatever bytes the law FnFlows draws its queue from, it returns true and leaves the bytes as they were: the flows of a queue have all its packets, each in order, and the first one waits as long as it is there; no condition.
-/
import Derived.Test.YtjojodgjddlkhabRows
import Derived.WalkKit
import Derived.ProofKit
import Derived.OpenShut
import Derived.BigQuiet
import Derived.Deep.QuietTactic
import Derived.Deep.Quiet
import Derived.Deep.RegionHeld3
import Derived.Deep.Cut
import Derived.Test.YtjojodgjddlkhabQOps
import Derived.Test.YtjojodgjddlkhabFlowsN
import Derived.Test.YtjojodgjddlkhabFifosQ
import Derived.ShutString
import Derived.ChangeOld
import Derived.Below
namespace Go.Proofs.Ytjojodgjddlkhab.fnFlows
open Go.ChangeShapes Go.WideShapes Go.ChangeAt Go.RowKit
open Go.ChangeMaps (open_string shut_string)
set_option linter.unusedVariables false

theorem own : ownKnob Try.prog.godebug = none := by kernel_rfl
theorem laidOut : laidOutB Try.prog = true := by kernel_rfl

/-- A slice of integers that came in. -/
def IsRow (k : IntKind) (w : World) (a : Option Addr) (len cap : Nat) (zs : List Int) : Prop :=
  (a = none ∧ len = 0 ∧ cap = 0 ∧ zs = []) ∨
  ∃ x, a = some x ∧ len ≤ cap ∧ cap ≤ maxLen ∧ zs.length = cap ∧ (∀ i, i < zs.length → w.cell? (x.add i) = some (.int k (zs.getD i 0))) ∧ ∀ n ∈ zs, (Lit.int k n).wf = true

theorem code_of {w : World} {a : Option Addr} {len cap : Nat} {zs : List Int} (h : IsRow .u8 w a len cap zs) : len ≤ 9223372036854775807 ∧ Code w w.heap.size a len := by
  rcases h with ⟨rfl, rfl, rfl, rfl⟩ | ⟨x, rfl, hl, hm, hz, hcell, hwz⟩
  · exact ⟨by omega, .inl rfl⟩
  · unfold maxLen at hm
    refine ⟨by omega, ?_⟩
    by_cases h0 : len = 0
    · exact .inl h0
    · obtain ⟨b, off, rfl, hc⟩ := ints_at hcell (by omega)
      refine .inr ⟨b, off, rfl, World.block_lt_of_cell? w _ (hc 0 (by omega)), fun k hk => ?_⟩
      have hb := bounds_u8 (hwz (zs.getD k 0) (by rw [List.getD_eq_getElem?_getD, List.getElem?_eq_getElem (by omega)]; exact List.getElem_mem _))
      exact ⟨zs.getD k 0, hb.1, hb.2, hc k (by omega)⟩


theorem ofR_len (f : Nat → Pk) (n : Nat) (lim flow : Int) : (ofR f n lim flow).length = if fifoB f n lim = true then (posF f flow n).length else 0 := by
  unfold ofR
  cases h : fifoB f n lim
  · simp
  · simp [ofF_pos_len]
def cntR (f : Nat → Pk) (n : Nat) (lim : Int) (k : Nat) : Int := if fifoB f n lim = true then (cntK f n k : Int) else 0
theorem cntR_succ (f : Nat → Pk) (n : Nat) (lim : Int) (k : Nat) : cntR f n lim (k + 1) = cntR f n lim k + ((ofR f n lim (k : Int)).length : Int) := by
  unfold cntR
  rw [ofR_len]
  cases h : fifoB f n lim
  · simp
  · simp [cntK_succ]
theorem cntR_bd (f : Nat → Pk) (n : Nat) (lim : Int) (k : Nat) : 0 ≤ cntR f n lim k ∧ cntR f n lim k ≤ n := by
  unfold cntR
  have := cnt_le f k n
  split <;> omega

set_option maxRecDepth 100000 in
set_option maxHeartbeats 12000000 in
theorem walk (a0 : Option Addr) (len0 cap0 : Nat) (z0 : List Int) (w : World) (w0 : IsRow .u8 w a0 len0 cap0 z0) :
    Calls Try.prog 6 #[.slice a0 len0 cap0] w fun e w' => e = .returned (.bool true) ∧ Below w.heap.size w w' := by
  obtain ⟨hl, hcode⟩ := code_of w0
  clear w0
  have HC : Hid (Code w w.heap.size a0 len0) := hcode
  clear hcode
  go_enter Try.func6, Try.ntmps6
  go_wp2_with fail
  refine (drawOfFlow a0 len0 cap0 _ hl HC.out).mono ?_
  rintro e w1 ⟨x, n, c, lim, z, g, rfl, zx, hnk, hn13, hsm, ⟨l0, l1⟩, b1⟩
  clear HC hl
  go_upto_region 2 with fail
  obtain ⟨V, hV⟩ : ∃ V, w1.heap.size = V := ⟨_, rfl⟩
  obtain ⟨wv, hwv⟩ : ∃ y, w1.alloc (.cells #[.slice x n c, .int .i64 lim] 47) = y := ⟨_, rfl⟩
  have hbv : Below w1.heap.size w1 wv := by rw [← hwv]; exact (Below.refl _ _).alloc (Nat.le_refl _) _
  have HV : Hid (Sits wv V #[.slice x n c, .int .i64 lim] 47) := by show Sits _ _ _ _; rw [← hwv]; exact Sits.new' hV
  have hVl : V < wv.heap.size := Sits.lt HV.out
  have hpr : PR wv.heap.size wv x n g := ZI.pr (zx.below hbv)
  have HPR : Hid (PR wv.heap.size wv x n g) := hpr
  have HSM : Hid (∀ j, j < n → (g j).small) := hsm
  have HB : Hid (Below w.heap.size w wv) := b1.trans (hbv.mono b1.size)
  have hnm : n ≤ 1048576 := by omega
  have hni : (n : Int) ≤ 13 := by omega
  have HNC : Hid (n ≤ c) := hnk
  rw [hwv, hV]
  clear hwv hV hbv zx b1 hsm hpr
  have HPA : Hid (∀ U, Below wv.heap.size wv U → PR U.heap.size U x n g) := fun U h => (PR.below HPR.out h).mono h.size
  have HVA : Hid (∀ U, Below wv.heap.size wv U → U.cell? ⟨V, 0, none⟩ = some (.slice x n c) ∧ U.cell? ⟨V, 1, none⟩ = some (.int .i64 lim)) := fun U h => ⟨(Sits.below HV.out h hVl).cell 0, (Sits.below HV.out h hVl).cell 1⟩
  go_wp2
  go_loopw [5, 6] (fun s i wr => ∃ k : Nat, k ≤ 16 ∧ i = .int .i64 k ∧ s = .int .i64 (cntR g n lim k) ∧ Below wv.heap.size wv wr) (fun _ i _ => 16 - (intOf i).toNat)
  case atStart => exact ⟨0, by omega, rfl, by simp [cntR, cntK], Below.refl _ _⟩
  case round =>
    obtain ⟨k, hk, rfl, rfl, hBW⟩ := hrel
    obtain ⟨wk, rfl⟩ : ∃ W, W = wr := ⟨wr, rfl⟩
    have HBK : Hid (Below wv.heap.size wv wk) := hBW
    obtain ⟨c0, c1⟩ := HVA.out _ hBW
    have hcb := cntR_bd g n lim k
    by_cases hlt : k < 16
    · have hki : (k : Int) < 16 := by omega
      obtain ⟨L, hL⟩ : ∃ L, ofR g n lim (k : Int) = L := ⟨_, rfl⟩
      have hLl : L.length ≤ n := by
        rw [← hL]; unfold ofR; split
        · exact ofF_len _ _ _
        · simp
      have hcs : Hid (cntR g n lim (k + 1) = cntR g n lim k + (L.length : Int)) := by show _ = _; rw [cntR_succ, hL]
      have HL : Hid (ofR g n lim (k : Int) = L) := hL
      have hLi : (L.length : Int) ≤ 13 := by omega
      clear hBW hL
      go_upto_region 7 with (go_at_call 31; refine (iofFlow_any x n c g lim (k : Int) _ hnm HNC.out (HPA.out _ HBK.out)).mono ?_; rintro e w2 ⟨y, cy, rfl, hoi, b2⟩; rw [HL.out] at hoi ⊢)
      have B2 : Below wv.heap.size wv w2 := (HBK.out).trans (b2.mono (HBK.out).size)
      have HB2 : Hid (Below wv.heap.size wv w2) := B2
      have hrow : Row .i64 w2 y L.length (fun i => L.getD i 0) := ZI.row (OI.zi hoi)
      have HROW : Hid (Row .i64 w2 y L.length (fun i => L.getD i 0)) := hrow
      clear hoi hrow b2 c0 c1 HBK
      go_wp2
      go_loopw [8, 9] (fun la i wr => ∃ m : Nat, m ≤ L.length ∧ i = .int .i64 m ∧ la = .int .i64 (lastP g (k : Int) n m) ∧ Below w2.heap.size w2 wr) (fun _ i _ => L.length - (intOf i).toNat)
      case atStart => exact ⟨0, Nat.zero_le _, rfl, by rw [lastP_0], Below.refl _ _⟩
      case round =>
        obtain ⟨m, hm, rfl, rfl, hBX⟩ := hrel
        have HBX : Hid (Below w2.heap.size w2 wr) := hBX
        have hlb := lastP_bd g (k : Int) n m
        have hmi : (m : Int) ≤ 13 := by omega
        by_cases hlt2 : m < L.length
        · have hok : fifoB g n lim = true := by
            cases h : fifoB g n lim
            · have : L.length = 0 := by rw [← HL.out, ofR_len, h]; simp
              omega
            · rfl
          have hLF : L = ofF g (k : Int) n := by rw [← HL.out]; unfold ofR; rw [hok]; rfl
          have hmp : m < (posF g (k : Int) n).length := by rw [← ofF_pos_len, ← hLF]; exact hlt2
          have hline : lineP g n := (fifo_nums hok).2.2.2
          obtain ⟨p, hp⟩ : ∃ p, (posF g (k : Int) n)[m] = p := ⟨_, rfl⟩
          have hpn : p < n := by rw [← hp]; exact pos_lt hmp
          have hlp : lastP g (k : Int) n m < (p : Int) := by rw [← hp]; exact lastP_lt hmp
          have HLS : Hid (lastP g (k : Int) n (m + 1) = (p : Int)) := by show _ = _; rw [lastP_succ hmp, hp]
          have HID : Hid (∀ j, j < n → ((g j).id = L.getD m 0 ↔ j = p)) := fun j hj => by rw [hLF, ← hp]; exact id_at hline hmp hj
          obtain ⟨Q, hQ⟩ : ∃ Q, lastP g (k : Int) n m = Q := ⟨_, rfl⟩
          rw [hQ] at hlp hlb ⊢
          clear hok hLF hline hp hmp hQ hBX
          obtain ⟨wi, rfl⟩ : ∃ W, W = wr := ⟨wr, rfl⟩
          go_wp2
          go_loopw [8, 10] (fun la i wr => ∃ j : Nat, j ≤ n ∧ i = .int .i64 j ∧ la = .int .i64 (if p < j then (p : Int) else Q) ∧ Below wi.heap.size wi wr) (fun _ i _ => n - (intOf i).toNat)
          case atStart => exact ⟨0, Nat.zero_le _, rfl, by simp, Below.refl _ _⟩
          case round =>
            obtain ⟨j, hj, rfl, rfl, hBY⟩ := hrel
            have HBY : Hid (Below wi.heap.size wi wr) := hBY
            have hb2 : Below w2.heap.size w2 wr := (HBX.out).trans (hBY.mono (HBX.out).size)
            have hbv2 : Below wv.heap.size wv wr := (HB2.out).trans (hb2.mono (HB2.out).size)
            obtain ⟨c0, c1⟩ := HVA.out _ hbv2
            have hji : (j : Int) ≤ 13 := by omega
            by_cases hlt3 : j < n
            · obtain ⟨b, off, hbe, hbl, hcs3⟩ := PR.at HPR.out hlt3
              obtain ⟨d0, _, _, _, _, _⟩ := (hcs3 j hlt3).below hbv2 hbl
              obtain ⟨bb, ob, hbe2, hbl2, hcs4⟩ := Row.at HROW.out hlt2
              have dl : wr.cell? ⟨bb, ob + m, none⟩ = some (.int .i64 (L.getD m 0)) := (hb2.cell (p := ⟨bb, ob + m, none⟩) hbl2).trans (hcs4 m hlt2)
              rw [hbe] at c0
              have hid := (HID.out) j hlt3
              obtain ⟨IL, hIL⟩ : ∃ I, L.getD m 0 = I := ⟨_, rfl⟩
              rw [hIL] at dl hid
              clear hcs3 hcs4 hBY hb2 hbv2 hIL hbe
              rw [hbe2]
              clear hbe2
              by_cases hjp : j = p
              · have he : ((g j).id == IL) = true := by simpa using hid.2 hjp
                have hif : (if p < j then (p : Int) else Q) = Q := if_neg (by omega)
                have hle : ¬ (j : Int) ≤ Q := by omega
                rw [hif]
                have HJP : Hid (j = p) := hjp
                clear hid hif hjp
                go_wp2
                go_region
                go_wp2
                go_roundw
                case rel => exact ⟨j + 1, by omega, by go_num, by rw [if_pos (by have := HJP.out; omega), ← HJP.out], (HBY.out).drew⟩
                case measure => simp [intOf]; omega
              · have he : ((g j).id == IL) = false := by simp; exact fun h => hjp (hid.1 h)
                obtain ⟨q, hq⟩ : ∃ q, (if p < j then (p : Int) else Q) = q := ⟨_, rfl⟩
                have HQ2 : Hid ((if p < j + 1 then (p : Int) else Q) = q) := by
                  show _ = _
                  rw [← hq]
                  by_cases h : p < j
                  · rw [if_pos h, if_pos (by omega)]
                  · rw [if_neg h, if_neg (by omega)]
                rw [hq]
                clear hid hq
                go_wp2
                go_region
                go_wp2
                go_roundw
                case rel => exact ⟨j + 1, by omega, by go_num, by rw [HQ2.out], (HBY.out).drew⟩
                case measure => simp [intOf]; omega
            · obtain rfl : j = n := by omega
              have hif : (if p < j then (p : Int) else Q) = (p : Int) := if_pos hpn
              rw [hif]
              clear hBY hb2 hbv2 hif
              go_wp2
              go_roundw
              case rel => exact ⟨m + 1, by omega, by go_num, by rw [HLS.out], (HBX.out).trans ((HBY.out).mono (HBX.out).size)⟩
              case measure => simp [intOf]; omega
        · obtain rfl : m = L.length := by omega
          clear hBX
          go_wp2
          go_roundw
          case rel => exact ⟨k + 1, by omega, by go_num, by rw [hcs.out], (HB2.out).trans ((HBX.out).mono (HB2.out).size)⟩
          case measure => simp [intOf]; omega
    · obtain rfl : k = 16 := by omega
      clear hBW
      have HBW : Hid (Below w.heap.size w wk) := (HB.out).trans ((HBK.out).mono (HB.out).size)
      cases hf : fifoB g n lim
      case false =>
        have h0 : cntR g n lim 16 = 0 := by unfold cntR; rw [hf]; rfl
        rw [h0]
        have HF : Hid (fifoB g n lim = false) := hf
        have HBF : Hid (bytesF g n lim = 0) := by show _ = _; unfold bytesF; rw [hf]; rfl
        clear hf h0 hcb
        go_upto_region 20 with (go_at_call 22; refine (sfifoOk_any x n c g lim _ hnm HNC.out (HPA.out _ HBK.out)).mono ?_; rintro e w3 ⟨rfl, b3⟩; rw [HF.out])
        have HB3 : Hid (Below wv.heap.size wv w3) := (HBK.out).trans (b3.mono (HBK.out).size)
        have HW3 : Hid (Below w.heap.size w w3) := (HBW.out).trans (b3.mono (HBW.out).size)
        clear b3 c0 c1
        obtain ⟨c0, c1⟩ := HVA.out _ HB3.out
        go_wp2_with (first | (go_at_call 27; refine (ibytes_any x n c g lim _ hnm HNC.out (HPA.out _ HB3.out)).mono ?_; rintro e w4 ⟨rfl, b4⟩; rw [HBF.out]) | (go_at_call 24; refine (fifos_any _).mono ?_; rintro e w5 ⟨rfl, b5⟩))
        go_ret
        have B4 := (HW3.out).trans (b4.mono (HW3.out).size)
        exact ⟨rfl, B4.trans (b5.mono B4.size)⟩
      case true =>
        have hline : lineP g n := (fifo_nums hf).2.2.2
        have hgood : ∀ j, j < n → (g j).good = true := fun j hj => (hline j hj).1
        have h0 : cntR g n lim 16 = (n : Int) := by unfold cntR; rw [if_pos hf, cnt_all fun j hj => (good_nums (hgood j hj)).2.2.1]
        rw [h0]
        have HF : Hid (fifoB g n lim = true) := hf
        have HBF : Hid (bytesF g n lim = sumF g n) := by show _ = _; unfold bytesF; rw [if_pos hf]
        have HSZ : Hid (∀ j, j < n → 1 ≤ (g j).size ∧ (g j).size ≤ 2000) := fun j hj => (good_nums (hgood j hj)).2.2.2.2.1
        have HTM : Hid (∀ j, j < n → 0 ≤ (g j).tm ∧ (g j).tm ≤ 1000000000000) := fun j hj => (good_nums (hgood j hj)).2.1
        clear h0 hcb hline hgood
        go_upto_region 21 with (go_at_call 22; refine (sfifoOk_any x n c g lim _ hnm HNC.out (HPA.out _ HBK.out)).mono ?_; rintro e w3 ⟨rfl, b3⟩; rw [HF.out])
        have HB3 : Hid (Below wv.heap.size wv w3) := (HBK.out).trans (b3.mono (HBK.out).size)
        have HW3 : Hid (Below w.heap.size w w3) := (HBW.out).trans (b3.mono (HBW.out).size)
        have hz3 := b3.size
        clear b3 c0 c1
        obtain ⟨c0, c1⟩ := HVA.out _ HB3.out
        have hl3 : V < w3.heap.size := Nat.lt_of_lt_of_le hVl (HB3.out).size
        have HSS : Hid (sumF g n = sumF g n) := rfl
        by_cases hz : n = 0
        · have hn0 : ¬ (0 : Int) < (n : Int) := by omega
          have hn1 : ((n : Int) == 0) = true := by simp; omega
          clear hz
          have HBASE : Hid (∀ U, Below w3.heap.size w3 U → Below wv.heap.size wv U) := fun U h => (HB3.out).trans (h.mono (HB3.out).size)
          have HW4 : Hid (Below w.heap.size w w3) := HW3.out
          have hl4 := hl3
          go_wp2
          refine wp_region_quiet (C := fun w' => Below w3.heap.size w3 w') (by kernel_rfl) (by kernel_rfl) ((Below.refl _ _).drew) ?_
          simp only []
          repeat (first
            | go_big_quiet_skip
            | (go_big_quiet_want
               unfold Oper.quiet
               apply Exists.intro
               refine ⟨fun w' hw' => ?_, ?_⟩
               (have z0 := (hw'.cell (p := ⟨V, 0, none⟩) hl4).trans c0
                have z1 := (hw'.cell (p := ⟨V, 1, none⟩) hl4).trans c1
                go_simp
                first
                  | (go_at_call 27; refine (ibytes_any x n c g lim _ hnm HNC.out (HPA.out _ ((HBASE.out) _ hw'))).mono ?_; rintro e w1 ⟨rfl, hk1⟩; exact ⟨by rw [HBF.out], hw'.trans (hk1.mono hw'.size)⟩)
                  | (go_at_call 33; refine (lsum_any x n c g _ hnm (HPA.out _ ((HBASE.out) _ hw')) HSZ.out).mono ?_; rintro e w1 ⟨rfl, rfl⟩; exact ⟨rfl, hw'⟩)
                  | (go_at_call 24; refine (fifos_any _).mono ?_; rintro e w1 ⟨rfl, hk1⟩; exact ⟨rfl, hw'.trans (hk1.mono hw'.size)⟩)
                  | exact rfl)
               simp only [Act.put, List.setIfInBounds_toArray, List.set_cons_zero, List.set_cons_succ]
               go_big_quiet_on))
          refine wpQuiet_nil ?_
          intro w2 hw2
          go_wp2
          go_ret
          exact ⟨rfl, (HW4.out).trans (hw2.mono (HW4.out).size)⟩
        · obtain ⟨b, off, hbe, hbl, hcs3⟩ := PR.at HPR.out (show 0 < n by omega)
          obtain ⟨_, _, _, _, d4, _⟩ := (hcs3 0 (by omega)).below HB3.out hbl
          simp only [Nat.zero_mul, Nat.add_zero] at d4
          obtain ⟨t0, t1⟩ := (HTM.out) 0 (by omega)
          obtain ⟨tm, htm⟩ : ∃ tm, (g 0).tm = tm := ⟨_, rfl⟩
          rw [htm] at d4 t0 t1
          have hn0 : (0 : Int) < (n : Int) := by omega
          have hn1 : ((n : Int) == 0) = false := by simp; omega
          have hwt : IntKind.i64.wrap (tm + 7) = tm + 7 := by rw [IntKind.wrap_i64]; omega
          obtain ⟨W7, hW7⟩ : ∃ W, waitsF g n lim (tm + 7) = W := ⟨_, rfl⟩
          have HW7 : Hid (waitsF g n lim (tm + 7) = W7) := hW7
          have h7 : tm ≤ 999999999993 → W7 = 7 := fun h => by rw [← hW7]; unfold waitsF; rw [htm, if_pos ⟨HF.out, by omega, by omega, by omega⟩]; omega
          clear hcs3 hz htm hW7
          have hbl3 : b < w3.heap.size := Nat.lt_of_lt_of_le hbl (HB3.out).size
          have c0' := c0
          rw [hbe] at c0
          have HSK : Hid (∀ U, Below w3.heap.size w3 U → (U.cell? ⟨V, 0, none⟩ = some (.slice (some ⟨b, off, none⟩) n c) ∧ U.cell? ⟨V, 1, none⟩ = some (.int .i64 lim)) ∧ U.cell? ⟨b, off + 4, none⟩ = some (.int .i64 tm)) := fun U h => ⟨⟨(h.cell (p := ⟨V, 0, none⟩) hl3).trans c0, (h.cell (p := ⟨V, 1, none⟩) hl3).trans c1⟩, (h.cell (p := ⟨b, off + 4, none⟩) hbl3).trans d4⟩
          rw [hbe] at HPA
          clear c0'
          go_upto_region 23 with fail
          go_region_held3 (fun w' => (w'.cell? ⟨V, 0, none⟩ = some (.slice (some ⟨b, off, none⟩) n c) ∧ w'.cell? ⟨V, 1, none⟩ = some (.int .i64 lim)) ∧ w'.cell? ⟨b, off + 4, none⟩ = some (.int .i64 tm)) ((refine HSK.out _ ?_; first | exact (Below.refl _ _).drew | exact (Below.refl _ _).drew.trans b4)) (first | (go_at_call 32; refine (iwaits_any (some ⟨b, off, none⟩) n c g lim (tm + 7) _ hnm HNC.out (HPA.out _ (Below.drew HB3.out)) (by omega) (by omega)).mono ?_; rintro e w4 ⟨rfl, b4⟩; rw [HW7.out]))
          have b34 : Below w3.heap.size w3 w4 := (Below.refl _ _).drew.trans b4
          have HBASE : Hid (∀ U, Below w4.heap.size w4 U → Below wv.heap.size wv U) := fun U h => (HB3.out).trans ((b34.trans (h.mono b34.size)).mono (HB3.out).size)
          have HW4 : Hid (Below w.heap.size w w4) := (HW3.out).trans (b34.mono (HW3.out).size)
          obtain ⟨⟨k0, k1⟩, k4⟩ := HSK.out _ b34
          have hl4 : V < w4.heap.size := Nat.lt_of_lt_of_le hl3 b34.size
          have hbl4 : b < w4.heap.size := Nat.lt_of_lt_of_le hbl3 b34.size
          clear c0 c1 d4 hl3 hbl3
          have c0 := k0
          have c1 := k1
          have d4 := k4
          clear k0 k1 k4
          by_cases hbig : 999999999993 < tm
          · have hbig' : decide (999999999993 < tm) = true := by simpa using hbig
            go_wp2
            refine wp_region_quiet (C := fun w' => Below w4.heap.size w4 w') (by kernel_rfl) (by kernel_rfl) ((Below.refl _ _).drew) ?_
            simp only []
            repeat (first
              | go_big_quiet_skip
              | (go_big_quiet_want
                 unfold Oper.quiet
                 apply Exists.intro
                 refine ⟨fun w' hw' => ?_, ?_⟩
                 (have z0 := (hw'.cell (p := ⟨V, 0, none⟩) hl4).trans c0
                  have z1 := (hw'.cell (p := ⟨V, 1, none⟩) hl4).trans c1
                  have z4 := (hw'.cell (p := ⟨b, off + 4, none⟩) hbl4).trans d4
                  go_simp
                  first
                    | (go_at_call 27; refine (ibytes_any (some ⟨b, off, none⟩) n c g lim _ hnm HNC.out (HPA.out _ ((HBASE.out) _ hw'))).mono ?_; rintro e w1 ⟨rfl, hk1⟩; exact ⟨by rw [HBF.out], hw'.trans (hk1.mono hw'.size)⟩)
                    | (go_at_call 33; refine (lsum_any (some ⟨b, off, none⟩) n c g _ hnm (HPA.out _ ((HBASE.out) _ hw')) HSZ.out).mono ?_; rintro e w1 ⟨rfl, rfl⟩; exact ⟨rfl, hw'⟩)
                    | (go_at_call 24; refine (fifos_any _).mono ?_; rintro e w1 ⟨rfl, hk1⟩; exact ⟨rfl, hw'.trans (hk1.mono hw'.size)⟩)
                    | exact rfl)
                 simp only [Act.put, List.setIfInBounds_toArray, List.set_cons_zero, List.set_cons_succ]
                 go_big_quiet_on))
            refine wpQuiet_nil ?_
            intro w2 hw2
            go_wp2
            go_ret
            exact ⟨rfl, (HW4.out).trans (hw2.mono (HW4.out).size)⟩
          · have hbig' : decide (999999999993 < tm) = false := by simpa using hbig
            have h7' := h7 (by omega)
            subst h7'
            go_wp2
            refine wp_region_quiet (C := fun w' => Below w4.heap.size w4 w') (by kernel_rfl) (by kernel_rfl) ((Below.refl _ _).drew) ?_
            simp only []
            repeat (first
              | go_big_quiet_skip
              | (go_big_quiet_want
                 unfold Oper.quiet
                 apply Exists.intro
                 refine ⟨fun w' hw' => ?_, ?_⟩
                 (have z0 := (hw'.cell (p := ⟨V, 0, none⟩) hl4).trans c0
                  have z1 := (hw'.cell (p := ⟨V, 1, none⟩) hl4).trans c1
                  have z4 := (hw'.cell (p := ⟨b, off + 4, none⟩) hbl4).trans d4
                  go_simp
                  first
                    | (go_at_call 27; refine (ibytes_any (some ⟨b, off, none⟩) n c g lim _ hnm HNC.out (HPA.out _ ((HBASE.out) _ hw'))).mono ?_; rintro e w1 ⟨rfl, hk1⟩; exact ⟨by rw [HBF.out], hw'.trans (hk1.mono hw'.size)⟩)
                    | (go_at_call 33; refine (lsum_any (some ⟨b, off, none⟩) n c g _ hnm (HPA.out _ ((HBASE.out) _ hw')) HSZ.out).mono ?_; rintro e w1 ⟨rfl, rfl⟩; exact ⟨rfl, hw'⟩)
                    | (go_at_call 24; refine (fifos_any _).mono ?_; rintro e w1 ⟨rfl, hk1⟩; exact ⟨rfl, hw'.trans (hk1.mono hw'.size)⟩)
                    | exact rfl)
                 simp only [Act.put, List.setIfInBounds_toArray, List.set_cons_zero, List.set_cons_succ]
                 go_big_quiet_on))
            refine wpQuiet_nil ?_
            intro w2 hw2
            go_wp2
            go_ret
            exact ⟨rfl, (HW4.out).trans (hw2.mono (HW4.out).size)⟩

set_option maxRecDepth 100000 in
theorem lifted (os : Os) (started : os.Started) (H : Type) (enc : TypeId × Value → H) :
    ReturnsInHanded {} Try.checked os 6 .any (Rows.fnFlowsSpec.pre6 enc Try.prog Try.f6 Rows.fnFlowsRow.domain false) (Rows.fnFlowsSpec.post enc Try.prog Try.f6 false true false false) := by
  refine returnsInHanded_of_change (C := Try.checked) own started (by kernel_rfl) Try.func6
    (ChangeSpec.witness6 (enc := enc) (C := Try.checked) false ⟨#[], #[.slice none 0 0], []⟩ 8 (by kernel_rfl) (by kernel_rfl) (by kernel_rfl) (by kernel_rfl)) ?_
  intro W base args ds gs before hval0 hW hcnd _
  have hval : ∀ (j : Nat) t v, Try.f6.params[j]? = some t → args[j]? = some v → Value.okWide Try.prog W .any base t v := hval0
  have hW' := hW
  obtain ⟨p, q, hA0, hV, rfl, hfz, hnd⟩ := hW
  have hA : DataW.TrodAll enc Try.prog W 0 (fun _ => true) true Try.f6.params.toList args.toList ds p := hA0
  rw [Try.params6] at hA hval
  obtain ⟨v0, vs0, d0, ds0, p0, q0, hargs, rfl, rfl, h0, r0⟩ := trodAll_cons hA
  obtain ⟨rfl, rfl, rfl⟩ := trodAll_nil r0
  obtain rfl : args = #[v0] := by cases args; simp_all
  obtain ⟨rfl, rfl⟩ := trodVars_none hV
  obtain ⟨a0, len0, cap0, rfl⟩ := okWide_slice Try.underlying22 (hval 0 22 v0 rfl rfl)
  have k0 := h0
  have lt0 : ∀ x ∈ p0, x.block < W.heap.size := by obtain ⟨m, hm⟩ := k0; exact DataW.trod_lt m _ _ _ hm
  obtain ⟨z0, w0⟩ : ∃ zs, IsRow .u8 W a0 len0 cap0 zs := by
    obtain ⟨fuel, hf⟩ := h0
    rcases open_ints Try.underlying22 Try.underlying5 (by kernel_rfl) hf with ⟨hcs, _⟩ | ⟨x, l, c, zs, hcs, _, hl, hm, hz, _, hcell, hwz⟩
    · simp [Value.cells] at hcs
      obtain ⟨rfl, rfl, rfl⟩ := hcs
      exact ⟨[], .inl ⟨rfl, rfl, rfl, rfl⟩⟩
    · simp [Value.cells] at hcs
      obtain ⟨rfl, rfl, rfl⟩ := hcs
      exact ⟨zs, .inr ⟨_, rfl, hl, hm, by simpa using hz, hcell, hwz⟩⟩
  clear hA0 hval0
  refine (walk a0 len0 cap0 z0 W w0).mono fun e W' ⟨he, bel⟩ => ?_
  subst he
  exact ⟨_, rfl, _, _, _, [], _, [], hW', trodAll_mk1 (shut_bool Try.underlying4 _), (trodAll_cons_mk (Below.trod laidOut (by kernel_rfl) (of_decide_eq_true (by kernel_rfl)) k0 bel lt0) trodAll_mk0), rfl, bel.frame _, fun h => by cases h⟩

theorem over : Rows.fnFlowsRow.holds Try.pinned (OpenSpec.ofChange Rows.fnFlowsSpec) :=
  OpenClaim.holds_of_wide 6 Try.f6 rfl rfl rfl rfl rfl rfl rfl ⟨rfl, rfl, rfl, rfl, rfl⟩ rfl rfl rfl rfl rfl (by kernel_rfl) Try.func6 (by kernel_rfl)
    (of_decide_eq_true (by kernel_rfl)) (by unfold Func.isWrapper; first | (rw [if_pos (by decide +kernel)]; kernel_rfl) | (rw [if_neg (by decide +kernel)]; exact ⟨rfl, rfl⟩))
    (fun os started H enc _ => lifted os started H enc)

theorem proved : Rows.FnFlowsSaid := over
end Go.Proofs.Ytjojodgjddlkhab.fnFlows
namespace Go.Proofs.Ytjojodgjddlkhab
theorem fnFlows_holds : Rows.FnFlowsSaid := fnFlows.proved
#print axioms fnFlows_holds
end Go.Proofs.Ytjojodgjddlkhab
