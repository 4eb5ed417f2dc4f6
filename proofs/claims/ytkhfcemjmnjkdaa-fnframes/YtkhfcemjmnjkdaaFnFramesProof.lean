/-
  Whatever bytes the law FnFrames draws its own from, it returns true and leaves them as they were: a frame comes back from its bytes, and whatever bytes are read as one are just its bytes; no condition.
-/
import Derived.Test.YtkhfcemjmnjkdaaRows
import Derived.WalkKit
import Derived.ProofKit
import Derived.OpenShut
import Derived.Deep.Cut
import Derived.Test.YtkhfcemjmnjkdaaFrameLaw
import Derived.ShutString
import Derived.ChangeOld
import Derived.Below
namespace Go.Proofs.Ytkhfcemjmnjkdaa.fnFrames
open Go.ChangeShapes Go.WideShapes Go.ChangeAt Go.RowKit
open Go.ChangeMaps (open_string shut_string)
set_option linter.unusedVariables false

theorem own : ownKnob Try.prog.godebug = none := by kernel_rfl
theorem laidOut : laidOutB Try.prog = true := by kernel_rfl

/-- A slice of integers that came in. -/
def IsRow (k : IntKind) (w : World) (a : Option Addr) (len cap : Nat) (zs : List Int) : Prop :=
  (a = none ∧ len = 0 ∧ cap = 0 ∧ zs = []) ∨
  ∃ x, a = some x ∧ len ≤ cap ∧ cap ≤ maxLen ∧ zs.length = cap ∧ (∀ i, i < zs.length → w.cell? (x.add i) = some (.int k (zs.getD i 0))) ∧ ∀ n ∈ zs, (Lit.int k n).wf = true

theorem code_of {w : World} {a : Option Addr} {len cap : Nat} {zs : List Int} (h : IsRow .u8 w a len cap zs) : len ≤ 9223372036854775807 ∧ Code w w.heap.size a len := by
  rcases h with ⟨rfl, rfl, rfl, rfl⟩ | ⟨x, rfl, hl, hm, hz, hcell, hwz⟩
  · exact ⟨by omega, .inl rfl⟩
  · unfold maxLen at hm
    refine ⟨by omega, ?_⟩
    by_cases h0 : len = 0
    · exact .inl h0
    · obtain ⟨b, off, rfl, hc⟩ := ints_at hcell (by omega)
      refine .inr ⟨b, off, rfl, World.block_lt_of_cell? w _ (hc 0 (by omega)), fun k hk => ?_⟩
      have hb := bounds_u8 (hwz (zs.getD k 0) (by rw [List.getD_eq_getElem?_getD, List.getElem?_eq_getElem (by omega)]; exact List.getElem_mem _))
      exact ⟨zs.getD k 0, hb.1, hb.2, hc k (by omega)⟩


set_option maxRecDepth 100000 in
set_option maxHeartbeats 12000000 in
theorem walk (a0 : Option Addr) (len0 cap0 : Nat) (z0 : List Int) (w : World) (w0 : IsRow .u8 w a0 len0 cap0 z0) :
    Calls Try.prog 3 #[.slice a0 len0 cap0] w fun e w' => e = .returned (.bool true) ∧ Below w.heap.size w w' := by
  obtain ⟨hl, hcode⟩ := code_of w0
  clear w0
  have HC : Hid (Code w w.heap.size a0 len0) := hcode
  have HCA : Hid (∀ U, Below w.heap.size w U → Code U U.heap.size a0 len0) := fun U h => by
    rcases hcode with h0 | ⟨b, off, ha, hb, hk⟩
    · exact .inl h0
    · refine .inr ⟨b, off, ha, Nat.lt_of_lt_of_le hb h.size, fun k hk' => ?_⟩
      obtain ⟨v, v0, v1, hv⟩ := hk k hk'
      exact ⟨v, v0, v1, (h.cell (p := ⟨b, off + k, none⟩) hb).trans hv⟩
  clear hcode
  go_enter Try.func3, Try.ntmps3
  go_wp2_with fail
  refine (drawBuild a0 len0 cap0 _ hl HC.out).mono ?_
  rintro e w1 ⟨⟨d1, e1, i1, t1, p1, s1, q1, sp1, dp1⟩, x, m, c, g, rfl, hri, hm, hrx, hby, b1⟩
  simp only [Fr.val]
  clear HC
  go_upto_region 2 with fail
  obtain ⟨V, hV⟩ : ∃ V, w1.heap.size = V := ⟨_, rfl⟩
  obtain ⟨wv, hwv⟩ : ∃ z, w1.alloc (.cells #[.int .i64 d1, .int .i64 e1, .int .i64 i1, .int .i64 t1, .int .i64 p1, .int .i64 s1, .int .i64 q1, .int .i64 sp1, .int .i64 dp1, .slice x m c] 26) = z := ⟨_, rfl⟩
  have HV : Hid (Sits wv V #[.int .i64 d1, .int .i64 e1, .int .i64 i1, .int .i64 t1, .int .i64 p1, .int .i64 s1, .int .i64 q1, .int .i64 sp1, .int .i64 dp1, .slice x m c] 26) := by show Sits _ _ _ _; rw [← hwv]; exact Sits.new' hV
  have bv : Below w1.heap.size w1 wv := by rw [← hwv]; exact (Below.refl _ _).alloc (Nat.le_refl _) _
  have hVl : V < wv.heap.size := Sits.lt HV.out
  have hrv : Row .u8 wv x m g := hrx.below bv
  have HRX : Hid (∀ U, Below wv.heap.size wv U → Row .u8 U x m g) := fun U h => hrv.below h
  have HBY : Hid (Byt m g) := hby
  have HI : Hid ((Fr.mk d1 e1 i1 t1 p1 s1 q1 sp1 dp1)).In := hri
  have HB : Hid (Below w.heap.size w wv) := b1.trans (bv.mono b1.size)
  have hmi : (m : Int) ≤ 9223372036854775807 := by omega
  rw [hwv, hV]
  clear hwv hV bv hrx hrv hby hri b1
  have HSF : Hid (∀ U, Calls Try.prog 6 #[.agg #[.int .i64 d1, .int .i64 e1, .int .i64 i1, .int .i64 t1, .int .i64 p1, .int .i64 s1, .int .i64 q1, .int .i64 sp1, .int .i64 dp1, .slice x m c]] U fun e w' => e = .returned (.bool (((Fr.mk d1 e1 i1 t1 p1 s1 q1 sp1 dp1)).good m)) ∧ Below U.heap.size U w') := fun U => sframeOk_any (Fr.mk d1 e1 i1 t1 p1 s1 q1 sp1 dp1) x m c U HI.out hmi
  have HIF : Hid (∀ U, Calls Try.prog 7 #[.agg #[.int .i64 d1, .int .i64 e1, .int .i64 i1, .int .i64 t1, .int .i64 p1, .int .i64 s1, .int .i64 q1, .int .i64 sp1, .int .i64 dp1, .slice x m c]] U fun e w' => e = .returned (.bool (((Fr.mk d1 e1 i1 t1 p1 s1 q1 sp1 dp1)).good m)) ∧ Below U.heap.size U w') := fun U => iframeOk_any (Fr.mk d1 e1 i1 t1 p1 s1 q1 sp1 dp1) x m c U HI.out hmi
  obtain ⟨v0, v1, v2, v3, v4, v5, v6, v7, v8, v9⟩ := fr_cells' HV.out
  cases hg : ((Fr.mk d1 e1 i1 t1 p1 s1 q1 sp1 dp1)).good m
  case false =>
    rw [hg] at HSF HIF
    have HBU : Hid (Calls Try.prog 5 #[.agg #[.int .i64 d1, .int .i64 e1, .int .i64 i1, .int .i64 t1, .int .i64 p1, .int .i64 s1, .int .i64 q1, .int .i64 sp1, .int .i64 dp1, .slice x m c]] wv fun e w' => ∃ (y : Option Addr) (cy : Nat), e = .returned (.tuple #[.slice y 0 cy, .bool false]) ∧ Below wv.heap.size wv w') := by
      have := ibuild_any (Fr.mk d1 e1 i1 t1 p1 s1 q1 sp1 dp1) x m c g wv HI.out hmi (HRX.out wv (Below.refl _ _))
      rw [show blen (Fr.mk d1 e1 i1 t1 p1 s1 q1 sp1 dp1) m = 0 by unfold blen; rw [hg]; rfl, hg] at this
      refine this.mono ?_
      rintro e w' ⟨y, cy, rfl, _, hb⟩
      exact ⟨y, cy, rfl, hb⟩
    clear hg
    go_upto_region 3 with (go_at_call 5; refine (HBU.out).mono ?_; rintro e w2 ⟨b, cb, rfl, b2⟩)
    have HV2 : Hid (Sits w2 V #[.int .i64 d1, .int .i64 e1, .int .i64 i1, .int .i64 t1, .int .i64 p1, .int .i64 s1, .int .i64 q1, .int .i64 sp1, .int .i64 dp1, .slice x m c] 26) := Sits.below HV.out b2 hVl
    have HB2 : Hid (Below w.heap.size w w2) := (HB.out).trans (b2.mono (HB.out).size)
    clear v0 v1 v2 v3 v4 v5 v6 v7 v8 v9 b2
    obtain ⟨v0, v1, v2, v3, v4, v5, v6, v7, v8, v9⟩ := fr_cells' HV2.out
    go_upto_region 9 with (first | (go_at_call 6; refine (HSF.out _).mono ?_; rintro e w3 ⟨rfl, b3⟩; obtain ⟨k0, k1, k2, k3, k4, k5, k6, k7, k8, k9⟩ := fr_cells' (Sits.below HV2.out b3 (Sits.lt HV2.out))) | (go_at_call 7; refine (HIF.out _).mono ?_; rintro e w4 ⟨rfl, b4⟩))
    have HB4 : Hid (Below w.heap.size w w4) := (HB2.out).trans ((b3.trans (b4.mono b3.size)).mono (HB2.out).size)
    clear b3 b4 v0 v1 v2 v3 v4 v5 v6 v7 v8 v9 k0 k1 k2 k3 k4 k5 k6 k7 k8 k9
    go_upto_region 10 with (go_at_call 11; refine (drawParse a0 len0 cap0 _ hl (HCA.out _ HB4.out)).mono ?_; rintro e wA ⟨y, n, cy, f, rfl, hn, hcap, hr, hf, bA⟩)
    have HR : Hid (∀ U, Below wA.heap.size wA U → Row .u8 U y n f) := fun U h => hr.below h
    have HF : Hid (Byt n f) := hf
    have HBA : Hid (Below w.heap.size w wA) := (HB4.out).trans (bA.mono (HB4.out).size)
    have hnm : n ≤ 1048576 := by omega
    clear hr hf bA
    by_cases hc : codeF f n = 0
    case pos =>
      obtain ⟨hg, heq⟩ := read_built f n hc HF.out
      obtain ⟨h24, h100, _⟩ := codeF_zero hc
      obtain ⟨R, hR⟩ : ∃ R, frOf f = R := ⟨_, rfl⟩
      rw [hR] at hg heq
      have HEQ : Hid (∀ i, i < n → buildF R (n - 24) (fun i => f (24 + i)) i = f i) := heq
      have HPA : Hid (Calls Try.prog 8 #[.slice y n cy] wA fun e w' => ∃ (d : Option Addr) (cd : Nat), e = .returned (.tuple #[R.val d (n - 24) cd, .int .i64 0]) ∧ Row .u8 w' d (n - 24) (fun i => f (24 + i)) ∧ Below wA.heap.size wA w') := by
        have := iparse_all y n cy f wA (HR.out wA (Below.refl _ _)) HF.out hnm hcap
        rw [show frR f n = R by unfold frR; rw [if_pos hc, hR], hc, show datN f n = n - 24 by unfold datN; rw [if_pos hc]] at this
        refine this.mono ?_
        rintro e w' ⟨d, cd, rfl, hz, hb⟩
        exact ⟨d, cd, rfl, hz.row, hb⟩
      have HBU : Hid (∀ U d cd, Row .u8 U d (n - 24) (fun i => f (24 + i)) → Calls Try.prog 5 #[R.val d (n - 24) cd] U fun e w' => ∃ (x : Option Addr) (cx : Nat), e = .returned (.tuple #[.slice x n cx, .bool true]) ∧ Row .u8 w' x n (buildF R (n - 24) (fun i => f (24 + i))) ∧ Below U.heap.size U w') := fun U d cd hr => by
        have := ibuild_yes R d (n - 24) cd (fun i => f (24 + i)) U (good_in' hg) (by omega) hg hr
        rw [show 24 + (n - 24) = n by omega] at this
        refine this.mono ?_
        rintro e w' ⟨x, cx, rfl, ho, hb⟩
        exact ⟨x, cx, rfl, (zn_bo ho).row, hb⟩
      clear hc hg heq hR h24
      obtain ⟨d2, e2, i2, t2, p2, s2, q2, sp2, dp2⟩ := R
      simp only [Fr.val] at HPA HBU
      go_upto_region 11 with (go_at_call 8; refine (HPA.out).mono ?_; rintro e wB ⟨d, cd, rfl, hrd, bB⟩)
      obtain ⟨Z, hZ⟩ : ∃ V, wB.heap.size = V := ⟨_, rfl⟩
      obtain ⟨wC, hwC⟩ : ∃ z, wB.alloc (.cells #[.int .i64 d2, .int .i64 e2, .int .i64 i2, .int .i64 t2, .int .i64 p2, .int .i64 s2, .int .i64 q2, .int .i64 sp2, .int .i64 dp2, .slice d (n - 24) cd] 26) = z := ⟨_, rfl⟩
      have HZ : Hid (Sits wC Z #[.int .i64 d2, .int .i64 e2, .int .i64 i2, .int .i64 t2, .int .i64 p2, .int .i64 s2, .int .i64 q2, .int .i64 sp2, .int .i64 dp2, .slice d (n - 24) cd] 26) := by show Sits _ _ _ _; rw [← hwC]; exact Sits.new' hZ
      have bBC : Below wB.heap.size wB wC := by rw [← hwC]; exact (Below.refl _ _).alloc (Nat.le_refl _) _
      have HRD : Hid (Row .u8 wC d (n - 24) (fun i => f (24 + i))) := hrd.below bBC
      have HBC : Hid (Below wA.heap.size wA wC) := bB.trans (bBC.mono bB.size)
      rw [hwC, hZ]
      clear hwC hZ bBC bB hrd
      obtain ⟨z0, z1, z2, z3, z4, z5, z6, z7, z8, z9⟩ := fr_cells' HZ.out
      go_upto_region 12 with (go_at_call 5; refine (HBU.out _ d cd HRD.out).mono ?_; rintro e wD ⟨k, ck, rfl, hrk, bD⟩)
      have HBD : Hid (Below wA.heap.size wA wD) := (HBC.out).trans (bD.mono (HBC.out).size)
      have HRK : Hid (∀ U, Below wD.heap.size wD U → Row .u8 U k n (buildF (Fr.mk d2 e2 i2 t2 p2 s2 q2 sp2 dp2) (n - 24) (fun i => f (24 + i)))) := fun U h => hrk.below h
      clear hrk bD z0 z1 z2 z3 z4 z5 z6 z7 z8 z9
      have hbE : Below wD.heap.size wD (wD.alloc (.cells #[.int .u8 1, .int .u8 2] 5)) := (Below.refl _ _).alloc (Nat.le_refl _) _
      have HBE : Hid (Below wD.heap.size wD (wD.alloc (.cells #[.int .u8 1, .int .u8 2] 5))) := hbE
      clear hbE
      go_wp2_with (first | (go_at_call 10; refine (isum_two _ _).mono ?_; rintro e wE ⟨rfl, rfl⟩) | (go_at_call 9; refine (same_yes k y n ck cy _ f _ (HRK.out _ HBE.out) (HR.out _ ((HBD.out).trans ((HBE.out).mono (HBD.out).size))) HEQ.out).mono ?_; rintro e wF ⟨rfl, rfl⟩))
      go_ret
      exact ⟨rfl, (HBA.out).trans (((HBD.out).trans ((HBE.out).mono (HBD.out).size)).mono (HBA.out).size)⟩
    case neg =>
      obtain ⟨C, hC⟩ : ∃ C, codeF f n = C := ⟨_, rfl⟩
      rw [hC] at hc
      have hcb : (C != 0) = true := by simpa using hc
      have hne : ¬ codeF f n = 0 := by rw [hC]; exact hc
      have HPA : Hid (Calls Try.prog 8 #[.slice y n cy] wA fun e w' => ∃ (d : Option Addr) (cd : Nat), e = .returned (.tuple #[frNo.val d 0 cd, .int .i64 C]) ∧ Below wA.heap.size wA w') := by
        have := iparse_all y n cy f wA (HR.out wA (Below.refl _ _)) HF.out hnm hcap
        rw [show frR f n = frNo by unfold frR; rw [if_neg hne], hC, show datN f n = 0 by unfold datN; rw [if_neg hne]] at this
        refine this.mono ?_
        rintro e w' ⟨d, cd, rfl, hz, hb⟩
        exact ⟨d, cd, rfl, hb⟩
      have HBU : Hid (∀ U d cd, Calls Try.prog 5 #[frNo.val d 0 cd] U fun e w' => ∃ (x : Option Addr) (l cx : Nat) (b : Bool), e = .returned (.tuple #[.slice x l cx, .bool b]) ∧ Below U.heap.size U w') := fun U d cd => by
        refine (ibuild_any frNo d 0 cd (fun _ => 0) U frNo_in (by omega) (.inl rfl)).mono ?_
        rintro e w' ⟨x, cx, rfl, _, hb⟩
        exact ⟨x, _, cx, _, rfl, hb⟩
      clear hc hC hne
      simp only [frNo, Fr.val] at HPA HBU
      go_upto_region 11 with (go_at_call 8; refine (HPA.out).mono ?_; rintro e wB ⟨d, cd, rfl, bB⟩)
      obtain ⟨Z, hZ⟩ : ∃ V, wB.heap.size = V := ⟨_, rfl⟩
      obtain ⟨wC, hwC⟩ : ∃ z, wB.alloc (.cells #[.int .i64 0, .int .i64 0, .int .i64 0, .int .i64 0, .int .i64 0, .int .i64 0, .int .i64 0, .int .i64 0, .int .i64 0, .slice d 0 cd] 26) = z := ⟨_, rfl⟩
      have HZ : Hid (Sits wC Z #[.int .i64 0, .int .i64 0, .int .i64 0, .int .i64 0, .int .i64 0, .int .i64 0, .int .i64 0, .int .i64 0, .int .i64 0, .slice d 0 cd] 26) := by show Sits _ _ _ _; rw [← hwC]; exact Sits.new' hZ
      have HBC : Hid (Below wA.heap.size wA wC) := by show Below _ _ _; rw [← hwC]; exact bB.alloc bB.size _
      rw [hwC, hZ]
      clear hwC hZ bB
      obtain ⟨z0, z1, z2, z3, z4, z5, z6, z7, z8, z9⟩ := fr_cells' HZ.out
      go_upto_region 12 with (go_at_call 5; refine (HBU.out _ d cd).mono ?_; rintro e wD ⟨k, kl, ck, kb, rfl, bD⟩)
      have HBD : Hid (Below wA.heap.size wA wD) := (HBC.out).trans (bD.mono (HBC.out).size)
      clear bD z0 z1 z2 z3 z4 z5 z6 z7 z8 z9
      have HBE : Hid (Below wD.heap.size wD (wD.alloc (.cells #[.int .u8 1, .int .u8 2] 5))) := (Below.refl _ _).alloc (Nat.le_refl _) _
      go_wp2_with (go_at_call 10; refine (isum_two _ _).mono ?_; rintro e wE ⟨rfl, rfl⟩)
      go_ret
      exact ⟨rfl, (HBA.out).trans (((HBD.out).trans ((HBE.out).mono (HBD.out).size)).mono (HBA.out).size)⟩
  case true =>
    rw [hg] at HSF HIF
    have hq := code_built (Fr.mk d1 e1 i1 t1 p1 s1 q1 sp1 dp1) m g hg
    have hfr := fr_built (Fr.mk d1 e1 i1 t1 p1 s1 q1 sp1 dp1) m g hg
    obtain ⟨h24, h100, _, _, _, hsum, _⟩ := codeF_zero hq
    have hFb : Byt (24 + m) (buildF (Fr.mk d1 e1 i1 t1 p1 s1 q1 sp1 dp1) m g) := buildF_byt (Fr.mk d1 e1 i1 t1 p1 s1 q1 sp1 dp1) m g HBY.out
    obtain ⟨G, hG⟩ : ∃ G, buildF (Fr.mk d1 e1 i1 t1 p1 s1 q1 sp1 dp1) m g = G := ⟨_, rfl⟩
    have hdat : ∀ i, G (24 + i) = g i := fun i => by rw [← hG]; exact built_data _ _ _ _
    have HBU : Hid (Calls Try.prog 5 #[.agg #[.int .i64 d1, .int .i64 e1, .int .i64 i1, .int .i64 t1, .int .i64 p1, .int .i64 s1, .int .i64 q1, .int .i64 sp1, .int .i64 dp1, .slice x m c]] wv fun e w' => ∃ (y : Option Addr) (cy : Nat), e = .returned (.tuple #[.slice y (24 + m) cy, .bool true]) ∧ 24 + m ≤ cy ∧ Row .u8 w' y (24 + m) G ∧ Below wv.heap.size wv w') := by
      have := ibuild_yes (Fr.mk d1 e1 i1 t1 p1 s1 q1 sp1 dp1) x m c g wv HI.out hmi hg (HRX.out wv (Below.refl _ _))
      rw [hG] at this
      refine this.mono ?_
      rintro e w' ⟨y, cy, rfl, ho, hb⟩
      exact ⟨y, cy, rfl, ho.cap, (zn_bo ho).row, hb⟩
    rw [hG] at hq hfr hsum hFb
    have HPB : Hid (∀ U y cy, 24 + m ≤ cy → Row .u8 U y (24 + m) G → Calls Try.prog 8 #[.slice y (24 + m) cy] U fun e w' => ∃ (d : Option Addr) (cd : Nat), e = .returned (.tuple #[((Fr.mk d1 e1 i1 t1 p1 s1 q1 sp1 dp1)).val d m cd, .int .i64 0]) ∧ Row .u8 w' d m (fun i => G (24 + i)) ∧ Below U.heap.size U w') := fun U y cy hc hr => by
      have := iparse_all y (24 + m) cy G U hr hFb (by omega) hc
      rw [show frR G (24 + m) = (Fr.mk d1 e1 i1 t1 p1 s1 q1 sp1 dp1) by unfold frR; rw [if_pos hq]; exact hfr, hq, show datN G (24 + m) = m by unfold datN; rw [if_pos hq]; omega] at this
      refine this.mono ?_
      rintro e w' ⟨d, cd, rfl, hz, hb⟩
      exact ⟨d, cd, rfl, hz.row, hb⟩
    have HSM : Hid (∀ U y cy, Row .u8 U y (24 + m) G → Calls Try.prog 10 #[.slice y 20 cy] U fun e w' => e = .returned (.int .i64 0) ∧ w' = U) := fun U y cy hr => by
      have := isum_any y 20 cy G U (Row.take hr (by omega)) (fun i hi => hFb i (by omega)) (by omega)
      rw [hsum] at this
      exact this
    have HDAT : Hid (∀ i, i < m → G (24 + i) = g i) := fun i _ => hdat i
    have hm76 : m ≤ 76 := by omega
    clear hg hq hfr hsum hFb hG hdat
    simp only [Fr.val] at HPB
    go_upto_region 3 with (go_at_call 5; refine (HBU.out).mono ?_; rintro e w2 ⟨b, cb, rfl, hcb, hrb, b2⟩)
    have HV2 : Hid (Sits w2 V #[.int .i64 d1, .int .i64 e1, .int .i64 i1, .int .i64 t1, .int .i64 p1, .int .i64 s1, .int .i64 q1, .int .i64 sp1, .int .i64 dp1, .slice x m c] 26) := Sits.below HV.out b2 hVl
    have HRB : Hid (∀ U, Below w2.heap.size w2 U → Row .u8 U b (24 + m) G) := fun U h => hrb.below h
    have HB2 : Hid (Below wv.heap.size wv w2) := b2
    clear v0 v1 v2 v3 v4 v5 v6 v7 v8 v9 b2 hrb
    obtain ⟨v0, v1, v2, v3, v4, v5, v6, v7, v8, v9⟩ := fr_cells' HV2.out
    go_upto_region 6 with (first | (go_at_call 6; refine (HSF.out _).mono ?_; rintro e w3 ⟨rfl, b3⟩; obtain ⟨k0, k1, k2, k3, k4, k5, k6, k7, k8, k9⟩ := fr_cells' (Sits.below HV2.out b3 (Sits.lt HV2.out))) | (go_at_call 7; refine (HIF.out _).mono ?_; rintro e w4 ⟨rfl, b4⟩))
    have b24 := b3.trans (b4.mono b3.size)
    have HB4 : Hid (Below w2.heap.size w2 w4) := b24
    clear b3 b4 b24 v0 v1 v2 v3 v4 v5 v6 v7 v8 v9 k0 k1 k2 k3 k4 k5 k6 k7 k8 k9
    go_upto_region 7 with (go_at_call 8; refine (HPB.out _ b cb hcb (HRB.out _ HB4.out)).mono ?_; rintro e w5 ⟨d, cd, rfl, hrd, b5⟩)
    obtain ⟨Z, hZ⟩ : ∃ V, w5.heap.size = V := ⟨_, rfl⟩
    obtain ⟨w6, hw6⟩ : ∃ z, w5.alloc (.cells #[.int .i64 d1, .int .i64 e1, .int .i64 i1, .int .i64 t1, .int .i64 p1, .int .i64 s1, .int .i64 q1, .int .i64 sp1, .int .i64 dp1, .slice d m cd] 26) = z := ⟨_, rfl⟩
    have HZ6 : Hid (Sits w6 Z #[.int .i64 d1, .int .i64 e1, .int .i64 i1, .int .i64 t1, .int .i64 p1, .int .i64 s1, .int .i64 q1, .int .i64 sp1, .int .i64 dp1, .slice d m cd] 26) := by show Sits _ _ _ _; rw [← hw6]; exact Sits.new' hZ
    have b56 : Below w5.heap.size w5 w6 := by rw [← hw6]; exact (Below.refl _ _).alloc (Nat.le_refl _) _
    have HD6 : Hid (Row .u8 w6 d m (fun i => G (24 + i))) := hrd.below b56
    have b46 := b5.trans (b56.mono b5.size)
    have HB6 : Hid (Below w2.heap.size w2 w6) := (HB4.out).trans (b46.mono (HB4.out).size)
    have HX6 : Hid (Row .u8 w6 x m g) := HRX.out _ ((HB2.out).trans ((HB6.out).mono (HB2.out).size))
    have HR6 : Hid (Row .u8 w6 b (24 + m) G) := HRB.out _ HB6.out
    have HW6 : Hid (Below w.heap.size w w6) := (HB.out).trans (((HB2.out).trans ((HB6.out).mono (HB2.out).size)).mono (HB.out).size)
    rw [hw6, hZ]
    clear hw6 hZ b56 b46 b5 hrd
    obtain ⟨v0, v1, v2, v3, v4, v5, v6, v7, v8, v9⟩ := fr_cells' (Sits.below HV2.out HB6.out (Sits.lt HV2.out))
    obtain ⟨z0, z1, z2, z3, z4, z5, z6, z7, z8, z9⟩ := fr_cells' HZ6.out
    have hcb0 : ¬ (cb : Int) < 20 := by omega
    go_upto_region 9 with (first | (go_at_call 9; refine (same_yes d x m cd c _ g _ HD6.out HX6.out HDAT.out).mono ?_; rintro e w7 ⟨rfl, rfl⟩) | (go_at_call 10; refine (HSM.out _ b cb HR6.out).mono ?_; rintro e w8 ⟨rfl, rfl⟩))
    clear v0 v1 v2 v3 v4 v5 v6 v7 v8 v9 z0 z1 z2 z3 z4 z5 z6 z7 z8 z9
    go_upto_region 10 with (go_at_call 11; refine (drawParse a0 len0 cap0 _ hl (HCA.out _ HW6.out)).mono ?_; rintro e wA ⟨y, n, cy, f, rfl, hn, hcap, hr, hf, bA⟩)
    have HR : Hid (∀ U, Below wA.heap.size wA U → Row .u8 U y n f) := fun U h => hr.below h
    have HF : Hid (Byt n f) := hf
    have HBA : Hid (Below w.heap.size w wA) := (HW6.out).trans (bA.mono (HW6.out).size)
    have hnm : n ≤ 1048576 := by omega
    clear hr hf bA
    by_cases hc : codeF f n = 0
    case pos =>
      obtain ⟨hg, heq⟩ := read_built f n hc HF.out
      obtain ⟨h24, h100, _⟩ := codeF_zero hc
      obtain ⟨R, hR⟩ : ∃ R, frOf f = R := ⟨_, rfl⟩
      rw [hR] at hg heq
      have HEQ : Hid (∀ i, i < n → buildF R (n - 24) (fun i => f (24 + i)) i = f i) := heq
      have HPA : Hid (Calls Try.prog 8 #[.slice y n cy] wA fun e w' => ∃ (d : Option Addr) (cd : Nat), e = .returned (.tuple #[R.val d (n - 24) cd, .int .i64 0]) ∧ Row .u8 w' d (n - 24) (fun i => f (24 + i)) ∧ Below wA.heap.size wA w') := by
        have := iparse_all y n cy f wA (HR.out wA (Below.refl _ _)) HF.out hnm hcap
        rw [show frR f n = R by unfold frR; rw [if_pos hc, hR], hc, show datN f n = n - 24 by unfold datN; rw [if_pos hc]] at this
        refine this.mono ?_
        rintro e w' ⟨d, cd, rfl, hz, hb⟩
        exact ⟨d, cd, rfl, hz.row, hb⟩
      have HBU : Hid (∀ U d cd, Row .u8 U d (n - 24) (fun i => f (24 + i)) → Calls Try.prog 5 #[R.val d (n - 24) cd] U fun e w' => ∃ (x : Option Addr) (cx : Nat), e = .returned (.tuple #[.slice x n cx, .bool true]) ∧ Row .u8 w' x n (buildF R (n - 24) (fun i => f (24 + i))) ∧ Below U.heap.size U w') := fun U d cd hr => by
        have := ibuild_yes R d (n - 24) cd (fun i => f (24 + i)) U (good_in' hg) (by omega) hg hr
        rw [show 24 + (n - 24) = n by omega] at this
        refine this.mono ?_
        rintro e w' ⟨x, cx, rfl, ho, hb⟩
        exact ⟨x, cx, rfl, (zn_bo ho).row, hb⟩
      clear hc hg heq hR h24
      obtain ⟨d2, e2, i2, t2, p2, s2, q2, sp2, dp2⟩ := R
      simp only [Fr.val] at HPA HBU
      go_upto_region 11 with (go_at_call 8; refine (HPA.out).mono ?_; rintro e wB ⟨d, cd, rfl, hrd, bB⟩)
      obtain ⟨Z, hZ⟩ : ∃ V, wB.heap.size = V := ⟨_, rfl⟩
      obtain ⟨wC, hwC⟩ : ∃ z, wB.alloc (.cells #[.int .i64 d2, .int .i64 e2, .int .i64 i2, .int .i64 t2, .int .i64 p2, .int .i64 s2, .int .i64 q2, .int .i64 sp2, .int .i64 dp2, .slice d (n - 24) cd] 26) = z := ⟨_, rfl⟩
      have HZ : Hid (Sits wC Z #[.int .i64 d2, .int .i64 e2, .int .i64 i2, .int .i64 t2, .int .i64 p2, .int .i64 s2, .int .i64 q2, .int .i64 sp2, .int .i64 dp2, .slice d (n - 24) cd] 26) := by show Sits _ _ _ _; rw [← hwC]; exact Sits.new' hZ
      have bBC : Below wB.heap.size wB wC := by rw [← hwC]; exact (Below.refl _ _).alloc (Nat.le_refl _) _
      have HRD : Hid (Row .u8 wC d (n - 24) (fun i => f (24 + i))) := hrd.below bBC
      have HBC : Hid (Below wA.heap.size wA wC) := bB.trans (bBC.mono bB.size)
      rw [hwC, hZ]
      clear hwC hZ bBC bB hrd
      obtain ⟨z0, z1, z2, z3, z4, z5, z6, z7, z8, z9⟩ := fr_cells' HZ.out
      go_upto_region 12 with (go_at_call 5; refine (HBU.out _ d cd HRD.out).mono ?_; rintro e wD ⟨k, ck, rfl, hrk, bD⟩)
      have HBD : Hid (Below wA.heap.size wA wD) := (HBC.out).trans (bD.mono (HBC.out).size)
      have HRK : Hid (∀ U, Below wD.heap.size wD U → Row .u8 U k n (buildF (Fr.mk d2 e2 i2 t2 p2 s2 q2 sp2 dp2) (n - 24) (fun i => f (24 + i)))) := fun U h => hrk.below h
      clear hrk bD z0 z1 z2 z3 z4 z5 z6 z7 z8 z9
      have hbE : Below wD.heap.size wD (wD.alloc (.cells #[.int .u8 1, .int .u8 2] 5)) := (Below.refl _ _).alloc (Nat.le_refl _) _
      have HBE : Hid (Below wD.heap.size wD (wD.alloc (.cells #[.int .u8 1, .int .u8 2] 5))) := hbE
      clear hbE
      go_wp2_with (first | (go_at_call 10; refine (isum_two _ _).mono ?_; rintro e wE ⟨rfl, rfl⟩) | (go_at_call 9; refine (same_yes k y n ck cy _ f _ (HRK.out _ HBE.out) (HR.out _ ((HBD.out).trans ((HBE.out).mono (HBD.out).size))) HEQ.out).mono ?_; rintro e wF ⟨rfl, rfl⟩))
      go_ret
      exact ⟨rfl, (HBA.out).trans (((HBD.out).trans ((HBE.out).mono (HBD.out).size)).mono (HBA.out).size)⟩
    case neg =>
      obtain ⟨C, hC⟩ : ∃ C, codeF f n = C := ⟨_, rfl⟩
      rw [hC] at hc
      have hcb : (C != 0) = true := by simpa using hc
      have hne : ¬ codeF f n = 0 := by rw [hC]; exact hc
      have HPA : Hid (Calls Try.prog 8 #[.slice y n cy] wA fun e w' => ∃ (d : Option Addr) (cd : Nat), e = .returned (.tuple #[frNo.val d 0 cd, .int .i64 C]) ∧ Below wA.heap.size wA w') := by
        have := iparse_all y n cy f wA (HR.out wA (Below.refl _ _)) HF.out hnm hcap
        rw [show frR f n = frNo by unfold frR; rw [if_neg hne], hC, show datN f n = 0 by unfold datN; rw [if_neg hne]] at this
        refine this.mono ?_
        rintro e w' ⟨d, cd, rfl, hz, hb⟩
        exact ⟨d, cd, rfl, hb⟩
      have HBU : Hid (∀ U d cd, Calls Try.prog 5 #[frNo.val d 0 cd] U fun e w' => ∃ (x : Option Addr) (l cx : Nat) (b : Bool), e = .returned (.tuple #[.slice x l cx, .bool b]) ∧ Below U.heap.size U w') := fun U d cd => by
        refine (ibuild_any frNo d 0 cd (fun _ => 0) U frNo_in (by omega) (.inl rfl)).mono ?_
        rintro e w' ⟨x, cx, rfl, _, hb⟩
        exact ⟨x, _, cx, _, rfl, hb⟩
      clear hc hC hne
      simp only [frNo, Fr.val] at HPA HBU
      go_upto_region 11 with (go_at_call 8; refine (HPA.out).mono ?_; rintro e wB ⟨d, cd, rfl, bB⟩)
      obtain ⟨Z, hZ⟩ : ∃ V, wB.heap.size = V := ⟨_, rfl⟩
      obtain ⟨wC, hwC⟩ : ∃ z, wB.alloc (.cells #[.int .i64 0, .int .i64 0, .int .i64 0, .int .i64 0, .int .i64 0, .int .i64 0, .int .i64 0, .int .i64 0, .int .i64 0, .slice d 0 cd] 26) = z := ⟨_, rfl⟩
      have HZ : Hid (Sits wC Z #[.int .i64 0, .int .i64 0, .int .i64 0, .int .i64 0, .int .i64 0, .int .i64 0, .int .i64 0, .int .i64 0, .int .i64 0, .slice d 0 cd] 26) := by show Sits _ _ _ _; rw [← hwC]; exact Sits.new' hZ
      have HBC : Hid (Below wA.heap.size wA wC) := by show Below _ _ _; rw [← hwC]; exact bB.alloc bB.size _
      rw [hwC, hZ]
      clear hwC hZ bB
      obtain ⟨z0, z1, z2, z3, z4, z5, z6, z7, z8, z9⟩ := fr_cells' HZ.out
      go_upto_region 12 with (go_at_call 5; refine (HBU.out _ d cd).mono ?_; rintro e wD ⟨k, kl, ck, kb, rfl, bD⟩)
      have HBD : Hid (Below wA.heap.size wA wD) := (HBC.out).trans (bD.mono (HBC.out).size)
      clear bD z0 z1 z2 z3 z4 z5 z6 z7 z8 z9
      have HBE : Hid (Below wD.heap.size wD (wD.alloc (.cells #[.int .u8 1, .int .u8 2] 5))) := (Below.refl _ _).alloc (Nat.le_refl _) _
      go_wp2_with (go_at_call 10; refine (isum_two _ _).mono ?_; rintro e wE ⟨rfl, rfl⟩)
      go_ret
      exact ⟨rfl, (HBA.out).trans (((HBD.out).trans ((HBE.out).mono (HBD.out).size)).mono (HBA.out).size)⟩

set_option maxRecDepth 100000 in
theorem lifted (os : Os) (started : os.Started) (H : Type) (enc : TypeId × Value → H) :
    ReturnsInHanded {} Try.checked os 3 .any (Rows.fnFramesSpec.pre6 enc Try.prog Try.f3 Rows.fnFramesRow.domain false) (Rows.fnFramesSpec.post enc Try.prog Try.f3 false true false false) := by
  refine returnsInHanded_of_change (C := Try.checked) own started (by kernel_rfl) Try.func3
    (ChangeSpec.witness6 (enc := enc) (C := Try.checked) false ⟨#[], #[.slice none 0 0], []⟩ 8 (by kernel_rfl) (by kernel_rfl) (by kernel_rfl) (by kernel_rfl)) ?_
  intro W base args ds gs before hval0 hW hcnd _
  have hval : ∀ (j : Nat) t v, Try.f3.params[j]? = some t → args[j]? = some v → Value.okWide Try.prog W .any base t v := hval0
  have hW' := hW
  obtain ⟨p, q, hA0, hV, rfl, hfz, hnd⟩ := hW
  have hA : DataW.TrodAll enc Try.prog W 0 (fun _ => true) true Try.f3.params.toList args.toList ds p := hA0
  rw [Try.params3] at hA hval
  obtain ⟨v0, vs0, d0, ds0, p0, q0, hargs, rfl, rfl, h0, r0⟩ := trodAll_cons hA
  obtain ⟨rfl, rfl, rfl⟩ := trodAll_nil r0
  obtain rfl : args = #[v0] := by cases args; simp_all
  obtain ⟨rfl, rfl⟩ := trodVars_none hV
  obtain ⟨a0, len0, cap0, rfl⟩ := okWide_slice Try.underlying22 (hval 0 22 v0 rfl rfl)
  have k0 := h0
  have lt0 : ∀ x ∈ p0, x.block < W.heap.size := by obtain ⟨m, hm⟩ := k0; exact DataW.trod_lt m _ _ _ hm
  obtain ⟨z0, w0⟩ : ∃ zs, IsRow .u8 W a0 len0 cap0 zs := by
    obtain ⟨fuel, hf⟩ := h0
    rcases open_ints Try.underlying22 Try.underlying5 (by kernel_rfl) hf with ⟨hcs, _⟩ | ⟨x, l, c, zs, hcs, _, hl, hm, hz, _, hcell, hwz⟩
    · simp [Value.cells] at hcs
      obtain ⟨rfl, rfl, rfl⟩ := hcs
      exact ⟨[], .inl ⟨rfl, rfl, rfl, rfl⟩⟩
    · simp [Value.cells] at hcs
      obtain ⟨rfl, rfl, rfl⟩ := hcs
      exact ⟨zs, .inr ⟨_, rfl, hl, hm, by simpa using hz, hcell, hwz⟩⟩
  clear hA0 hval0
  refine (walk a0 len0 cap0 z0 W w0).mono fun e W' ⟨he, bel⟩ => ?_
  subst he
  exact ⟨_, rfl, _, _, _, [], _, [], hW', trodAll_mk1 (shut_bool Try.underlying4 _), (trodAll_cons_mk (Below.trod laidOut (by kernel_rfl) (of_decide_eq_true (by kernel_rfl)) k0 bel lt0) trodAll_mk0), rfl, bel.frame _, fun h => by cases h⟩

theorem over : Rows.fnFramesRow.holds Try.pinned (OpenSpec.ofChange Rows.fnFramesSpec) :=
  OpenClaim.holds_of_wide 3 Try.f3 rfl rfl rfl rfl rfl rfl rfl ⟨rfl, rfl, rfl, rfl, rfl⟩ rfl rfl rfl rfl rfl (by kernel_rfl) Try.func3 (by kernel_rfl)
    (of_decide_eq_true (by kernel_rfl)) (by unfold Func.isWrapper; first | (rw [if_pos (by decide +kernel)]; kernel_rfl) | (rw [if_neg (by decide +kernel)]; exact ⟨rfl, rfl⟩))
    (fun os started H enc _ => lifted os started H enc)

theorem proved : Rows.FnFramesSaid := over
end Go.Proofs.Ytkhfcemjmnjkdaa.fnFrames
namespace Go.Proofs.Ytkhfcemjmnjkdaa
theorem fnFrames_holds : Rows.FnFramesSaid := fnFrames.proved
#print axioms fnFrames_holds
end Go.Proofs.Ytkhfcemjmnjkdaa
