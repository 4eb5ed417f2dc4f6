/-
  Whatever bytes the law FnShapePushes draws its Shape and its packet from, it returns true and leaves the bytes as they were: what comes into a drawn shaper is behind all of its host, who finds no room is not let in; no condition.
-/
import Derived.Test.YtmjggolllijamaaRows
import Derived.WalkKit
import Derived.ProofKit
import Derived.OpenShut
import Derived.Deep.Cut
import Derived.Deep.RegionHeld3
import Derived.Test.YtmjggolllijamaaMgC
import Derived.ShutString
import Derived.ChangeOld
import Derived.Below
namespace Go.Proofs.Ytmjggolllijamaa.fnShapePushes
open Go.ChangeShapes Go.WideShapes Go.ChangeAt Go.RowKit
open Go.ChangeMaps (open_string shut_string)
set_option linter.unusedVariables false

theorem own : ownKnob Try.prog.godebug = none := by kernel_rfl
theorem laidOut : laidOutB Try.prog = true := by kernel_rfl

/-- A slice of integers that came in. -/
def IsRow (k : IntKind) (w : World) (a : Option Addr) (len cap : Nat) (zs : List Int) : Prop :=
  (a = none ∧ len = 0 ∧ cap = 0 ∧ zs = []) ∨
  ∃ x, a = some x ∧ len ≤ cap ∧ cap ≤ maxLen ∧ zs.length = cap ∧ (∀ i, i < zs.length → w.cell? (x.add i) = some (.int k (zs.getD i 0))) ∧ ∀ n ∈ zs, (Lit.int k n).wf = true

theorem code_of {w : World} {a : Option Addr} {len cap : Nat} {zs : List Int} (h : IsRow .u8 w a len cap zs) : len ≤ 9223372036854775807 ∧ Code w w.heap.size a len := by
  rcases h with ⟨rfl, rfl, rfl, rfl⟩ | ⟨x, rfl, hl, hm, hz, hcell, hwz⟩
  · exact ⟨by omega, .inl rfl⟩
  · unfold maxLen at hm
    refine ⟨by omega, ?_⟩
    by_cases h0 : len = 0
    · exact .inl h0
    · obtain ⟨b, off, rfl, hc⟩ := ints_at hcell (by omega)
      refine .inr ⟨b, off, rfl, World.block_lt_of_cell? w _ (hc 0 (by omega)), fun k hk => ?_⟩
      have hb := bounds_u8 (hwz (zs.getD k 0) (by rw [List.getD_eq_getElem?_getD, List.getElem?_eq_getElem (by omega)]; exact List.getElem_mem _))
      exact ⟨zs.getD k 0, hb.1, hb.2, hc k (by omega)⟩


theorem twoSP {v : World} {a b : Array Value} {t u : TypeId} {V : Nat} (hV : v.heap.size = V) : Sits ((v.alloc (.cells a t)).alloc (.cells b u)) V a t ∧ Sits ((v.alloc (.cells a t)).alloc (.cells b u)) (V + 1) b u ∧ Below V v ((v.alloc (.cells a t)).alloc (.cells b u)) := by subst hV; exact ⟨(Sits.new _ _ _).alloc _, Sits.new' (by simp), ((Below.refl _ v).alloc (Nat.le_refl _) _).alloc (by simp) _⟩
theorem own_lr {base : Nat} {w : World} {x : Option Addr} {N ca : Nat} {A : Nat → Option Addr} {C : Nat → Nat} {L : Nat → Ln} {y : Option Addr} {n cy : Nat} {tn : Nat → Int} (h : OwnI base w x N ca A C L y n cy tn) : LR w.heap.size w x N L := by
  by_cases e : N = 0
  · exact .inl e
  · exact h.lr e
theorem map_seq (l : List Int) : (List.range l.length).map (seq l) = l := by
  apply List.ext_getElem?
  intro i
  by_cases h : i < l.length
  · simp [seq, List.getD, h]
  · simp [h]
set_option maxRecDepth 100000 in
set_option maxHeartbeats 20000000 in
theorem walk (a0 : Option Addr) (len0 cap0 : Nat) (z0 : List Int) (w : World) (w0 : IsRow .u8 w a0 len0 cap0 z0) :
    Calls Try.prog 4 #[.slice a0 len0 cap0] w fun e w' => e = .returned (.bool true) ∧ Below w.heap.size w w' := by
  obtain ⟨hl, hcode⟩ := code_of w0
  clear w0
  have HC : Hid (Code w w.heap.size a0 len0) := hcode
  clear hcode
  go_enter Try.func4, Try.ntmps4
  go_wp2_with fail
  refine (drawShapePush a0 len0 cap0 _ hl HC.out).mono ?_
  rintro e w1 ⟨s, x, N, ca, A, C, L, y, n, cy, tn, p, rfl, oi1, hN, hcn, hn, -, b1⟩
  clear HC hl
  go_upto_region 2 with fail
  obtain ⟨V, hV⟩ : ∃ V, w1.heap.size = V := ⟨_, rfl⟩
  obtain ⟨wv, hwv⟩ : ∃ y', (w1.alloc (.cells (shCells s x N ca y n cy) 29)).alloc (.cells (pkCells p) 31) = y' := ⟨_, rfl⟩
  have tw := twoSP (a := shCells s x N ca y n cy) (b := pkCells p) (t := 29) (u := 31) hV
  rw [hwv] at tw
  have hbv : Below w1.heap.size w1 wv := by rw [hV]; exact tw.2.2
  have HV : Hid (Sits wv V (shCells s x N ca y n cy) 29) := tw.1
  have HP : Hid (Sits wv (V + 1) (pkCells p) 31) := tw.2.1
  have hVl : V + 1 < wv.heap.size := Sits.lt HP.out
  have HB : Hid (Below w.heap.size w wv) := b1.trans (hbv.mono b1.size)
  have oi2 := oi1.below hbv
  have HLR : Hid (∀ U, Below wv.heap.size wv U → LR U.heap.size U x N L ∧ Row .i64 U y n tn) := fun U h => ⟨(own_lr oi2).go h h.size, (Row.below oi2.row h)⟩
  have HN : Hid (N ≤ 1048576) := by show _ ≤ _; omega
  have HCN : Hid (cntF L N ≤ 1048576) := by show _ ≤ _; omega
  have HNN : Hid (n ≤ 1048576) := by show _ ≤ _; omega
  rw [hwv, hV]
  clear hwv hV hbv b1 tw oi1 oi2 hN hcn hn
  have HVA : Hid (∀ U, Below wv.heap.size wv U → SG V s x N ca y n cy U ∧ (U.cell? ⟨V + 1, 0, none⟩ = some (.int .i64 p.id) ∧ U.cell? ⟨V + 1, 1, none⟩ = some (.int .i64 p.flow) ∧ U.cell? ⟨V + 1, 2, none⟩ = some (.int .i64 p.host) ∧ U.cell? ⟨V + 1, 3, none⟩ = some (.int .i64 p.size) ∧ U.cell? ⟨V + 1, 4, none⟩ = some (.int .i64 p.tm) ∧ U.cell? ⟨V + 1, 5, none⟩ = some (.int .i64 p.ecn))) := fun U h => by
    have t := Sits.below HP.out h hVl
    exact ⟨sits_sg (Sits.below HV.out h (by omega)), t.cell 0, t.cell 1, t.cell 2, t.cell 3, t.cell 4, t.cell 5⟩
  obtain ⟨ts, hts⟩ : ∃ l, (List.range n).map tn = l := ⟨_, rfl⟩
  obtain ⟨gd, hgd⟩ : ∃ b, p.good = b := ⟨_, rfl⟩
  obtain ⟨sk, hsk⟩ : ∃ b, shB s N L ts = b := ⟨_, rfl⟩
  have HOK : Hid (∀ U, Below wv.heap.size wv U → Calls Try.prog 16 #[shVal s x N ca y n cy] U fun e w' => e = .returned (.bool sk) ∧ Below U.heap.size U w') := fun U h => by
    have := sshapeOk_any s x N ca y n cy L tn U HN.out HCN.out HNN.out (HLR.out U h).1 (HLR.out U h).2
    rw [hts, hsk] at this
    exact this
  have HPK : Hid (∀ U : World, Calls Try.prog 17 #[p.val] U fun e w' => e = .returned (.bool gd) ∧ Below U.heap.size U w') := fun U => (spktOk_any p U).mono fun e w' h => ⟨by rw [← hgd]; exact h.1, h.2.1⟩
  have HSH : Hid (∀ U : World, Calls Try.prog 18 #[] U fun e w' => e = .returned (.bool true) ∧ Below U.heap.size U w') := shapes_any
  have HTS : Hid ((List.range n).map tn = ts) := hts
  have HGD : Hid (p.good = gd) := hgd
  have HSK : Hid (shB s N L ts = sk) := hsk
  clear hts hgd hsk
  have HR0 : Hid (Below wv.heap.size wv wv) := Below.refl _ _
  by_cases hbad : (sk && gd) = false
  case pos =>
    have HBAD : Hid (∀ U, Below wv.heap.size wv U → Calls Try.prog 15 #[shVal s x N ca y n cy, p.val] U fun e w' => ∃ (S : Sh) (X : Option Addr) (CL : Nat) (Y : Option Addr) (CY : Nat), e = .returned (.tuple #[shVal S X 0 CL Y 0 CY, .bool false]) ∧ Below U.heap.size U w') := fun U h => by
      refine (ipush_law s x N ca y n cy L tn p U HN.out HCN.out HNN.out (HLR.out U h).1 (HLR.out U h).2).mono ?_
      rw [HTS.out]
      rintro e w' ⟨X, CL, Y, CY, rfl, _, hb⟩
      have hm : ¬ mayB s N L ts p = true := by unfold mayB; rw [HSK.out, HGD.out, hbad]; simp
      have e2 : spN s N L ts p = 0 := if_neg hm
      have e3 : spT s N L ts p = [] := if_neg hm
      have e4 : spB s N L ts p = false := by unfold spB; rw [Bool.eq_false_iff.2 hm]; rfl
      exact ⟨_, X, CL, Y, CY, by rw [e2, e3, e4]; rfl, hb⟩
    obtain ⟨⟨c0, c1, c2, c3, c4, c5, c6⟩, d0, d1, d2, d3, d4, d5⟩ := HVA.out _ HR0.out
    go_upto_region 3 with (go_at_call 15; refine (HBAD.out _ HR0.out).mono ?_; rintro e w2 ⟨S, X, CL, Y, CY, rfl, b2⟩)
    obtain ⟨B, hB⟩ : ∃ B, w2.heap.size = B := ⟨_, rfl⟩
    obtain ⟨wb, hwb⟩ : ∃ z, w2.alloc (.cells (shCells S X 0 CL Y 0 CY) 29) = z := ⟨_, rfl⟩
    have bb : Below w2.heap.size w2 wb := by rw [← hwb]; exact (Below.refl _ _).alloc (Nat.le_refl _) _
    have HSB : Hid (Sits wb B (shCells S X 0 CL Y 0 CY) 29) := by show Sits _ _ _ _; rw [← hwb]; exact Sits.new' hB
    have HBB : Hid (Below wv.heap.size wv wb) := b2.trans (bb.mono b2.size)
    have hBl : B < wb.heap.size := Sits.lt HSB.out
    rw [hwb]
    (try rw [hB])
    clear hwb bb b2 hB HBAD
    clear c0 c1 c2 c3 c4 c5 c6 d0 d1 d2 d3 d4 d5
    obtain ⟨⟨c0, c1, c2, c3, c4, c5, c6⟩, d0, d1, d2, d3, d4, d5⟩ := HVA.out _ HBB.out
    have u5 := Sits.cell HSB.out 5
    have HU : Hid (∀ U, Below wb.heap.size wb U → Below w.heap.size w U ∧ U.cell? ⟨B, 5, none⟩ = some (.slice X 0 CL)) := fun U h => ⟨(HB.out).trans (((HBB.out).trans (h.mono (HBB.out).size)).mono (HB.out).size), (Sits.below HSB.out h hBl).cell 5⟩
    cases sk
    case false =>
      clear hbad
      go_upto_region 4 with (go_at_call 16; refine (HOK.out _ HBB.out).mono ?_; rintro e w3 ⟨rfl, bo⟩; have HBO : Hid (Below wb.heap.size wb w3) := bo; obtain ⟨_, k0, k1, k2, k3, k4, k5⟩ := HVA.out w3 ((HBB.out).trans (bo.mono (HBB.out).size)); clear bo)
      clear c0 c1 c2 c3 c4 c5 c6 d0 d1 d2 d3 d4 d5 u5
      have u5 := (HU.out _ HBO.out).2
      go_wp2_with (go_at_call 18; refine (HSH.out _).mono ?_; rintro e w5 ⟨rfl, bo⟩; have HBF : Hid (Below wb.heap.size wb w5) := (HBO.out).trans (bo.mono (HBO.out).size); clear bo)
      go_ret
      exact ⟨rfl, (HU.out _ HBF.out).1⟩
    case true =>
      obtain rfl : gd = false := by simpa using hbad
      clear hbad
      go_upto_region 4 with (first | (go_at_call 16; refine (HOK.out _ HBB.out).mono ?_; rintro e w3 ⟨rfl, bo⟩; have HBO : Hid (Below wb.heap.size wb w3) := bo; obtain ⟨_, k0, k1, k2, k3, k4, k5⟩ := HVA.out w3 ((HBB.out).trans (bo.mono (HBB.out).size)); clear bo) | (go_at_call 17; refine (HPK.out _).mono ?_; rintro e w4 ⟨rfl, bo⟩; replace HBO : Hid (Below wb.heap.size wb w4) := (HBO.out).trans (bo.mono (HBO.out).size); clear bo))
      clear c0 c1 c2 c3 c4 c5 c6 d0 d1 d2 d3 d4 d5 u5
      have u5 := (HU.out _ HBO.out).2
      go_wp2_with (go_at_call 18; refine (HSH.out _).mono ?_; rintro e w5 ⟨rfl, bo⟩; have HBF : Hid (Below wb.heap.size wb w5) := (HBO.out).trans (bo.mono (HBO.out).size); clear bo)
      go_ret
      exact ⟨rfl, (HU.out _ HBF.out).1⟩
  case neg =>
    have hfg : sk = true ∧ gd = true := by cases sk <;> cases gd <;> simp_all
    obtain ⟨rfl, rfl⟩ := hfg
    clear hbad
    have hm : mayB s N L ts p = true := by unfold mayB; rw [HSK.out, HGD.out]; rfl
    have HMAY : Hid (mayB s N L ts p = true) := hm
    have hsp : shP s N L ts := (may_parts hm).1
    have HN4 : Hid (N = 4) := hsp.2.1
    have HSP : Hid (shP s N L ts) := hsp
    clear hm hsp
    by_cases hin : shpB s L p = true
    case neg =>
      obtain ⟨m, hm⟩ : ∃ m, (spT s N L ts p).length = m := ⟨_, rfl⟩
      obtain ⟨tm, htm⟩ : ∃ t, seq (spT s N L ts p) = t := ⟨_, rfl⟩
      obtain ⟨L2, hL2⟩ : ∃ l, outL s L p = l := ⟨_, rfl⟩
      have HPU : Hid (∀ U, Below wv.heap.size wv U → Calls Try.prog 15 #[shVal s x N ca y n cy, p.val] U fun e w' => ∃ (X : Option Addr) (CL : Nat) (Y : Option Addr) (CY : Nat), e = .returned (.tuple #[shVal s X N CL Y m CY, .bool false]) ∧ MK0 U.heap.size w' X N L2 Y m tm ∧ Below U.heap.size U w') := fun U h => by
        refine (ipush_law s x N ca y n cy L tn p U HN.out HCN.out HNN.out (HLR.out U h).1 (HLR.out U h).2).mono ?_
        rw [HTS.out, htm, hm, hL2]
        rintro e w' ⟨X, CL, Y, CY, rfl, mk, hb⟩
        have e1 : spS s N L ts p = s := if_pos HMAY.out
        have e2 : spN s N L ts p = N := (if_pos HMAY.out).trans HN4.out.symm
        have e4 : spB s N L ts p = false := by unfold spB; rw [HMAY.out, Bool.eq_false_iff.2 hin]; rfl
        rw [e2] at mk
        exact ⟨X, CL, Y, CY, by rw [e1, e2, e4], mk, hb⟩
      obtain ⟨⟨c0, c1, c2, c3, c4, c5, c6⟩, d0, d1, d2, d3, d4, d5⟩ := HVA.out _ HR0.out
      go_upto_region 3 with (go_at_call 15; refine (HPU.out _ HR0.out).mono ?_; rintro e w2 ⟨X, CL, Y, CY, rfl, mk, b2⟩)
      obtain ⟨B, hB⟩ : ∃ B, w2.heap.size = B := ⟨_, rfl⟩
      obtain ⟨wb, hwb⟩ : ∃ z, w2.alloc (.cells (shCells s X N CL Y m CY) 29) = z := ⟨_, rfl⟩
      have bb : Below w2.heap.size w2 wb := by rw [← hwb]; exact (Below.refl _ _).alloc (Nat.le_refl _) _
      have HSB : Hid (Sits wb B (shCells s X N CL Y m CY) 29) := by show Sits _ _ _ _; rw [← hwb]; exact Sits.new' hB
      have HBB : Hid (Below wv.heap.size wv wb) := b2.trans (bb.mono b2.size)
      have hBl : B < wb.heap.size := Sits.lt HSB.out
      have mk2 := MK0.below mk bb
      have HXR : Hid (∀ U, Below wb.heap.size wb U → LR U.heap.size U X N L2 ∧ Row .i64 U Y m tm) := fun U h => ⟨(MK0.lr mk2).go h h.size, Row.below (MK0.row mk2) h⟩
      rw [hwb]
      (try rw [hB])
      clear hwb bb b2 hB HPU mk mk2
      clear c0 c1 c2 c3 c4 c5 c6 d0 d1 d2 d3 d4 d5
      obtain ⟨⟨c0, c1, c2, c3, c4, c5, c6⟩, d0, d1, d2, d3, d4, d5⟩ := HVA.out _ HBB.out
      go_upto_region 5 with (first | (go_at_call 16; refine (HOK.out _ HBB.out).mono ?_; rintro e w3 ⟨rfl, bo⟩; have HBO : Hid (Below wb.heap.size wb w3) := bo; obtain ⟨_, k0, k1, k2, k3, k4, k5⟩ := HVA.out w3 ((HBB.out).trans (bo.mono (HBB.out).size)); clear bo) | (go_at_call 17; refine (HPK.out _).mono ?_; rintro e w4 ⟨rfl, bo⟩; replace HBO : Hid (Below wb.heap.size wb w4) := (HBO.out).trans (bo.mono (HBO.out).size); clear bo))
      clear c0 c1 c2 c3 c4 c5 c6 d0 d1 d2 d3 d4 d5
      have HW : Hid (∀ U, Below wb.heap.size wb U → Below w.heap.size w U) := fun U h => (HB.out).trans (((HBB.out).trans (h.mono (HBB.out).size)).mono (HB.out).size)
      have HV4 : Hid (∀ U, Below w4.heap.size w4 U → Below wv.heap.size wv U ∧ Below wb.heap.size wb U) := fun U h => ⟨(HBB.out).trans (((HBO.out).trans (h.mono (HBO.out).size)).mono (HBB.out).size), (HBO.out).trans (h.mono (HBO.out).size)⟩
      have eL : L2 = L := by rw [← hL2]; unfold outL; rw [if_neg hin]
      subst eL
      clear hL2 hm htm hin
      go_upto_region 6 with fail
      have HSA : Hid (∀ U, Below w4.heap.size w4 U → U.cell? ⟨B, 5, none⟩ = some (.slice X N CL) ∧ U.cell? ⟨V, 5, none⟩ = some (.slice x N ca)) := fun U h => by
        obtain ⟨h1, h2⟩ := HV4.out U h
        exact ⟨(Sits.below HSB.out h2 hBl).cell 5, (HVA.out U h1).1.2.2.2.2.2.1⟩
      have BD : Hid (Below w4.heap.size w4 w4.drew) := (Below.refl _ _).drew
      have HALLX : Hid (∀ U, Below w4.heap.size w4 U → Calls Try.prog 20 #[.slice X N CL] U fun e w' => ∃ (z : Option Addr) (c : Nat), e = .returned (.slice z (cntF L2 N) c) ∧ PR w'.heap.size w' z (cntF L2 N) (allF L2 N) ∧ Below U.heap.size U w') := fun U h => (all_any X N CL L2 U HN.out HCN.out (HXR.out U (HV4.out U h).2).1).mono (by rintro e w' ⟨z, c, rfl, hp, hb⟩; exact ⟨z, c, rfl, hp.pr, hb⟩)
      have HALLS : Hid (∀ U, Below w4.heap.size w4 U → Calls Try.prog 20 #[.slice x N ca] U fun e w' => ∃ (z : Option Addr) (c : Nat), e = .returned (.slice z (cntF L2 N) c) ∧ PR w'.heap.size w' z (cntF L2 N) (allF L2 N) ∧ Below U.heap.size U w') := fun U h => (all_any x N ca L2 U HN.out HCN.out (HLR.out U (HV4.out U h).1).1).mono (by rintro e w' ⟨z, c, rfl, hp, hb⟩; exact ⟨z, c, rfl, hp.pr, hb⟩)
      obtain ⟨M, hM⟩ : ∃ M, cntF L2 N = M := ⟨_, rfl⟩
      have HMM : Hid (M ≤ 1048576) := by show _ ≤ _; rw [← hM]; exact HCN.out
      rw [hM] at HALLX HALLS
      clear hM
      go_region_held3 (fun w' => w'.cell? ⟨B, 5, none⟩ = some (.slice X N CL) ∧ w'.cell? ⟨V, 5, none⟩ = some (.slice x N ca)) (first | (with_reducible exact HSA.out _ BD.out) | (with_reducible exact HSA.out _ BX.out) | (with_reducible exact HSA.out _ BY.out) | (with_reducible exact HSA.out _ BZ.out) | (with_reducible exact HSA.out _ BS.out) | fail)
        (first | (go_at_call 18; refine (HSH.out _).mono ?_; rintro e ws ⟨rfl, bo⟩; have BS : Hid (Below w4.heap.size w4 ws) := (BZ.out).trans (bo.mono (BZ.out).size); clear bo) | (go_at_call 19; refine (samePkts_yes zx zy M zc zd (allF L2 N) (allF L2 N) _ HMM.out ((PR.below PX.out BXY.out).mono (BXY.out).size) PY.out (fun _ _ => rfl)).mono ?_; rintro e wz ⟨rfl, bo, _⟩; have BZ : Hid (Below w4.heap.size w4 wz) := (BY.out).trans (bo.1.mono (BY.out).size); clear bo) | (go_at_call 20; refine (HALLS.out _ BX.out).mono ?_; rintro e wy ⟨zy, zd, rfl, py, bo⟩; have PY : Hid (PR wy.heap.size wy zy M (allF L2 N)) := py; have BXY : Hid (Below wx.heap.size wx wy) := bo; have BY : Hid (Below w4.heap.size w4 wy) := (BX.out).trans (bo.mono (BX.out).size); clear bo py) | (go_at_call 20; refine (HALLX.out _ BD.out).mono ?_; rintro e wx ⟨zx, zc, rfl, px, bo⟩; have PX : Hid (PR wx.heap.size wx zx M (allF L2 N)) := px; have BX : Hid (Below w4.heap.size w4 wx) := (BD.out).trans (bo.mono (BD.out).size); clear bo px))
      all_goals go_wp2
      all_goals go_ret
      all_goals exact ⟨rfl, HW.out _ (HV4.out _ BS.out).2⟩
    case pos =>
      obtain ⟨m, hm⟩ : ∃ m, (spT s N L ts p).length = m := ⟨_, rfl⟩
      obtain ⟨tm, htm⟩ : ∃ t, seq (spT s N L ts p) = t := ⟨_, rfl⟩
      obtain ⟨L2, hL2⟩ : ∃ l, outL s L p = l := ⟨_, rfl⟩
      have HPU : Hid (∀ U, Below wv.heap.size wv U → Calls Try.prog 15 #[shVal s x N ca y n cy, p.val] U fun e w' => ∃ (X : Option Addr) (CL : Nat) (Y : Option Addr) (CY : Nat), e = .returned (.tuple #[shVal s X N CL Y m CY, .bool true]) ∧ MK0 U.heap.size w' X N L2 Y m tm ∧ Below U.heap.size U w') := fun U h => by
        refine (ipush_law s x N ca y n cy L tn p U HN.out HCN.out HNN.out (HLR.out U h).1 (HLR.out U h).2).mono ?_
        rw [HTS.out, htm, hm, hL2]
        rintro e w' ⟨X, CL, Y, CY, rfl, mk, hb⟩
        have e1 : spS s N L ts p = s := if_pos HMAY.out
        have e2 : spN s N L ts p = N := (if_pos HMAY.out).trans HN4.out.symm
        have e4 : spB s N L ts p = true := by unfold spB; rw [HMAY.out, hin]; rfl
        rw [e2] at mk
        exact ⟨X, CL, Y, CY, by rw [e1, e2, e4], mk, hb⟩
      obtain ⟨⟨c0, c1, c2, c3, c4, c5, c6⟩, d0, d1, d2, d3, d4, d5⟩ := HVA.out _ HR0.out
      go_upto_region 3 with (go_at_call 15; refine (HPU.out _ HR0.out).mono ?_; rintro e w2 ⟨X, CL, Y, CY, rfl, mk, b2⟩)
      obtain ⟨B, hB⟩ : ∃ B, w2.heap.size = B := ⟨_, rfl⟩
      obtain ⟨wb, hwb⟩ : ∃ z, w2.alloc (.cells (shCells s X N CL Y m CY) 29) = z := ⟨_, rfl⟩
      have bb : Below w2.heap.size w2 wb := by rw [← hwb]; exact (Below.refl _ _).alloc (Nat.le_refl _) _
      have HSB : Hid (Sits wb B (shCells s X N CL Y m CY) 29) := by show Sits _ _ _ _; rw [← hwb]; exact Sits.new' hB
      have HBB : Hid (Below wv.heap.size wv wb) := b2.trans (bb.mono b2.size)
      have hBl : B < wb.heap.size := Sits.lt HSB.out
      have mk2 := MK0.below mk bb
      have HXR : Hid (∀ U, Below wb.heap.size wb U → LR U.heap.size U X N L2 ∧ Row .i64 U Y m tm) := fun U h => ⟨(MK0.lr mk2).go h h.size, Row.below (MK0.row mk2) h⟩
      rw [hwb]
      (try rw [hB])
      clear hwb bb b2 hB HPU mk mk2
      clear c0 c1 c2 c3 c4 c5 c6 d0 d1 d2 d3 d4 d5
      obtain ⟨⟨c0, c1, c2, c3, c4, c5, c6⟩, d0, d1, d2, d3, d4, d5⟩ := HVA.out _ HBB.out
      go_upto_region 5 with (first | (go_at_call 16; refine (HOK.out _ HBB.out).mono ?_; rintro e w3 ⟨rfl, bo⟩; have HBO : Hid (Below wb.heap.size wb w3) := bo; obtain ⟨_, k0, k1, k2, k3, k4, k5⟩ := HVA.out w3 ((HBB.out).trans (bo.mono (HBB.out).size)); clear bo) | (go_at_call 17; refine (HPK.out _).mono ?_; rintro e w4 ⟨rfl, bo⟩; replace HBO : Hid (Below wb.heap.size wb w4) := (HBO.out).trans (bo.mono (HBO.out).size); clear bo))
      clear c0 c1 c2 c3 c4 c5 c6 d0 d1 d2 d3 d4 d5
      have HW : Hid (∀ U, Below wb.heap.size wb U → Below w.heap.size w U) := fun U h => (HB.out).trans (((HBB.out).trans (h.mono (HBB.out).size)).mono (HB.out).size)
      have HV4 : Hid (∀ U, Below w4.heap.size w4 U → Below wv.heap.size wv U ∧ Below wb.heap.size wb U) := fun U h => ⟨(HBB.out).trans (((HBO.out).trans (h.mono (HBO.out).size)).mono (HBB.out).size), (HBO.out).trans (h.mono (HBO.out).size)⟩
      obtain ⟨eh, h4⟩ := host_of HGD.out
      obtain ⟨h, hh⟩ : ∃ h, p.host.toNat = h := ⟨_, rfl⟩
      rw [hh] at eh h4
      have hP := shP_push (by have := HSP.out; rw [HN4.out] at this; exact this) HGD.out (of_decide_eq_true hin)
      have eT : spT s N L ts p = shpT L ts p.host.toNat := by unfold spT; rw [if_pos HMAY.out]; unfold outT; rw [if_pos hin]
      have eL : L2 = shpL s L p h := by rw [← hL2, ← hh]; unfold outL; rw [if_pos hin]
      have e5 : (List.range m).map tm = spT s N L ts p := by rw [← hm, ← htm]; exact map_seq _
      have HSB2 : Hid (shB s N L2 ((List.range m).map tm) = true) := by show _ = _; rw [e5, eT, eL, ← hh, HN4.out]; exact (sh_yes hP).symm
      obtain ⟨nh, hnh⟩ : ∃ k, (L h).n = k := ⟨_, rfl⟩
      have en : (L2 h).n = nh + 1 := by rw [eL, ← hnh]; unfold shpL; rw [if_pos rfl]; rfl
      have ef : (L2 h).f nh = p := by rw [eL]; unfold shpL; rw [if_pos rfl]; unfold shpLn; dsimp only; rw [if_pos hnh.symm]
      have efl : ∀ i, i < nh → (L2 h).f i = (L h).f i := fun i hi => by rw [eL]; unfold shpL; rw [if_pos rfl]; unfold shpLn; dsimp only; rw [if_neg (by omega)]
      have ec : cntF L2 N = cntF L N + 1 := by rw [HN4.out, eL]; exact shpL_cnt h4
      have hhN : h < N := by have := HN4.out; omega
      have HCN1 : Hid (cntF L N + 1 ≤ 1048576) := by show _ ≤ _; have h1 := HSP.out.2.2.1; have h2 := HSP.out.1.2.2.2.2.2; omega
      have HEH : Hid (p.host = (h : Int)) := eh
      have HEN : Hid ((L2 h).n = nh + 1) := en
      have HEF : Hid ((L2 h).f nh = p) := ef
      have HEL : Hid (∀ i, i < nh → (L2 h).f i = (L h).f i) := efl
      have HEC : Hid (cntF L2 N = cntF L N + 1) := ec
      have hnb : nh + 1 ≤ 1048576 := by have h1 := cntF_le L2 hhN; rw [en, ec] at h1; have := HCN1.out; omega
      have HMM : Hid (m ≤ 1048576) := by show _ ≤ _; rw [← hm, eT]; unfold shpT; have h1 : ts.length = n := (by rw [← HTS.out]; simp); have h2 := turn_len (n := n) (tn := tn) (s := s) (L := L) (by rw [HTS.out]; have := HSP.out; rw [HN4.out] at this; exact this); split <;> simp <;> omega
      clear eh hh hP eT eL e5 hm htm hL2 hin en ef efl ec h4
      have HBO0 : Hid (Below w4.heap.size w4 w4) := Below.refl _ _
      have hxr := (HXR.out w4 HBO.out).1
      obtain ⟨bx, ox, rfl, hbx, hlx⟩ := LR.at hxr hhN
      obtain ⟨xl, xc, hla, hle, hpr⟩ := hlx h hhN
      rw [HEN.out] at hle hpr
      have hlc := hla.1
      rw [HEN.out] at hlc
      obtain ⟨bl, ol, rfl, hbl, hel⟩ := PR.at hpr (j := nh) (by omega)
      have hel2 := hel nh (by omega)
      rw [HEF.out] at hel2
      have hsr := (HLR.out w4 (HV4.out _ HBO0.out).1).1
      obtain ⟨bs, os, rfl, hbs, hls⟩ := LR.at hsr hhN
      obtain ⟨ys, yc, hma, hme, hps⟩ := hls h hhN
      have hmc := hma.1
      rw [hnh] at hmc hme hps
      have HLC : Hid (w4.cell? ⟨bx, ox + h * 9, none⟩ = some (.slice (some ⟨bl, ol, none⟩) (nh + 1) xc)) := hlc
      have HEL2 : Hid (PAt w4 bl (ol + nh * 6) p) := hel2
      have HMC : Hid (w4.cell? ⟨bs, os + h * 9, none⟩ = some (.slice ys nh yc)) := hmc
      have HPL : Hid (PR w4.heap.size w4 (some ⟨bl, ol, none⟩) (nh + 1) (L2 h).f) := hpr
      have HPS : Hid (PR w4.heap.size w4 ys nh (L h).f) := hps
      have HNH : Hid ((L h).n = nh) := hnh
      have hxc : nh + 1 ≤ xc := hle
      clear hxr hlx hla hle hpr hel hel2 hsr hls hma hme hps hlc hmc hnh
      have HSA : Hid (∀ w', Below w4.heap.size w4 w' → (w'.cell? ⟨B, 0, none⟩ = some (.int .i64 s.rt) ∧ w'.cell? ⟨B, 1, none⟩ = some (.int .i64 s.ov) ∧ w'.cell? ⟨B, 2, none⟩ = some (.int .i64 s.nx) ∧ w'.cell? ⟨B, 3, none⟩ = some (.int .i64 s.qt) ∧ w'.cell? ⟨B, 4, none⟩ = some (.int .i64 s.lim) ∧ w'.cell? ⟨B, 5, none⟩ = some (.slice (some ⟨bx, ox, none⟩) N CL) ∧ w'.cell? ⟨B, 6, none⟩ = some (.slice Y m CY)) ∧ (w'.cell? ⟨V + 1, 0, none⟩ = some (.int .i64 p.id) ∧ w'.cell? ⟨V + 1, 1, none⟩ = some (.int .i64 p.flow) ∧ w'.cell? ⟨V + 1, 2, none⟩ = some (.int .i64 (h : Int)) ∧ w'.cell? ⟨V + 1, 3, none⟩ = some (.int .i64 p.size) ∧ w'.cell? ⟨V + 1, 4, none⟩ = some (.int .i64 p.tm) ∧ w'.cell? ⟨V + 1, 5, none⟩ = some (.int .i64 p.ecn)) ∧ (w'.cell? ⟨bl, ol + nh * 6, none⟩ = some (.int .i64 p.id) ∧ w'.cell? ⟨bl, ol + nh * 6 + 1, none⟩ = some (.int .i64 p.flow) ∧ w'.cell? ⟨bl, ol + nh * 6 + 2, none⟩ = some (.int .i64 (h : Int)) ∧ w'.cell? ⟨bl, ol + nh * 6 + 3, none⟩ = some (.int .i64 p.size) ∧ w'.cell? ⟨bl, ol + nh * 6 + 4, none⟩ = some (.int .i64 p.tm) ∧ w'.cell? ⟨bl, ol + nh * 6 + 5, none⟩ = some (.int .i64 p.ecn)) ∧ (w'.cell? ⟨V, 5, none⟩ = some (.slice (some ⟨bs, os, none⟩) N ca) ∧ w'.cell? ⟨bs, os + h * 9, none⟩ = some (.slice ys nh yc))) := fun w' hw => by
        obtain ⟨h1, h2⟩ := HV4.out w' hw
        have t := Sits.below HSB.out h2 hBl
        obtain ⟨⟨_, _, _, _, _, q5, _⟩, r0, r1, r2, r3, r4, r5⟩ := HVA.out w' h1
        rw [HEH.out] at r2
        obtain ⟨s0, s1, s2, s3, s4, s5⟩ := (HEL2.out).below hw hbl
        rw [HEH.out] at s2
        have m0 := (hw.cell (p := ⟨bs, os + h * 9, none⟩) hbs).trans HMC.out
        exact ⟨⟨t.cell 0, t.cell 1, t.cell 2, t.cell 3, t.cell 4, t.cell 5, t.cell 6⟩, ⟨r0, r1, r2, r3, r4, r5⟩, ⟨s0, s1, s2, s3, s4, s5⟩, q5, m0⟩
      obtain ⟨⟨t0, t1, t2, t3, t4, t5, t6⟩, ⟨r0, r1, r2, r3, r4, r5⟩, ⟨s0, s1, s2, s3, s4, s5⟩, q5, m0⟩ := HSA.out _ HBO0.out
      have l0 := HLC.out
      have hhi : (h : Int) < N := by omega
      go_upto_region 8 with fail
      clear t0 t1 t2 t3 t4 t5 t6 r0 r1 r2 r3 r4 r5 s0 s1 s2 s3 s4 s5 q5 m0 l0
      have BD : Hid (Below w4.heap.size w4 w4.drew) := (Below.refl _ _).drew
      obtain ⟨M, hM⟩ : ∃ M, cntF L N = M := ⟨_, rfl⟩
      have HALLX : Hid (∀ U, Below w4.heap.size w4 U → Calls Try.prog 20 #[.slice (some ⟨bx, ox, none⟩) N CL] U fun e w' => ∃ (z : Option Addr) (c : Nat), e = .returned (.slice z (M + 1) c) ∧ Below U.heap.size U w') := fun U h => (all_any (some ⟨bx, ox, none⟩) N CL L2 U HN.out (by rw [HEC.out]; exact HCN1.out) (HXR.out U (HV4.out U h).2).1).mono (by rintro e w' ⟨z, c, rfl, hp, hb⟩; exact ⟨z, c, by rw [HEC.out, hM], hb⟩)
      have HALLS : Hid (∀ U, Below w4.heap.size w4 U → Calls Try.prog 20 #[.slice (some ⟨bs, os, none⟩) N ca] U fun e w' => ∃ (z : Option Addr) (c : Nat), e = .returned (.slice z M c) ∧ Below U.heap.size U w') := fun U h => (all_any (some ⟨bs, os, none⟩) N ca L U HN.out HCN.out (HLR.out U (HV4.out U h).1).1).mono (by rintro e w' ⟨z, c, rfl, hp, hb⟩; exact ⟨z, c, by rw [hM], hb⟩)
      have HOKX : Hid (∀ U, Below w4.heap.size w4 U → Calls Try.prog 21 #[shVal s (some ⟨bx, ox, none⟩) N CL Y m CY] U fun e w' => e = .returned (.bool true) ∧ Below U.heap.size U w') := fun U h => by
        have := ishapeOk_any s (some ⟨bx, ox, none⟩) N CL Y m CY L2 tm U HN.out (by rw [HEC.out]; exact HCN1.out) HMM.out (HXR.out U (HV4.out U h).2).1 (HXR.out U (HV4.out U h).2).2
        rw [HSB2.out] at this
        exact this
      have HSAME : Hid (∀ U, Below w4.heap.size w4 U → Calls Try.prog 19 #[.slice (some ⟨bl, ol, none⟩) nh xc, .slice ys nh yc] U fun e w' => e = .returned (.bool true) ∧ Below U.heap.size U w') := fun U h => (samePkts_yes (some ⟨bl, ol, none⟩) ys nh xc yc (L2 _).f (L _).f U (by omega) (PR.take ((PR.below HPL.out h).mono h.size) (by omega)) ((PR.below HPS.out h).mono h.size) HEL.out).mono (by rintro e w' ⟨rfl, hb, _⟩; exact ⟨rfl, hb.1⟩)
      have hwM : IntKind.i64.wrap ((M : Int) + 1) = (M : Int) + 1 := by have := HCN1.out; rw [hM] at this; exact wrap_in (by omega) (by omega)
      have hwn : IntKind.i64.wrap (nh : Int) = (nh : Int) := wrap_in (by omega) (by omega)
      have hwn2 : IntKind.i64.wrap ((nh : Int) + 1 - 1) = (nh : Int) := by rw [wrap_in (by omega) (by omega)]; omega
      have hsl0 : (0 : Int) ≤ (nh : Int) := by omega
      have hsl1 : (nh : Int) ≤ (xc : Int) := by omega
      have hsl2 : ¬ (xc : Int) < (nh : Int) := by omega
      have hsl3 : ¬ (nh : Int) < 0 := by omega
      have hix2 : ¬ ((nh : Int) + 1 ≤ (nh : Int)) := by omega
      clear hM HNH HPL HPS HEL2 HMC HLC
      go_region_held3 (fun w' => (w'.cell? ⟨B, 0, none⟩ = some (.int .i64 s.rt) ∧ w'.cell? ⟨B, 1, none⟩ = some (.int .i64 s.ov) ∧ w'.cell? ⟨B, 2, none⟩ = some (.int .i64 s.nx) ∧ w'.cell? ⟨B, 3, none⟩ = some (.int .i64 s.qt) ∧ w'.cell? ⟨B, 4, none⟩ = some (.int .i64 s.lim) ∧ w'.cell? ⟨B, 5, none⟩ = some (.slice (some ⟨bx, ox, none⟩) N CL) ∧ w'.cell? ⟨B, 6, none⟩ = some (.slice Y m CY)) ∧ (w'.cell? ⟨V + 1, 0, none⟩ = some (.int .i64 p.id) ∧ w'.cell? ⟨V + 1, 1, none⟩ = some (.int .i64 p.flow) ∧ w'.cell? ⟨V + 1, 2, none⟩ = some (.int .i64 (h : Int)) ∧ w'.cell? ⟨V + 1, 3, none⟩ = some (.int .i64 p.size) ∧ w'.cell? ⟨V + 1, 4, none⟩ = some (.int .i64 p.tm) ∧ w'.cell? ⟨V + 1, 5, none⟩ = some (.int .i64 p.ecn)) ∧ (w'.cell? ⟨bl, ol + nh * 6, none⟩ = some (.int .i64 p.id) ∧ w'.cell? ⟨bl, ol + nh * 6 + 1, none⟩ = some (.int .i64 p.flow) ∧ w'.cell? ⟨bl, ol + nh * 6 + 2, none⟩ = some (.int .i64 (h : Int)) ∧ w'.cell? ⟨bl, ol + nh * 6 + 3, none⟩ = some (.int .i64 p.size) ∧ w'.cell? ⟨bl, ol + nh * 6 + 4, none⟩ = some (.int .i64 p.tm) ∧ w'.cell? ⟨bl, ol + nh * 6 + 5, none⟩ = some (.int .i64 p.ecn)) ∧ (w'.cell? ⟨V, 5, none⟩ = some (.slice (some ⟨bs, os, none⟩) N ca) ∧ w'.cell? ⟨bs, os + h * 9, none⟩ = some (.slice ys nh yc))) (first | (with_reducible exact HSA.out _ BD.out) | (with_reducible exact HSA.out _ BO.out) | (with_reducible exact HSA.out _ BX.out) | (with_reducible exact HSA.out _ BY.out) | (with_reducible exact HSA.out _ BZ.out) | fail)
        (first | (go_at_call 19; refine (HSAME.out _ BY.out).mono ?_; rintro e wz ⟨rfl, bo⟩; have BZ : Hid (Below w4.heap.size w4 wz) := (BY.out).trans (bo.mono (BY.out).size); clear bo) | (go_at_call 20; refine (HALLS.out _ BX.out).mono ?_; rintro e wy ⟨zy, zd, rfl, bo⟩; have BY : Hid (Below w4.heap.size w4 wy) := (BX.out).trans (bo.mono (BX.out).size); clear bo) | (go_at_call 20; refine (HALLX.out _ BO.out).mono ?_; rintro e wx ⟨zx, zc, rfl, bo⟩; have BX : Hid (Below w4.heap.size w4 wx) := (BO.out).trans (bo.mono (BO.out).size); clear bo) | (go_at_call 21; refine (HOKX.out _ BD.out).mono ?_; rintro e wo ⟨rfl, bo⟩; have BO : Hid (Below w4.heap.size w4 wo) := (BD.out).trans (bo.mono (BD.out).size); clear bo))
      all_goals go_wp2
      all_goals go_ret
      all_goals exact ⟨rfl, HW.out _ (HV4.out _ BZ.out).2⟩

set_option maxRecDepth 100000 in
theorem lifted (os : Os) (started : os.Started) (H : Type) (enc : TypeId × Value → H) :
    ReturnsInHanded {} Try.checked os 4 .any (Rows.fnShapePushesSpec.pre6 enc Try.prog Try.f4 Rows.fnShapePushesRow.domain false) (Rows.fnShapePushesSpec.post enc Try.prog Try.f4 false true false false) := by
  refine returnsInHanded_of_change (C := Try.checked) own started (by kernel_rfl) Try.func4
    (ChangeSpec.witness6 (enc := enc) (C := Try.checked) false ⟨#[], #[.slice none 0 0], []⟩ 8 (by kernel_rfl) (by kernel_rfl) (by kernel_rfl) (by kernel_rfl)) ?_
  intro W base args ds gs before hval0 hW hcnd _
  have hval : ∀ (j : Nat) t v, Try.f4.params[j]? = some t → args[j]? = some v → Value.okWide Try.prog W .any base t v := hval0
  have hW' := hW
  obtain ⟨p, q, hA0, hV, rfl, hfz, hnd⟩ := hW
  have hA : DataW.TrodAll enc Try.prog W 0 (fun _ => true) true Try.f4.params.toList args.toList ds p := hA0
  rw [Try.params4] at hA hval
  obtain ⟨v0, vs0, d0, ds0, p0, q0, hargs, rfl, rfl, h0, r0⟩ := trodAll_cons hA
  obtain ⟨rfl, rfl, rfl⟩ := trodAll_nil r0
  obtain rfl : args = #[v0] := by cases args; simp_all
  obtain ⟨rfl, rfl⟩ := trodVars_none hV
  obtain ⟨a0, len0, cap0, rfl⟩ := okWide_slice Try.underlying39 (hval 0 39 v0 rfl rfl)
  have k0 := h0
  have lt0 : ∀ x ∈ p0, x.block < W.heap.size := by obtain ⟨m, hm⟩ := k0; exact DataW.trod_lt m _ _ _ hm
  obtain ⟨z0, w0⟩ : ∃ zs, IsRow .u8 W a0 len0 cap0 zs := by
    obtain ⟨fuel, hf⟩ := h0
    rcases open_ints Try.underlying39 Try.underlying5 (by kernel_rfl) hf with ⟨hcs, _⟩ | ⟨x, l, c, zs, hcs, _, hl, hm, hz, _, hcell, hwz⟩
    · simp [Value.cells] at hcs
      obtain ⟨rfl, rfl, rfl⟩ := hcs
      exact ⟨[], .inl ⟨rfl, rfl, rfl, rfl⟩⟩
    · simp [Value.cells] at hcs
      obtain ⟨rfl, rfl, rfl⟩ := hcs
      exact ⟨zs, .inr ⟨_, rfl, hl, hm, by simpa using hz, hcell, hwz⟩⟩
  clear hA0 hval0
  refine (walk a0 len0 cap0 z0 W w0).mono fun e W' ⟨he, bel⟩ => ?_
  subst he
  exact ⟨_, rfl, _, _, _, [], _, [], hW', trodAll_mk1 (shut_bool Try.underlying4 _), (trodAll_cons_mk (Below.trod laidOut (by kernel_rfl) (of_decide_eq_true (by kernel_rfl)) k0 bel lt0) trodAll_mk0), rfl, bel.frame _, fun h => by cases h⟩

theorem over : Rows.fnShapePushesRow.holds Try.pinned (OpenSpec.ofChange Rows.fnShapePushesSpec) :=
  OpenClaim.holds_of_wide 4 Try.f4 rfl rfl rfl rfl rfl rfl rfl ⟨rfl, rfl, rfl, rfl, rfl⟩ rfl rfl rfl rfl rfl (by kernel_rfl) Try.func4 (by kernel_rfl)
    (of_decide_eq_true (by kernel_rfl)) (by unfold Func.isWrapper; first | (rw [if_pos (by decide +kernel)]; kernel_rfl) | (rw [if_neg (by decide +kernel)]; exact ⟨rfl, rfl⟩))
    (fun os started H enc _ => lifted os started H enc)

theorem proved : Rows.FnShapePushesSaid := over
end Go.Proofs.Ytmjggolllijamaa.fnShapePushes
namespace Go.Proofs.Ytmjggolllijamaa
theorem fnShapePushes_holds : Rows.FnShapePushesSaid := fnShapePushes.proved
#print axioms fnShapePushes_holds
end Go.Proofs.Ytmjggolllijamaa
