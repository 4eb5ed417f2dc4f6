/-
  Whatever bytes the law FnShapePops draws its Shape and its moment from, it returns true and leaves the bytes as they were: a drawn shaper lets nothing out too early, what it lets out is the first of its host, and the next moment is that much later; no condition.
-/
import Derived.Test.YtmjggolllijamaaRows
import Derived.WalkKit
import Derived.ProofKit
import Derived.OpenShut
import Derived.Deep.Cut
import Derived.Deep.RegionHeld3
import Derived.Test.YtmjggolllijamaaMgC
import Derived.ShutString
import Derived.ChangeOld
import Derived.Below
namespace Go.Proofs.Ytmjggolllijamaa.fnShapePops
open Go.ChangeShapes Go.WideShapes Go.ChangeAt Go.RowKit
open Go.ChangeMaps (open_string shut_string)
set_option linter.unusedVariables false

theorem own : ownKnob Try.prog.godebug = none := by kernel_rfl
theorem laidOut : laidOutB Try.prog = true := by kernel_rfl

/-- A slice of integers that came in. -/
def IsRow (k : IntKind) (w : World) (a : Option Addr) (len cap : Nat) (zs : List Int) : Prop :=
  (a = none ∧ len = 0 ∧ cap = 0 ∧ zs = []) ∨
  ∃ x, a = some x ∧ len ≤ cap ∧ cap ≤ maxLen ∧ zs.length = cap ∧ (∀ i, i < zs.length → w.cell? (x.add i) = some (.int k (zs.getD i 0))) ∧ ∀ n ∈ zs, (Lit.int k n).wf = true

theorem code_of {w : World} {a : Option Addr} {len cap : Nat} {zs : List Int} (h : IsRow .u8 w a len cap zs) : len ≤ 9223372036854775807 ∧ Code w w.heap.size a len := by
  rcases h with ⟨rfl, rfl, rfl, rfl⟩ | ⟨x, rfl, hl, hm, hz, hcell, hwz⟩
  · exact ⟨by omega, .inl rfl⟩
  · unfold maxLen at hm
    refine ⟨by omega, ?_⟩
    by_cases h0 : len = 0
    · exact .inl h0
    · obtain ⟨b, off, rfl, hc⟩ := ints_at hcell (by omega)
      refine .inr ⟨b, off, rfl, World.block_lt_of_cell? w _ (hc 0 (by omega)), fun k hk => ?_⟩
      have hb := bounds_u8 (hwz (zs.getD k 0) (by rw [List.getD_eq_getElem?_getD, List.getElem?_eq_getElem (by omega)]; exact List.getElem_mem _))
      exact ⟨zs.getD k 0, hb.1, hb.2, hc k (by omega)⟩


attribute [local go_sem ↓] slice_tail_pk
theorem twoSP {v : World} {a b : Array Value} {t u : TypeId} {V : Nat} (hV : v.heap.size = V) : Sits ((v.alloc (.cells a t)).alloc (.cells b u)) V a t ∧ Sits ((v.alloc (.cells a t)).alloc (.cells b u)) (V + 1) b u ∧ Below V v ((v.alloc (.cells a t)).alloc (.cells b u)) := by subst hV; exact ⟨(Sits.new _ _ _).alloc _, Sits.new' (by simp), ((Below.refl _ v).alloc (Nat.le_refl _) _).alloc (by simp) _⟩
theorem own_lr {base : Nat} {w : World} {x : Option Addr} {N ca : Nat} {A : Nat → Option Addr} {C : Nat → Nat} {L : Nat → Ln} {y : Option Addr} {n cy : Nat} {tn : Nat → Int} (h : OwnI base w x N ca A C L y n cy tn) : LR w.heap.size w x N L := by
  by_cases e : N = 0
  · exact .inl e
  · exact h.lr e
theorem po_at {base : Nat} {w : World} {x : Option Addr} {m cap : Nat} {f : Nat → Pk} (h : PO base w x m cap f) (hm : m ≠ 0) : ∃ g : Nat, x = some ⟨g, 0, none⟩ ∧ g < w.heap.size ∧ m ≤ cap ∧ ∀ i, i < m → PAt w g (i * 6) (f i) := by
  rcases h.zi with e | ⟨g, ha, _, h2, ho⟩
  · omega
  · exact ⟨g, ha, h2, h.cap, fun k hk => pat_of ho hk⟩
theorem wpAnyH_takeD {P : Program} {md : Region.Mode} {ops : Array Oper} {Q : Exit → Act → World → Prop} {S : World → Prop} {i d : Nat} {oi : Oper} {v : Value} {fuel : Nat} {listed : Array Bool} {a : Act} {w : World} (hi : ops[i]? = some oi) (hd : oi.dst = some d) (hs : Region.noSelect ops = true) (hf : Region.free md ops listed i = true) (hr : (Region.ready md ops listed).contains i = true) (hQ : ∀ c a w, Q (.panic c) (a.put oi.dst v) w → Q (.panic c) a w) (hy : YieldsIf P ops S oi v a) (hS : S w) (h : wpAnyH P md ops Q S fuel (listed.setIfInBounds i true) { a with tmps := a.tmps.setIfInBounds d v } w) : wpAnyH P md ops Q S (fuel + 1) listed a w :=
  wpAnyH_take hi hs hf hr hQ hy hS (by rw [hd]; exact h)
theorem seqT_map (l : List Int) : (List.range l.length).map (seqT l) = l := by
  apply List.ext_getElem?
  intro i
  by_cases h : i < l.length
  · simp [seqT, List.getD, h]
  · simp [h]
set_option maxRecDepth 100000 in
set_option maxHeartbeats 20000000 in
theorem walk (a0 : Option Addr) (len0 cap0 : Nat) (z0 : List Int) (w : World) (w0 : IsRow .u8 w a0 len0 cap0 z0) :
    Calls Try.prog 5 #[.slice a0 len0 cap0] w fun e w' => e = .returned (.bool true) ∧ Below w.heap.size w w' := by
  obtain ⟨hl, hcode⟩ := code_of w0
  clear w0
  have HC : Hid (Code w w.heap.size a0 len0) := hcode
  clear hcode
  go_enter Try.func5, Try.ntmps5
  go_wp2_with fail
  refine (drawShapePop a0 len0 cap0 _ hl HC.out).mono ?_
  rintro e w1 ⟨s, x, N, ca, A, C, L, y, n, cy, tn, z, rfl, ⟨hz0, hz1⟩, oi1, hN, hcn, hn, -, b1⟩
  clear HC hl
  go_upto_region 2 with fail
  obtain ⟨V, hV⟩ : ∃ V, w1.heap.size = V := ⟨_, rfl⟩
  obtain ⟨wv, hwv⟩ : ∃ y', w1.alloc (.cells (shCells s x N ca y n cy) 29) = y' := ⟨_, rfl⟩
  have HV : Hid (Sits wv V (shCells s x N ca y n cy) 29) := by show Sits _ _ _ _; rw [← hwv]; exact Sits.new' hV
  have hbv : Below w1.heap.size w1 wv := by rw [← hwv]; exact (Below.refl _ _).alloc (Nat.le_refl _) _
  have hVl : V < wv.heap.size := Sits.lt HV.out
  have HB : Hid (Below w.heap.size w wv) := b1.trans (hbv.mono b1.size)
  have oi2 := oi1.below hbv
  have HOI : Hid (OwnI w.heap.size wv x N ca A C L y n cy tn) := oi2
  have HLR : Hid (∀ U, Below wv.heap.size wv U → LR U.heap.size U x N L ∧ Row .i64 U y n tn) := fun U h => ⟨(own_lr oi2).go h h.size, (Row.below oi2.row h)⟩
  have HN : Hid (N ≤ 1048576) := by show _ ≤ _; omega
  have HCN : Hid (cntF L N ≤ 1048576) := by show _ ≤ _; omega
  have HNN : Hid (n ≤ 1048576) := by show _ ≤ _; omega
  rw [hwv, hV]
  clear hwv hV hbv b1 oi1 oi2 hN hcn hn
  have HVA : Hid (∀ U, Below wv.heap.size wv U → SG V s x N ca y n cy U) := fun U h => sits_sg (Sits.below HV.out h hVl)
  obtain ⟨ts, hts⟩ : ∃ l, (List.range n).map tn = l := ⟨_, rfl⟩
  obtain ⟨sk, hsk⟩ : ∃ b, shB s N L ts = b := ⟨_, rfl⟩
  obtain ⟨rv, hrv⟩ : ∃ b, rdyV s N L ts = b := ⟨_, rfl⟩
  obtain ⟨rb, hrb⟩ : ∃ b, rdyB s N L ts = b := ⟨_, rfl⟩
  obtain ⟨S1, N1, L1, T1, p1, ok, hP⟩ := PopIs.total s N L ts z
  have HOK : Hid (∀ U, Below wv.heap.size wv U → Calls Try.prog 16 #[shVal s x N ca y n cy] U fun e w' => e = .returned (.bool sk) ∧ Below U.heap.size U w') := fun U h => by
    have := sshapeOk_any s x N ca y n cy L tn U HN.out HCN.out HNN.out (HLR.out U h).1 (HLR.out U h).2
    rw [hts, hsk] at this
    exact this
  have HRDY : Hid (∀ U, Below wv.heap.size wv U → Calls Try.prog 23 #[shVal s x N ca y n cy] U fun e w' => e = .returned (.tuple #[.int .i64 rv, .bool rb]) ∧ Below U.heap.size U w') := fun U h => by
    have := iready_any s x N ca y n cy L tn U HN.out HCN.out HNN.out (HLR.out U h).1 (HLR.out U h).2
    rw [hts, hrv, hrb] at this
    exact this
  obtain ⟨m, hm⟩ : ∃ m, T1.length = m := ⟨_, rfl⟩
  obtain ⟨tm, htm⟩ : ∃ t, seqT T1 = t := ⟨_, rfl⟩
  have HPOP : Hid (∀ U, Below wv.heap.size wv U → Calls Try.prog 9 #[shVal s x N ca y n cy, .int .i64 z] U fun e w' => ∃ (X : Option Addr) (CL : Nat) (Y : Option Addr) (CY : Nat), e = .returned (.tuple #[shVal S1 X N1 CL Y m CY, p1.val, .bool ok]) ∧ MO0 U.heap.size w' X N1 L1 Y m tm ∧ Below U.heap.size U w') := fun U h => by
    refine (ishapePop_any s x N ca y n cy L tn z U HN.out HCN.out HNN.out (HLR.out U h).1 (HLR.out U h).2).mono ?_
    rw [hts]
    rintro e w' ⟨S2, N2, L2, T2, p2, ok2, X, CL, Y, CY, hP2, rfl, mo, hb⟩
    obtain ⟨rfl, rfl, rfl, rfl, rfl, rfl⟩ := PopIs.uniq hP hP2
    rw [hm, htm] at mo
    exact ⟨X, CL, Y, CY, by rw [hm], mo, hb⟩
  have HSH : Hid (∀ U : World, Calls Try.prog 18 #[] U fun e w' => e = .returned (.bool true) ∧ Below U.heap.size U w') := shapes_any
  have HTS : Hid ((List.range n).map tn = ts) := hts
  have HSK : Hid (shB s N L ts = sk) := hsk
  have HRV : Hid (rdyV s N L ts = rv) := hrv
  have HRB : Hid (rdyB s N L ts = rb) := hrb
  have HM : Hid (T1.length = m) := hm
  have HTM : Hid (seqT T1 = tm) := htm
  have HIS : Hid (PopIs s N L ts z S1 N1 L1 T1 p1 ok) := hP
  clear hts hsk hrv hrb hm htm hP
  have HR0 : Hid (Below wv.heap.size wv wv) := Below.refl _ _
  obtain ⟨c0, c1, c2, c3, c4, c5, c6⟩ := HVA.out _ HR0.out
  go_upto_region 3 with (go_at_call 9; refine (HPOP.out _ HR0.out).mono ?_; rintro e w2 ⟨X, CL, Y, CY, rfl, mo, b2⟩)
  obtain ⟨B, hB⟩ : ∃ B, w2.heap.size = B := ⟨_, rfl⟩
  obtain ⟨wb, hwb⟩ : ∃ z', (w2.alloc (.cells (shCells S1 X N1 CL Y m CY) 29)).alloc (.cells (pkCells p1) 31) = z' := ⟨_, rfl⟩
  have tw := twoSP (a := shCells S1 X N1 CL Y m CY) (b := pkCells p1) (t := 29) (u := 31) hB
  rw [hwb] at tw
  have bb : Below w2.heap.size w2 wb := by rw [hB]; exact tw.2.2
  have HSB : Hid (Sits wb B (shCells S1 X N1 CL Y m CY) 29) := tw.1
  have HSP : Hid (Sits wb (B + 1) (pkCells p1) 31) := tw.2.1
  have HBB : Hid (Below wv.heap.size wv wb) := b2.trans (bb.mono b2.size)
  have hBl : B + 1 < wb.heap.size := Sits.lt HSP.out
  have mo2 := MO0.below mo bb
  have HXR : Hid (∀ U, Below wb.heap.size wb U → LR U.heap.size U X N1 L1 ∧ Row .i64 U Y m tm) := fun U h => ⟨(MO0.lr mo2).go h h.size, Row.below (MO0.row mo2) h⟩
  have HXA : Hid (∀ U, Below wb.heap.size wb U → SG B S1 X N1 CL Y m CY U ∧ (U.cell? ⟨B + 1, 0, none⟩ = some (.int .i64 p1.id) ∧ U.cell? ⟨B + 1, 1, none⟩ = some (.int .i64 p1.flow) ∧ U.cell? ⟨B + 1, 2, none⟩ = some (.int .i64 p1.host) ∧ U.cell? ⟨B + 1, 3, none⟩ = some (.int .i64 p1.size) ∧ U.cell? ⟨B + 1, 4, none⟩ = some (.int .i64 p1.tm) ∧ U.cell? ⟨B + 1, 5, none⟩ = some (.int .i64 p1.ecn))) := fun U h => by
    have t := Sits.below HSP.out h hBl
    exact ⟨sits_sg (Sits.below HSB.out h (by omega)), t.cell 0, t.cell 1, t.cell 2, t.cell 3, t.cell 4, t.cell 5⟩
  have HW : Hid (∀ U, Below wb.heap.size wb U → Below w.heap.size w U ∧ Below wv.heap.size wv U) := fun U h => by
    have h1 := (HBB.out).trans (h.mono (HBB.out).size)
    exact ⟨(HB.out).trans (h1.mono (HB.out).size), h1⟩
  rw [hwb]
  (try rw [hB])
  clear hwb bb b2 hB HPOP mo mo2 tw c0 c1 c2 c3 c4 c5 c6
  obtain ⟨c0, c1, c2, c3, c4, c5, c6⟩ := HVA.out _ HBB.out
  go_upto_region 4 with (go_at_call 23; refine (HRDY.out _ HBB.out).mono ?_; rintro e w3 ⟨rfl, bo⟩; have HB3 : Hid (Below wb.heap.size wb w3) := bo; clear bo)
  clear c0 c1 c2 c3 c4 c5 c6 HRDY
  obtain ⟨c0, c1, c2, c3, c4, c5, c6⟩ := HVA.out _ (HW.out _ HB3.out).2
  rcases HIS.out with ⟨hmay, hS, hN1, hL1, hT, hp1, hok⟩ | ⟨hmay, hnone, hS, hN1, hL1, hT, hp1, hok⟩ | ⟨hmay, hnone, K, hK, hS, hN1, hL1, hT, hp1, hok⟩
  case inl =>
    subst hN1 hok
    cases sk
    case false =>
      go_upto_region 5 with (go_at_call 16; refine (HOK.out _ (HW.out _ HB3.out).2).mono ?_; rintro e w4 ⟨rfl, bo⟩; have HB4 : Hid (Below wb.heap.size wb w4) := (HB3.out).trans (bo.mono (HB3.out).size); clear bo)
      clear c0 c1 c2 c3 c4 c5 c6
      have u5 := (HXA.out _ HB4.out).1.2.2.2.2.2.1
      go_wp2_with (go_at_call 18; refine (HSH.out _).mono ?_; rintro e w5 ⟨rfl, bo⟩; have HB5 : Hid (Below wb.heap.size wb w5) := (HB4.out).trans (bo.mono (HB4.out).size); clear bo)
      go_ret
      exact ⟨rfl, (HW.out _ HB5.out).1⟩
    case true =>
      by_cases c : z < 0
      case pos =>
        go_upto_region 5 with (go_at_call 16; refine (HOK.out _ (HW.out _ HB3.out).2).mono ?_; rintro e w4 ⟨rfl, bo⟩; have HB4 : Hid (Below wb.heap.size wb w4) := (HB3.out).trans (bo.mono (HB3.out).size); clear bo)
        clear c0 c1 c2 c3 c4 c5 c6
        have u5 := (HXA.out _ HB4.out).1.2.2.2.2.2.1
        go_wp2_with (go_at_call 18; refine (HSH.out _).mono ?_; rintro e w5 ⟨rfl, bo⟩; have HB5 : Hid (Below wb.heap.size wb w5) := (HB4.out).trans (bo.mono (HB4.out).size); clear bo)
        go_ret
        exact ⟨rfl, (HW.out _ HB5.out).1⟩
      case neg =>
        have c' : 1000000000000 < z := by
          by_cases h : 1000000000000 < z
          · exact h
          · unfold mayP at hmay; rw [HSK.out, decide_eq_true ⟨by omega, by omega⟩] at hmay; cases hmay
        go_upto_region 5 with (go_at_call 16; refine (HOK.out _ (HW.out _ HB3.out).2).mono ?_; rintro e w4 ⟨rfl, bo⟩; have HB4 : Hid (Below wb.heap.size wb w4) := (HB3.out).trans (bo.mono (HB3.out).size); clear bo)
        clear c0 c1 c2 c3 c4 c5 c6
        have u5 := (HXA.out _ HB4.out).1.2.2.2.2.2.1
        go_wp2_with (go_at_call 18; refine (HSH.out _).mono ?_; rintro e w5 ⟨rfl, bo⟩; have HB5 : Hid (Below wb.heap.size wb w5) := (HB4.out).trans (bo.mono (HB4.out).size); clear bo)
        go_ret
        exact ⟨rfl, (HW.out _ HB5.out).1⟩
  case inr.inl =>
    obtain ⟨hsp, z0, z1⟩ := mayP_parts hmay
    have hN4 : N = 4 := hsp.2.1
    have HN4 : Hid (N = 4) := hN4
    have HSP4 : Hid (shP s N L ts) := hsp
    obtain rfl : sk = true := by have h := HSK.out; rw [← sh_yes hsp] at h; exact h.symm
    obtain rfl : N1 = N := hN1.trans hN4.symm
    have hzA : ¬ z < 0 := by omega
    have hzB : ¬ (1000000000000 < z) := by omega
    subst hok
    subst hL1
    have hrd : (rb = false) ∨ (rb = true ∧ z < rv) := by
      cases rb
      · exact .inl rfl
      · have h1 := HRB.out
        have h2 := HRV.out
        unfold rdyV at h2
        rw [h1] at h2
        unfold rdyB at h1
        simp only [Bool.and_eq_true, decide_eq_true_eq] at h1
        unfold noneB at hnone
        have h3 := of_decide_eq_true hnone
        refine .inr ⟨rfl, ?_⟩
        rcases h3 with h | h
        · exact absurd h h1.2
        · rw [← h2]; exact h
    clear hmay hnone hsp hN4 hN1 z0 z1
    rcases hrd with rfl | ⟨rfl, hlt⟩
    ·
      go_upto_region 7 with (go_at_call 16; refine (HOK.out _ (HW.out _ HB3.out).2).mono ?_; rintro e w4 ⟨rfl, bo⟩; have HB4 : Hid (Below wb.heap.size wb w4) := (HB3.out).trans (bo.mono (HB3.out).size); clear bo)
      clear c0 c1 c2 c3 c4 c5 c6
      have HV4 : Hid (∀ U, Below w4.heap.size w4 U → Below wb.heap.size wb U) := fun U h => (HB4.out).trans (h.mono (HB4.out).size)
      have HSA : Hid (∀ w', Below w4.heap.size w4 w' → w'.cell? ⟨B, 5, none⟩ = some (.slice X N1 CL) ∧ w'.cell? ⟨V, 5, none⟩ = some (.slice x N1 ca)) := fun w' h => by
        have h2 := HV4.out w' h
        exact ⟨(HXA.out _ h2).1.2.2.2.2.2.1, (HVA.out _ (HW.out _ h2).2).2.2.2.2.2.1⟩
      have BD : Hid (Below w4.heap.size w4 w4.drew) := (Below.refl _ _).drew
      obtain ⟨M, hM⟩ : ∃ M, cntF L1 N1 = M := ⟨_, rfl⟩
      have HMM : Hid (M ≤ 1048576) := by show _ ≤ _; rw [← hM]; exact HCN.out
      have HALLX : Hid (∀ U, Below w4.heap.size w4 U → Calls Try.prog 20 #[.slice X N1 CL] U fun e w' => ∃ (z : Option Addr) (c : Nat), e = .returned (.slice z M c) ∧ PR w'.heap.size w' z M (allF L1 N1) ∧ Below U.heap.size U w') := fun U h => by rw [← hM]; exact (all_any X N1 CL L1 U HN.out HCN.out (HXR.out U (HV4.out U h)).1).mono (by rintro e w' ⟨z, c, rfl, hp, hb⟩; exact ⟨z, c, rfl, hp.pr, hb⟩)
      have HALLS : Hid (∀ U, Below w4.heap.size w4 U → Calls Try.prog 20 #[.slice x N1 ca] U fun e w' => ∃ (z : Option Addr) (c : Nat), e = .returned (.slice z M c) ∧ PR w'.heap.size w' z M (allF L1 N1) ∧ Below U.heap.size U w') := fun U h => by rw [← hM]; exact (all_any x N1 ca L1 U HN.out HCN.out (HLR.out U (HW.out _ (HV4.out U h)).2).1).mono (by rintro e w' ⟨z, c, rfl, hp, hb⟩; exact ⟨z, c, rfl, hp.pr, hb⟩)
      clear hM
      refine wp_region_held_drew (S := fun w' => w'.cell? ⟨B, 5, none⟩ = some (.slice X N1 CL) ∧ w'.cell? ⟨V, 5, none⟩ = some (.slice x N1 ca)) (by kernel_rfl) (HSA.out _ BD.out) (fun hHeld => ?_)
      have HS0 : Hid (w4.drew.cell? ⟨B, 5, none⟩ = some (.slice X N1 CL) ∧ w4.drew.cell? ⟨V, 5, none⟩ = some (.slice x N1 ca)) := hHeld
      clear hHeld
      change wpAnyH _ _ _ _ _ 20 (Array.replicate 20 false) _ w4.drew
      refine wpAnyH_takeD (i := 0) (d := 54) (v := .pointer (some ⟨B, 5, none⟩)) rfl rfl (by kernel_rfl) (by kernel_rfl) (by kernel_rfl) (fun _ _ _ h => h) (.inl ⟨by rfl, ?y0⟩) HS0.out ?_
      case y0 =>
        rintro W ⟨e1, e2⟩
        go_simp
      simp only [List.setIfInBounds_toArray, List.set_cons_zero, List.set_cons_succ]
      refine wpAnyH_takeD (i := 3) (d := 57) (v := .pointer (some ⟨V, 5, none⟩)) rfl rfl (by kernel_rfl) (by kernel_rfl) (by kernel_rfl) (fun _ _ _ h => h) (.inl ⟨by rfl, ?y3⟩) HS0.out ?_
      case y3 =>
        rintro W ⟨e1, e2⟩
        go_simp
      simp only [List.setIfInBounds_toArray, List.set_cons_zero, List.set_cons_succ]
      refine wpAnyH_takeD (i := 1) (d := 55) (v := .slice X N1 CL) rfl rfl (by kernel_rfl) (by kernel_rfl) (by kernel_rfl) (fun _ _ _ h => h) (.inl ⟨by rfl, ?y1⟩) HS0.out ?_
      case y1 =>
        rintro W ⟨e1, e2⟩
        go_simp
      simp only [List.setIfInBounds_toArray, List.set_cons_zero, List.set_cons_succ]
      refine wpAnyH_takeD (i := 4) (d := 58) (v := .slice x N1 ca) rfl rfl (by kernel_rfl) (by kernel_rfl) (by kernel_rfl) (fun _ _ _ h => h) (.inl ⟨by rfl, ?y4⟩) HS0.out ?_
      case y4 =>
        rintro W ⟨e1, e2⟩
        go_simp
      simp only [List.setIfInBounds_toArray, List.set_cons_zero, List.set_cons_succ]
      refine wpAnyH_ready (rs := [2]) (by kernel_rfl) (by simp) ?_
      refine AllReadyH.cons rfl (fun K hK => ?_) AllReadyH.nil
      go_simp
      (go_at_call 20; refine (HALLX.out _ BD.out).mono ?_; rintro e wx ⟨zx, zc, rfl, px, bo⟩; have PX : Hid (PR wx.heap.size wx zx M (allF L1 N1)) := px; have BX : Hid (Below w4.heap.size w4 wx) := (BD.out).trans (bo.mono (BD.out).size); clear bo px)
      go_wp2_with fail
      refine hK.out _ _ (HSA.out _ BX.out) (fun _ => ?_)
      clear hK K
      refine wpAnyH_ready (rs := [5]) (by kernel_rfl) (by simp) ?_
      refine AllReadyH.cons rfl (fun K hK => ?_) AllReadyH.nil
      go_simp
      (go_at_call 20; refine (HALLS.out _ BX.out).mono ?_; rintro e wy ⟨zy, zd, rfl, py, bo⟩; have PY : Hid (PR wy.heap.size wy zy M (allF L1 N1)) := py; have BXY : Hid (Below wx.heap.size wx wy) := bo; have BY : Hid (Below w4.heap.size w4 wy) := (BX.out).trans (bo.mono (BX.out).size); clear bo py)
      go_wp2_with fail
      refine hK.out _ _ (HSA.out _ BY.out) (fun _ => ?_)
      clear hK K
      refine wpAnyH_ready (rs := [6]) (by kernel_rfl) (by simp) ?_
      refine AllReadyH.cons rfl (fun K hK => ?_) AllReadyH.nil
      go_simp
      (go_at_call 19; refine (samePkts_yes zx zy M zc zd (allF L1 N1) (allF L1 N1) _ HMM.out ((PR.below PX.out BXY.out).mono (BXY.out).size) PY.out (fun _ _ => rfl)).mono ?_; rintro e wz ⟨rfl, bo, _⟩; have BZ : Hid (Below w4.heap.size w4 wz) := (BY.out).trans (bo.1.mono (BY.out).size); clear bo)
      go_wp2_with fail
      refine hK.out _ _ (HSA.out _ BZ.out) (fun _ => ?_)
      clear hK K
      have HS1 : Hid (wz.cell? ⟨B, 5, none⟩ = some (.slice X N1 CL) ∧ wz.cell? ⟨V, 5, none⟩ = some (.slice x N1 ca)) := HSA.out _ BZ.out
      refine wpAnyH_takeD (i := 7) (d := 61) (v := .bool true) rfl rfl (by kernel_rfl) (by kernel_rfl) (by kernel_rfl) (fun _ _ _ h => h) (.inl ⟨by rfl, ?y7⟩) HS1.out ?_
      case y7 =>
        rintro W ⟨e1, e2⟩
        go_simp
      simp only [List.setIfInBounds_toArray, List.set_cons_zero, List.set_cons_succ]
      refine wpAnyH_takeD (i := 8) (d := 62) (v := .bool false) rfl rfl (by kernel_rfl) (by kernel_rfl) (by kernel_rfl) (fun _ _ _ h => h) (.inl ⟨by rfl, ?y8⟩) HS1.out ?_
      case y8 =>
        rintro W ⟨e1, e2⟩
        go_simp
      simp only [List.setIfInBounds_toArray, List.set_cons_zero, List.set_cons_succ]
      refine wpAnyH_takeD (i := 9) (d := 63) (v := .bool true) rfl rfl (by kernel_rfl) (by kernel_rfl) (by kernel_rfl) (fun _ _ _ h => h) (.inl ⟨by rfl, ?y9⟩) HS1.out ?_
      case y9 =>
        rintro W ⟨e1, e2⟩
        go_simp
      simp only [List.setIfInBounds_toArray, List.set_cons_zero, List.set_cons_succ]
      refine wpAnyH_takeD (i := 10) (d := 64) (v := .bool true) rfl rfl (by kernel_rfl) (by kernel_rfl) (by kernel_rfl) (fun _ _ _ h => h) (.inl ⟨by rfl, ?y10⟩) HS1.out ?_
      case y10 =>
        rintro W ⟨e1, e2⟩
        go_simp
      simp only [List.setIfInBounds_toArray, List.set_cons_zero, List.set_cons_succ]
      refine wpAnyH_takeD (i := 11) (d := 65) (v := undef) rfl rfl (by kernel_rfl) (by kernel_rfl) (by kernel_rfl) (fun _ _ _ h => h) (.inr ⟨by rfl, rfl⟩) HS1.out ?_
      simp only [List.setIfInBounds_toArray, List.set_cons_zero, List.set_cons_succ]
      refine wpAnyH_takeD (i := 12) (d := 66) (v := undef) rfl rfl (by kernel_rfl) (by kernel_rfl) (by kernel_rfl) (fun _ _ _ h => h) (.inr ⟨by rfl, rfl⟩) HS1.out ?_
      simp only [List.setIfInBounds_toArray, List.set_cons_zero, List.set_cons_succ]
      refine wpAnyH_takeD (i := 13) (d := 67) (v := undef) rfl rfl (by kernel_rfl) (by kernel_rfl) (by kernel_rfl) (fun _ _ _ h => h) (.inr ⟨by rfl, rfl⟩) HS1.out ?_
      simp only [List.setIfInBounds_toArray, List.set_cons_zero, List.set_cons_succ]
      refine wpAnyH_takeD (i := 14) (d := 68) (v := .bool true) rfl rfl (by kernel_rfl) (by kernel_rfl) (by kernel_rfl) (fun _ _ _ h => h) (.inl ⟨by rfl, ?y14⟩) HS1.out ?_
      case y14 =>
        rintro W ⟨e1, e2⟩
        go_simp
      simp only [List.setIfInBounds_toArray, List.set_cons_zero, List.set_cons_succ]
      refine wpAnyH_takeD (i := 15) (d := 69) (v := .bool true) rfl rfl (by kernel_rfl) (by kernel_rfl) (by kernel_rfl) (fun _ _ _ h => h) (.inl ⟨by rfl, ?y15⟩) HS1.out ?_
      case y15 =>
        rintro W ⟨e1, e2⟩
        go_simp
      simp only [List.setIfInBounds_toArray, List.set_cons_zero, List.set_cons_succ]
      refine wpAnyH_takeD (i := 16) (d := 70) (v := .bool true) rfl rfl (by kernel_rfl) (by kernel_rfl) (by kernel_rfl) (fun _ _ _ h => h) (.inl ⟨by rfl, ?y16⟩) HS1.out ?_
      case y16 =>
        rintro W ⟨e1, e2⟩
        go_simp
      simp only [List.setIfInBounds_toArray, List.set_cons_zero, List.set_cons_succ]
      refine wpAnyH_ready (rs := [17]) (by kernel_rfl) (by simp) ?_
      refine AllReadyH.cons rfl (fun K hK => ?_) AllReadyH.nil
      go_simp
      (go_at_call 18; refine (HSH.out _).mono ?_; rintro e ws ⟨rfl, bo⟩; have BS : Hid (Below w4.heap.size w4 ws) := (BZ.out).trans (bo.mono (BZ.out).size); clear bo)
      go_wp2_with fail
      refine hK.out _ _ (HSA.out _ BS.out) (fun _ => ?_)
      clear hK K
      refine wpAnyH_takeD (i := 18) (d := 72) (v := .bool true) rfl rfl (by kernel_rfl) (by kernel_rfl) (by kernel_rfl) (fun _ _ _ h => h) (.inl ⟨by rfl, ?y18⟩) (HSA.out _ BS.out) ?_
      case y18 =>
        rintro W ⟨e1, e2⟩
        go_simp
      simp only [List.setIfInBounds_toArray, List.set_cons_zero, List.set_cons_succ]
      refine wpAnyH_takeD (i := 19) (d := 2) (v := .bool true) rfl rfl (by kernel_rfl) (by kernel_rfl) (by kernel_rfl) (fun _ _ _ h => h) (.inl ⟨by rfl, ?y19⟩) (HSA.out _ BS.out) ?_
      case y19 =>
        rintro W ⟨e1, e2⟩
        go_simp
      simp only [List.setIfInBounds_toArray, List.set_cons_zero, List.set_cons_succ]
      refine wpAnyH_done (by kernel_rfl) ?_ _
      all_goals go_wp2
      all_goals go_ret
      all_goals exact ⟨rfl, (HW.out _ (HV4.out _ BS.out)).1⟩
    ·
      go_upto_region 7 with (go_at_call 16; refine (HOK.out _ (HW.out _ HB3.out).2).mono ?_; rintro e w4 ⟨rfl, bo⟩; have HB4 : Hid (Below wb.heap.size wb w4) := (HB3.out).trans (bo.mono (HB3.out).size); clear bo)
      clear c0 c1 c2 c3 c4 c5 c6
      have HV4 : Hid (∀ U, Below w4.heap.size w4 U → Below wb.heap.size wb U) := fun U h => (HB4.out).trans (h.mono (HB4.out).size)
      have HSA : Hid (∀ w', Below w4.heap.size w4 w' → w'.cell? ⟨B, 5, none⟩ = some (.slice X N1 CL) ∧ w'.cell? ⟨V, 5, none⟩ = some (.slice x N1 ca)) := fun w' h => by
        have h2 := HV4.out w' h
        exact ⟨(HXA.out _ h2).1.2.2.2.2.2.1, (HVA.out _ (HW.out _ h2).2).2.2.2.2.2.1⟩
      have BD : Hid (Below w4.heap.size w4 w4.drew) := (Below.refl _ _).drew
      obtain ⟨M, hM⟩ : ∃ M, cntF L1 N1 = M := ⟨_, rfl⟩
      have HMM : Hid (M ≤ 1048576) := by show _ ≤ _; rw [← hM]; exact HCN.out
      have HALLX : Hid (∀ U, Below w4.heap.size w4 U → Calls Try.prog 20 #[.slice X N1 CL] U fun e w' => ∃ (z : Option Addr) (c : Nat), e = .returned (.slice z M c) ∧ PR w'.heap.size w' z M (allF L1 N1) ∧ Below U.heap.size U w') := fun U h => by rw [← hM]; exact (all_any X N1 CL L1 U HN.out HCN.out (HXR.out U (HV4.out U h)).1).mono (by rintro e w' ⟨z, c, rfl, hp, hb⟩; exact ⟨z, c, rfl, hp.pr, hb⟩)
      have HALLS : Hid (∀ U, Below w4.heap.size w4 U → Calls Try.prog 20 #[.slice x N1 ca] U fun e w' => ∃ (z : Option Addr) (c : Nat), e = .returned (.slice z M c) ∧ PR w'.heap.size w' z M (allF L1 N1) ∧ Below U.heap.size U w') := fun U h => by rw [← hM]; exact (all_any x N1 ca L1 U HN.out HCN.out (HLR.out U (HW.out _ (HV4.out U h)).2).1).mono (by rintro e w' ⟨z, c, rfl, hp, hb⟩; exact ⟨z, c, rfl, hp.pr, hb⟩)
      clear hM
      go_region_held3 (fun w' => w'.cell? ⟨B, 5, none⟩ = some (.slice X N1 CL) ∧ w'.cell? ⟨V, 5, none⟩ = some (.slice x N1 ca)) (first | (with_reducible exact HSA.out _ BD.out) | (with_reducible exact HSA.out _ BX.out) | (with_reducible exact HSA.out _ BY.out) | (with_reducible exact HSA.out _ BZ.out) | (with_reducible exact HSA.out _ BS.out) | fail)
        (first | (go_at_call 18; refine (HSH.out _).mono ?_; rintro e ws ⟨rfl, bo⟩; have BS : Hid (Below w4.heap.size w4 ws) := (BZ.out).trans (bo.mono (BZ.out).size); clear bo) | (go_at_call 19; refine (samePkts_yes zx zy M zc zd (allF L1 N1) (allF L1 N1) _ HMM.out ((PR.below PX.out BXY.out).mono (BXY.out).size) PY.out (fun _ _ => rfl)).mono ?_; rintro e wz ⟨rfl, bo, _⟩; have BZ : Hid (Below w4.heap.size w4 wz) := (BY.out).trans (bo.1.mono (BY.out).size); clear bo) | (go_at_call 20; refine (HALLS.out _ BX.out).mono ?_; rintro e wy ⟨zy, zd, rfl, py, bo⟩; have PY : Hid (PR wy.heap.size wy zy M (allF L1 N1)) := py; have BXY : Hid (Below wx.heap.size wx wy) := bo; have BY : Hid (Below w4.heap.size w4 wy) := (BX.out).trans (bo.mono (BX.out).size); clear bo py) | (go_at_call 20; refine (HALLX.out _ BD.out).mono ?_; rintro e wx ⟨zx, zc, rfl, px, bo⟩; have PX : Hid (PR wx.heap.size wx zx M (allF L1 N1)) := px; have BX : Hid (Below w4.heap.size w4 wx) := (BD.out).trans (bo.mono (BD.out).size); clear bo px))
      all_goals go_wp2
      all_goals go_ret
      all_goals exact ⟨rfl, (HW.out _ (HV4.out _ BS.out)).1⟩
  case inr.inr =>
    obtain ⟨hsp, z0, z1⟩ := mayP_parts hmay
    have hN4 : N = 4 := hsp.2.1
    have HN4 : Hid (N = 4) := hN4
    have HSP4 : Hid (shP s N L ts) := hsp
    obtain rfl : sk = true := by have h := HSK.out; rw [← sh_yes hsp] at h; exact h.symm
    obtain rfl : N1 = N := hN1.trans hN4.symm
    have hzA : ¬ z < 0 := by omega
    have hzB : ¬ (1000000000000 < z) := by omega
    subst hok
    have hne := (none_no hnone).1
    have hge := (none_no hnone).2
    have hsp4 : shP s 4 L ts := by rw [← hN4]; exact hsp
    obtain ⟨eh, h4, hn0⟩ := pop_host hsp.2.2.2.1 hne K
    obtain ⟨pg, ph⟩ := pop_first hsp4 hne K
    obtain ⟨q0, q1⟩ := pop_nx hsp4 hne K z0 z1
    have hshp := shP_pop hsp4 hne hK q0 q1
    generalize hq : costF s ((L (popHost ts K)).f 0).size = q at hS q0 q1 hshp
    have HS1 : Hid (shB S1 N1 L1 ((List.range m).map tm) = true) := by show _ = _; rw [← HTM.out, ← HM.out, seqT_map, hT, hS, hL1, hN4]; exact (sh_yes hshp).symm
    have hcm : cntF L1 N1 + 1 = cntF L N1 := by rw [hL1, hN4]; exact popLn_cnt1 h4 hn0
    obtain ⟨h, hh⟩ : ∃ h, popHost ts K = h := ⟨_, rfl⟩
    rw [hh] at eh h4 hn0 pg ph hq hL1 hp1
    obtain ⟨nh, hnh⟩ : ∃ k, (L h).n = k + 1 := ⟨(L h).n - 1, by omega⟩
    have en : (L1 h).n = nh := by rw [hL1]; unfold popLn; rw [if_pos rfl]; show (L h).n - 1 = nh; omega
    have ef : ∀ i, (L1 h).f i = (L h).f (i + 1) := fun i => by rw [hL1]; unfold popLn; rw [if_pos rfl]
    have hnx : S1.nx = z + q := by rw [hS]
    have hhN : h < N1 := by omega
    have hsz : 1 ≤ p1.size ∧ p1.size ≤ 2000 := by rw [hp1]; unfold Pk.good inB at pg; simp only [Bool.and_eq_true, decide_eq_true_eq] at pg; omega
    have HCB : Hid (cstB s N1 L ts p1.size = true) := by show _ = _; unfold cstB; rw [← sh_yes hsp, decide_eq_true hsz]; rfl
    have HCV : Hid (cstV s N1 L ts p1.size = q) := by show _ = _; unfold cstV; rw [if_pos HCB.out, hp1]; exact hq
    have hrb : rb = true := by have h1 := HRB.out; unfold rdyB at h1; rw [← sh_yes hsp, decide_eq_true hne] at h1; exact h1.symm
    have hrv : rv = s.nx := by have h1 := HRV.out; unfold rdyV at h1; rw [HRB.out, hrb] at h1; exact h1.symm
    subst hrb
    have hge2 : ¬ z < rv := by rw [hrv]; exact hge
    have hge3 : rv ≤ z := by omega
    have HEH : Hid (p1.host = (h : Int)) := by show _ = _; rw [hp1]; exact ph
    have HEF : Hid ((L h).f 0 = p1) := hp1.symm
    have HEL : Hid (∀ i, i < nh → (L1 h).f i = (L h).f (i + 1)) := fun i _ => ef i
    have HEN : Hid ((L1 h).n = nh) := en
    have HNH : Hid ((L h).n = nh + 1) := hnh
    have HCM : Hid (cntF L1 N1 + 1 = cntF L N1) := hcm
    have HNX : Hid (S1.nx = z + q) := hnx
    have HMM : Hid (m ≤ 1048576) := by show _ ≤ _; rw [← HM.out]; exact (PopIs.bd HIS.out).2.2
    have HCN1 : Hid (cntF L1 N1 ≤ 1048576) := by show _ ≤ _; have := HCN.out; omega
    have hnb : nh + 1 ≤ 1048576 := by have h1 := cntF_le L hhN; rw [hnh] at h1; have := HCN.out; omega
    have hwq : IntKind.i64.wrap (z + q) = z + q := wrap_in (by omega) (by omega)
    clear hmay hnone hsp hN4 hN1 hne hge hsp4 eh h4 hn0 pg ph hshp hq hcm hh hL1 hp1 hnh en ef hnx hsz hS hT hK hrv q0 q1 z0 z1
    go_upto_region 8 with (go_at_call 16; refine (HOK.out _ (HW.out _ HB3.out).2).mono ?_; rintro e w4 ⟨rfl, bo⟩; have HB4 : Hid (Below wb.heap.size wb w4) := (HB3.out).trans (bo.mono (HB3.out).size); clear bo)
    clear c0 c1 c2 c3 c4 c5 c6
    have HV4 : Hid (∀ U, Below w4.heap.size w4 U → Below wb.heap.size wb U) := fun U h => (HB4.out).trans (h.mono (HB4.out).size)
    have HB40 : Hid (Below w4.heap.size w4 w4) := Below.refl _ _
    obtain ⟨c0, c1, c2, c3, c4, c5, c6⟩ := HVA.out _ (HW.out _ HB4.out).2
    have g3 := (HXA.out _ HB4.out).2.2.2.2.1
    have HCOST : Hid (∀ U, Below w4.heap.size w4 U → Calls Try.prog 24 #[shVal s x N1 ca y n cy, .int .i64 p1.size] U fun e w' => e = .returned (.tuple #[.int .i64 q, .bool true]) ∧ Below U.heap.size U w') := fun U h => by
      have := icost_any s x N1 ca y n cy L tn p1.size U HN.out HCN.out HNN.out (HLR.out U (HW.out _ (HV4.out U h)).2).1 (HLR.out U (HW.out _ (HV4.out U h)).2).2
      rw [HTS.out, HCV.out, HCB.out] at this
      exact this
    go_upto_region 9 with (go_at_call 24; refine (HCOST.out _ HB40.out).mono ?_; rintro e w5 ⟨rfl, bo⟩; have HB5 : Hid (Below wb.heap.size wb w5) := (HB4.out).trans (bo.mono (HB4.out).size); clear bo)
    clear c0 c1 c2 c3 c4 c5 c6 g3 HCOST HV4 HB40
    have HV5 : Hid (∀ U, Below w5.heap.size w5 U → Below wb.heap.size wb U) := fun U h => (HB5.out).trans (h.mono (HB5.out).size)
    have HB50 : Hid (Below w5.heap.size w5 w5) := Below.refl _ _
    have hxr := (HXR.out w5 HB5.out).1
    obtain ⟨bx, ox, rfl, hbx, hlx⟩ := LR.at hxr hhN
    obtain ⟨xl, xc, hla, hle, hpr⟩ := hlx h hhN
    rw [HEN.out] at hle hpr
    have hlc := hla.1
    rw [HEN.out] at hlc
    have oi5 := (HOI.out).below (HW.out _ HB5.out).2
    obtain ⟨bs, rfl, _, hbs, hls⟩ := LP.at oi5.lp (by omega)
    have hmc := (hls h hhN).1
    have hpo := oi5.po h hhN
    rw [HNH.out] at hmc hpo
    obtain ⟨g, hg, hgl, hgc, hga⟩ := po_at hpo (by omega)
    rw [hg] at hmc
    obtain ⟨cp, hcp⟩ : ∃ c, C h = c := ⟨_, rfl⟩
    rw [hcp] at hmc hgc
    have hp0 := hga 0 (by omega)
    rw [HEF.out, Nat.zero_mul] at hp0
    have HLC : Hid (w5.cell? ⟨bx, ox + h * 9, none⟩ = some (.slice xl nh xc)) := hlc
    have HMC : Hid (w5.cell? ⟨bs, h * 9, none⟩ = some (.slice (some ⟨g, 0, none⟩) (nh + 1) cp)) := hmc
    have HP0 : Hid (PAt w5 g 0 p1) := hp0
    have HPX : Hid (PR w5.heap.size w5 xl nh (L1 h).f) := hpr
    have HPT : Hid (∀ i, i < nh + 1 → PAt w5 g (i * 6) ((L h).f i)) := hga
    have HGC : Hid (nh + 1 ≤ cp) := hgc
    clear hxr hlx hla hle hpr hlc oi5 hls hmc hpo hg hga hp0 hcp
    have HSA : Hid (∀ w', Below w5.heap.size w5 w' → (w'.cell? ⟨B, 0, none⟩ = some (.int .i64 S1.rt) ∧ w'.cell? ⟨B, 1, none⟩ = some (.int .i64 S1.ov) ∧ w'.cell? ⟨B, 2, none⟩ = some (.int .i64 (z + q)) ∧ w'.cell? ⟨B, 3, none⟩ = some (.int .i64 S1.qt) ∧ w'.cell? ⟨B, 4, none⟩ = some (.int .i64 S1.lim) ∧ w'.cell? ⟨B, 5, none⟩ = some (.slice (some ⟨bx, ox, none⟩) N1 CL) ∧ w'.cell? ⟨B, 6, none⟩ = some (.slice Y m CY)) ∧ (w'.cell? ⟨B + 1, 0, none⟩ = some (.int .i64 p1.id) ∧ w'.cell? ⟨B + 1, 1, none⟩ = some (.int .i64 p1.flow) ∧ w'.cell? ⟨B + 1, 2, none⟩ = some (.int .i64 (h : Int)) ∧ w'.cell? ⟨B + 1, 3, none⟩ = some (.int .i64 p1.size) ∧ w'.cell? ⟨B + 1, 4, none⟩ = some (.int .i64 p1.tm) ∧ w'.cell? ⟨B + 1, 5, none⟩ = some (.int .i64 p1.ecn)) ∧ (w'.cell? ⟨g, 0, none⟩ = some (.int .i64 p1.id) ∧ w'.cell? ⟨g, 1, none⟩ = some (.int .i64 p1.flow) ∧ w'.cell? ⟨g, 2, none⟩ = some (.int .i64 (h : Int)) ∧ w'.cell? ⟨g, 3, none⟩ = some (.int .i64 p1.size) ∧ w'.cell? ⟨g, 4, none⟩ = some (.int .i64 p1.tm) ∧ w'.cell? ⟨g, 5, none⟩ = some (.int .i64 p1.ecn)) ∧ (w'.cell? ⟨V, 5, none⟩ = some (.slice (some ⟨bs, 0, none⟩) N1 ca) ∧ w'.cell? ⟨bx, ox + h * 9, none⟩ = some (.slice xl nh xc))) := fun w' hw => by
      have h2 := HV5.out w' hw
      obtain ⟨t, r0, r1, r2, r3, r4, r5⟩ := HXA.out _ h2
      rw [HEH.out] at r2
      have t2 := t.2.2.1
      rw [HNX.out] at t2
      obtain ⟨s0, s1, s2, s3, s4, s5⟩ := (HP0.out).below hw hgl
      rw [HEH.out] at s2
      have q5 := (HVA.out _ (HW.out _ h2).2).2.2.2.2.2.1
      have m0 := (hw.cell (p := ⟨bx, ox + h * 9, none⟩) hbx).trans HLC.out
      exact ⟨⟨t.1, t.2.1, t2, t.2.2.2⟩, ⟨r0, r1, r2, r3, r4, r5⟩, ⟨s0, s1, s2, s3, s4, s5⟩, q5, m0⟩
    obtain ⟨⟨t0, t1, t2, t3, t4, t5, t6⟩, ⟨r0, r1, r2, r3, r4, r5⟩, ⟨s0, s1, s2, s3, s4, s5⟩, q5, m0⟩ := HSA.out _ HB50.out
    have l0 := HMC.out
    have hhi : (h : Int) < N1 := by omega
    go_upto_region 10 with fail
    clear t0 t1 t2 t3 t4 t5 t6 r0 r1 r2 r3 r4 r5 s0 s1 s2 s3 s4 s5 q5 m0 l0
    have BD : Hid (Below w5.heap.size w5 w5.drew) := (Below.refl _ _).drew
    obtain ⟨M, hM⟩ : ∃ M, cntF L1 N1 = M := ⟨_, rfl⟩
    have HALLX : Hid (∀ U, Below w5.heap.size w5 U → Calls Try.prog 20 #[.slice (some ⟨bx, ox, none⟩) N1 CL] U fun e w' => ∃ (z : Option Addr) (c : Nat), e = .returned (.slice z M c) ∧ Below U.heap.size U w') := fun U h => (all_any (some ⟨bx, ox, none⟩) N1 CL L1 U HN.out HCN1.out (HXR.out U (HV5.out U h)).1).mono (by rintro e w' ⟨z, c, rfl, hp, hb⟩; exact ⟨z, c, by rw [hM], hb⟩)
    have HALLS : Hid (∀ U, Below w5.heap.size w5 U → Calls Try.prog 20 #[.slice (some ⟨bs, 0, none⟩) N1 ca] U fun e w' => ∃ (z : Option Addr) (c : Nat), e = .returned (.slice z (M + 1) c) ∧ Below U.heap.size U w') := fun U h => (all_any (some ⟨bs, 0, none⟩) N1 ca L U HN.out HCN.out (HLR.out U (HW.out _ (HV5.out U h)).2).1).mono (by rintro e w' ⟨z, c, rfl, hp, hb⟩; exact ⟨z, c, by rw [← HCM.out, hM], hb⟩)
    have HOKX : Hid (∀ U, Below w5.heap.size w5 U → Calls Try.prog 21 #[.agg #[.int .i64 S1.rt, .int .i64 S1.ov, .int .i64 (z + q), .int .i64 S1.qt, .int .i64 S1.lim, .slice (some ⟨bx, ox, none⟩) N1 CL, .slice Y m CY]] U fun e w' => e = .returned (.bool true) ∧ Below U.heap.size U w') := fun U h => by
      have := ishapeOk_any S1 (some ⟨bx, ox, none⟩) N1 CL Y m CY L1 tm U HN.out HCN1.out HMM.out (HXR.out U (HV5.out U h)).1 (HXR.out U (HV5.out U h)).2
      rw [HS1.out] at this
      rw [← HNX.out]
      exact this
    have HSAME : Hid (∀ U, Below w5.heap.size w5 U → Calls Try.prog 19 #[.slice xl nh xc, .slice (tlA g cp 6) nh (cp - 1)] U fun e w' => e = .returned (.bool true) ∧ Below U.heap.size U w') := fun U h => (samePkts_yes xl (tlA g cp 6) nh xc (cp - 1) (L1 _).f (fun i => (L _).f (i + 1)) U (by omega) ((PR.below HPX.out h).mono h.size) (tl_pr HGC.out (Nat.lt_of_lt_of_le hgl h.size) (fun i hi => (HPT.out i hi).below h hgl)) HEL.out).mono (by rintro e w' ⟨rfl, hb, _⟩; exact ⟨rfl, hb.1⟩)
    have hwM : IntKind.i64.wrap ((M : Int) + 1 - 1) = (M : Int) := by have := HCN1.out; rw [hM] at this; rw [wrap_in (by omega) (by omega)]; omega
    have hwM2 : IntKind.i64.wrap (M : Int) = (M : Int) := by have := HCN1.out; rw [hM] at this; exact wrap_in (by omega) (by omega)
    have hgc : nh + 1 ≤ cp := HGC.out
    clear hM HNH HPX HPT HP0 HMC HLC HGC HNX
    go_region_held3 (fun w' => (w'.cell? ⟨B, 0, none⟩ = some (.int .i64 S1.rt) ∧ w'.cell? ⟨B, 1, none⟩ = some (.int .i64 S1.ov) ∧ w'.cell? ⟨B, 2, none⟩ = some (.int .i64 (z + q)) ∧ w'.cell? ⟨B, 3, none⟩ = some (.int .i64 S1.qt) ∧ w'.cell? ⟨B, 4, none⟩ = some (.int .i64 S1.lim) ∧ w'.cell? ⟨B, 5, none⟩ = some (.slice (some ⟨bx, ox, none⟩) N1 CL) ∧ w'.cell? ⟨B, 6, none⟩ = some (.slice Y m CY)) ∧ (w'.cell? ⟨B + 1, 0, none⟩ = some (.int .i64 p1.id) ∧ w'.cell? ⟨B + 1, 1, none⟩ = some (.int .i64 p1.flow) ∧ w'.cell? ⟨B + 1, 2, none⟩ = some (.int .i64 (h : Int)) ∧ w'.cell? ⟨B + 1, 3, none⟩ = some (.int .i64 p1.size) ∧ w'.cell? ⟨B + 1, 4, none⟩ = some (.int .i64 p1.tm) ∧ w'.cell? ⟨B + 1, 5, none⟩ = some (.int .i64 p1.ecn)) ∧ (w'.cell? ⟨g, 0, none⟩ = some (.int .i64 p1.id) ∧ w'.cell? ⟨g, 1, none⟩ = some (.int .i64 p1.flow) ∧ w'.cell? ⟨g, 2, none⟩ = some (.int .i64 (h : Int)) ∧ w'.cell? ⟨g, 3, none⟩ = some (.int .i64 p1.size) ∧ w'.cell? ⟨g, 4, none⟩ = some (.int .i64 p1.tm) ∧ w'.cell? ⟨g, 5, none⟩ = some (.int .i64 p1.ecn)) ∧ (w'.cell? ⟨V, 5, none⟩ = some (.slice (some ⟨bs, 0, none⟩) N1 ca) ∧ w'.cell? ⟨bx, ox + h * 9, none⟩ = some (.slice xl nh xc))) (first | (with_reducible exact HSA.out _ BD.out) | (with_reducible exact HSA.out _ BO.out) | (with_reducible exact HSA.out _ BX.out) | (with_reducible exact HSA.out _ BY.out) | (with_reducible exact HSA.out _ BZ.out) | fail)
      (first | (go_at_call 20; refine (HALLS.out _ BX.out).mono ?_; rintro e wy ⟨zy, zd, rfl, bo⟩; have BY : Hid (Below w5.heap.size w5 wy) := (BX.out).trans (bo.mono (BX.out).size); clear bo) | (go_at_call 20; refine (HALLX.out _ BZ.out).mono ?_; rintro e wx ⟨zx, zc, rfl, bo⟩; have BX : Hid (Below w5.heap.size w5 wx) := (BZ.out).trans (bo.mono (BZ.out).size); clear bo) | (go_at_call 19; refine (HSAME.out _ BO.out).mono ?_; rintro e wz ⟨rfl, bo⟩; have BZ : Hid (Below w5.heap.size w5 wz) := (BO.out).trans (bo.mono (BO.out).size); clear bo) | (go_at_call 21; refine (HOKX.out _ BD.out).mono ?_; rintro e wo ⟨rfl, bo⟩; have BO : Hid (Below w5.heap.size w5 wo) := (BD.out).trans (bo.mono (BD.out).size); clear bo))
    all_goals go_wp2
    all_goals go_ret
    all_goals exact ⟨rfl, (HW.out _ (HV5.out _ BY.out)).1⟩

set_option maxRecDepth 100000 in
theorem lifted (os : Os) (started : os.Started) (H : Type) (enc : TypeId × Value → H) :
    ReturnsInHanded {} Try.checked os 5 .any (Rows.fnShapePopsSpec.pre6 enc Try.prog Try.f5 Rows.fnShapePopsRow.domain false) (Rows.fnShapePopsSpec.post enc Try.prog Try.f5 false true false false) := by
  refine returnsInHanded_of_change (C := Try.checked) own started (by kernel_rfl) Try.func5
    (ChangeSpec.witness6 (enc := enc) (C := Try.checked) false ⟨#[], #[.slice none 0 0], []⟩ 8 (by kernel_rfl) (by kernel_rfl) (by kernel_rfl) (by kernel_rfl)) ?_
  intro W base args ds gs before hval0 hW hcnd _
  have hval : ∀ (j : Nat) t v, Try.f5.params[j]? = some t → args[j]? = some v → Value.okWide Try.prog W .any base t v := hval0
  have hW' := hW
  obtain ⟨p, q, hA0, hV, rfl, hfz, hnd⟩ := hW
  have hA : DataW.TrodAll enc Try.prog W 0 (fun _ => true) true Try.f5.params.toList args.toList ds p := hA0
  rw [Try.params5] at hA hval
  obtain ⟨v0, vs0, d0, ds0, p0, q0, hargs, rfl, rfl, h0, r0⟩ := trodAll_cons hA
  obtain ⟨rfl, rfl, rfl⟩ := trodAll_nil r0
  obtain rfl : args = #[v0] := by cases args; simp_all
  obtain ⟨rfl, rfl⟩ := trodVars_none hV
  obtain ⟨a0, len0, cap0, rfl⟩ := okWide_slice Try.underlying39 (hval 0 39 v0 rfl rfl)
  have k0 := h0
  have lt0 : ∀ x ∈ p0, x.block < W.heap.size := by obtain ⟨m, hm⟩ := k0; exact DataW.trod_lt m _ _ _ hm
  obtain ⟨z0, w0⟩ : ∃ zs, IsRow .u8 W a0 len0 cap0 zs := by
    obtain ⟨fuel, hf⟩ := h0
    rcases open_ints Try.underlying39 Try.underlying5 (by kernel_rfl) hf with ⟨hcs, _⟩ | ⟨x, l, c, zs, hcs, _, hl, hm, hz, _, hcell, hwz⟩
    · simp [Value.cells] at hcs
      obtain ⟨rfl, rfl, rfl⟩ := hcs
      exact ⟨[], .inl ⟨rfl, rfl, rfl, rfl⟩⟩
    · simp [Value.cells] at hcs
      obtain ⟨rfl, rfl, rfl⟩ := hcs
      exact ⟨zs, .inr ⟨_, rfl, hl, hm, by simpa using hz, hcell, hwz⟩⟩
  clear hA0 hval0
  refine (walk a0 len0 cap0 z0 W w0).mono fun e W' ⟨he, bel⟩ => ?_
  subst he
  exact ⟨_, rfl, _, _, _, [], _, [], hW', trodAll_mk1 (shut_bool Try.underlying4 _), (trodAll_cons_mk (Below.trod laidOut (by kernel_rfl) (of_decide_eq_true (by kernel_rfl)) k0 bel lt0) trodAll_mk0), rfl, bel.frame _, fun h => by cases h⟩

theorem over : Rows.fnShapePopsRow.holds Try.pinned (OpenSpec.ofChange Rows.fnShapePopsSpec) :=
  OpenClaim.holds_of_wide 5 Try.f5 rfl rfl rfl rfl rfl rfl rfl ⟨rfl, rfl, rfl, rfl, rfl⟩ rfl rfl rfl rfl rfl (by kernel_rfl) Try.func5 (by kernel_rfl)
    (of_decide_eq_true (by kernel_rfl)) (by unfold Func.isWrapper; first | (rw [if_pos (by decide +kernel)]; kernel_rfl) | (rw [if_neg (by decide +kernel)]; exact ⟨rfl, rfl⟩))
    (fun os started H enc _ => lifted os started H enc)

theorem proved : Rows.FnShapePopsSaid := over
end Go.Proofs.Ytmjggolllijamaa.fnShapePops
namespace Go.Proofs.Ytmjggolllijamaa
theorem fnShapePops_holds : Rows.FnShapePopsSaid := fnShapePops.proved
#print axioms fnShapePops_holds
end Go.Proofs.Ytmjggolllijamaa
