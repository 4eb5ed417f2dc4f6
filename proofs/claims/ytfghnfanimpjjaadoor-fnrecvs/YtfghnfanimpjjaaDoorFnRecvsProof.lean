/-
  Whatever bytes the law FnRecvs draws its receiver and its segment from, where the program's error lies in its variable, it returns true and leaves the bytes as they were: a receiver has what it had and what came, and nothing else, and what lacks is what it has not; no condition.
-/
import Derived.Test.YtfghnfanimpjjaaDoorRows
import Derived.WalkKit
import Derived.ProofKit
import Derived.OpenShut
import Derived.Test.YtfghnfanimpjjaaDoorLaidS
import Derived.Test.YtfghnfanimpjjaaDoorSegY
import Derived.Test.YtfghnfanimpjjaaDoorDrawRv3
import Derived.Test.YtfghnfanimpjjaaDoorRecvHas
import Derived.Test.YtfghnfanimpjjaaDoorHolesI
import Derived.Deep.RegionHeld3
import Derived.Deep.Cut
import Derived.Deep.Quiet
import Derived.Deep.QuietTactic
import Derived.BigQuiet
import Derived.Deep.Slices
import Derived.ShutString
import Derived.ChangeOld
import Derived.Below
namespace Go.Proofs.YtfghnfanimpjjaaDoor.fnRecvs
open Go.ChangeShapes Go.WideShapes Go.ChangeAt Go.RowKit
open Go.ChangeMaps (open_string shut_string)
set_option linter.unusedVariables false

theorem own : ownKnob Tryd.prog.godebug = none := by kernel_rfl
theorem laidOut : laidOutB Tryd.prog = true := by kernel_rfl
theorem cellsInt : Tryd.prog.cellsOf 3 = 1 := by kernel_rfl

/-- A slice of integers that came in: nil, or each cell holds its number. -/
def IsRow (k : IntKind) (w : World) (a : Option Addr) (len cap : Nat) (zs : List Int) : Prop :=
  (a = none ∧ len = 0 ∧ cap = 0 ∧ zs = []) ∨ ∃ x, a = some x ∧ len ≤ cap ∧ cap ≤ maxLen ∧ zs.length = cap ∧ (∀ i, i < zs.length → w.cell? (x.add i) = some (.int k (zs.getD i 0))) ∧ ∀ n ∈ zs, (Lit.int k n).wf = true

theorem code_of {w : World} {a : Option Addr} {len cap : Nat} {zs : List Int} (h : IsRow .u8 w a len cap zs) : len ≤ 9223372036854775807 ∧ Code w w.heap.size a len := by
  rcases h with ⟨rfl, rfl, rfl, rfl⟩ | ⟨x, rfl, hl, hm, hz, hcell, hwz⟩
  · exact ⟨by omega, .inl rfl⟩
  · unfold maxLen at hm
    refine ⟨by omega, ?_⟩
    by_cases h0 : len = 0
    · exact .inl h0
    · obtain ⟨b, off, rfl, hc⟩ := ints_at hcell (by omega)
      refine .inr ⟨b, off, rfl, World.block_lt_of_cell? w _ (hc 0 (by omega)), fun k hk => ?_⟩
      have hb := bounds_u8 (hwz (zs.getD k 0) (by rw [List.getD_eq_getElem?_getD, List.getElem?_eq_getElem (by omega)]; exact List.getElem_mem _))
      exact ⟨zs.getD k 0, hb.1, hb.2, hc k (by omega)⟩

theorem first_seg : outN 0 (fun _ => default) 0 0 5 = 5 ∧ (outL 0 (fun _ => default) 0 0 5).length = 0 ∧ outM 0 (fun _ => default) 0 0 5 = 5 ∧ segK 0 (fun _ => default) 0 0 5 = true := by
  have hP : segP 0 (fun _ => default) 0 0 5 := by decide
  have hA : segA 0 (fun _ => default) 0 0 5 = [⟨0, 5⟩] := by
    unfold segA segI pcL
    simp [SegI.step, SegI.all, pieceF, smin, smax]
  have hK : segK 0 (fun _ => default) 0 0 5 = true := by unfold segK; rw [decide_eq_true hP, hA]; rfl
  refine ⟨?_, ?_, ?_, hK⟩
  · unfold outN; rw [if_pos hP, hA]; rfl
  · unfold outL; rw [if_pos hP, hA]; rfl
  · unfold outM; rw [if_pos hK, hA]; rfl


set_option maxRecDepth 100000 in
set_option maxHeartbeats 20000000 in
theorem walk (a0 : Option Addr) (len0 cap0 : Nat) (z0 : List Int) (w : World) (w0 : IsRow .u8 w a0 len0 cap0 z0) (hs : ErrSps w) :
    Calls Tryd.prog 3 #[.slice a0 len0 cap0] w fun e w' => e = .returned (.bool true) ∧ Below w.heap.size w w' := by
  obtain ⟨hl, hcode⟩ := code_of w0
  clear w0
  have HC : Hid (Code w w.heap.size a0 len0) := hcode
  clear hcode
  obtain ⟨er, her⟩ := hs
  have HER : Hid (∀ V, Below w.heap.size w V → ErrSp er V) := fun V h => ErrSp.below her h her.lt
  clear her
  go_enter Tryd.func3, Tryd.ntmps3
  go_wp2_with fail
  refine (drawRecvSeg a0 len0 cap0 _ hl HC.out).mono ?_
  rintro e w1 ⟨nx, x, c, L, fr, to, rfl, hos, h9, ⟨hx0, hx1⟩, ⟨f0, f1⟩, ⟨t0, t1⟩, b1⟩
  clear HC hl
  obtain ⟨n, hn⟩ : ∃ n, L.length = n := ⟨_, rfl⟩
  obtain ⟨f, hf⟩ : ∃ f, lf L = f := ⟨_, rfl⟩
  have hsr : SR w1.heap.size w1 x n f := by rw [← hn, ← hf]; exact ZS.sr hos.zs
  rw [hn] at h9 ⊢
  clear hn hf hos
  go_upto_region 2 with fail
  obtain ⟨V, hV⟩ : ∃ V, w1.heap.size = V := ⟨_, rfl⟩
  obtain ⟨wv, hwv⟩ : ∃ y, w1.alloc (.cells #[.int .i64 nx, .slice x n c] 25) = y := ⟨_, rfl⟩
  have hbv : Below w1.heap.size w1 wv := by rw [← hwv]; exact (Below.refl _ _).alloc (Nat.le_refl _) _
  have HV : Hid (Sits wv V (rcCells nx x n c) 25) := by show Sits _ _ _ _; rw [← hwv]; exact Sits.new' hV
  have hVl : V < wv.heap.size := Sits.lt HV.out
  have HSR : Hid (SR wv.heap.size wv x n f) := SR.mono (SR.below hsr hbv) hbv.size
  have HB : Hid (Below w.heap.size w wv) := b1.trans (hbv.mono b1.size)
  have hnm : n ≤ 1048576 := by omega
  rw [hwv, hV]
  clear hwv hV hbv hsr b1
  have HVA : Hid (∀ U, Below wv.heap.size wv U → Sits U V (rcCells nx x n c) 25 ∧ SR U.heap.size U x n f ∧ Below w.heap.size w U ∧ ErrSp er U) := fun U h => ⟨Sits.below HV.out h hVl, SR.mono (SR.below HSR.out h) h.size, (HB.out).trans (h.mono (HB.out).size), HER.out U ((HB.out).trans (h.mono (HB.out).size))⟩
  obtain ⟨N, hN⟩ : ∃ N, outN nx f n fr to = N := ⟨_, rfl⟩
  obtain ⟨M, hM⟩ : ∃ M, outL nx f n fr to = M := ⟨_, rfl⟩
  obtain ⟨m, hm⟩ : ∃ m, outM nx f n fr to = m := ⟨_, rfl⟩
  obtain ⟨ok, hok⟩ : ∃ ok, segK nx f n fr to = ok := ⟨_, rfl⟩
  have HSEG : Hid (Calls Tryd.prog 5 #[.agg #[.int .i64 nx, .slice x n c], .int .i64 fr, .int .i64 to] wv fun e w' => ∃ (y : Option Addr) (cy : Nat), e = .returned (.tuple #[.agg #[.int .i64 N, .slice y M.length cy], .int .i64 m, .bool ok]) ∧ OS wv.heap.size w' y cy M ∧ Below wv.heap.size wv w') := by
    have h := HVA.out wv (Below.refl _ _)
    have := irecvSeg_any nx x n c f fr to er wv h.2.1 hnm h.2.2.2
    rw [hN, hM, hm, hok] at this
    exact this
  have HONE : Hid (∀ U, ErrSp er U → Calls Tryd.prog 5 #[.agg #[.int .i64 0, .slice none 0 0], .int .i64 0, .int .i64 5] U fun e w' => ∃ (y : Option Addr) (cy : Nat), e = .returned (.tuple #[.agg #[.int .i64 5, .slice y 0 cy], .int .i64 5, .bool true]) ∧ Below U.heap.size U w') := fun U he => by
    have := irecvSeg_any 0 none 0 0 (fun _ => default) 0 5 er U (.inl rfl) (by omega) he
    rw [first_seg.1, first_seg.2.1, first_seg.2.2.1, first_seg.2.2.2] at this
    refine this.mono ?_
    rintro e w' ⟨y, cy, rfl, _, h⟩
    exact ⟨y, cy, rfl, h⟩
  have HROK : Hid (∀ U, Below wv.heap.size wv U → Calls Tryd.prog 6 #[.agg #[.int .i64 nx, .slice x n c]] U fun e w' => e = .returned (.bool (recvB nx f n)) ∧ Below U.heap.size U w') := fun U h => srecvOk_any nx x n c f U (HVA.out U h).2.1 hnm
  obtain ⟨v0, v1⟩ := rc_cells HV.out
  by_cases hP : segP nx f n fr to
  case neg =>
    obtain ⟨e1, e2, e3, e4⟩ := seg_bad hP
    rw [hok] at e1
    rw [hN] at e2
    rw [hM] at e3
    rw [hm] at e4
    subst e1 e2 e3 e4
    have hbad : recvB nx f n = false ∨ (recvB nx f n = true ∧ (fr < 0 ∨ (¬ fr < 0 ∧ (to ≤ fr ∨ (¬ to ≤ fr ∧ 1000000000000 < to))))) := by
      cases hr : recvB nx f n
      · exact .inl rfl
      · refine .inr ⟨rfl, ?_⟩
        have hr' := recvB_eq.1 hr
        by_cases h1 : fr < 0
        · exact .inl h1
        · refine .inr ⟨h1, ?_⟩
          by_cases h2 : to ≤ fr
          · exact .inl h2
          · refine .inr ⟨h2, ?_⟩
            by_cases h3 : 1000000000000 < to
            · exact h3
            · exact absurd ⟨hr', by omega, by omega, by omega⟩ hP
    clear hN hM hm hok hP
    go_upto_region 3 with (go_at_call 5; refine (HSEG.out).mono ?_; rintro e w2 ⟨y, cy, rfl, hy, b2⟩)
    obtain ⟨X, hX⟩ : ∃ X, w2.heap.size = X := ⟨_, rfl⟩
    obtain ⟨w3, hw3⟩ : ∃ z, w2.alloc (.cells #[.int .i64 0, .slice y 0 cy] 25) = z := ⟨_, rfl⟩
    have b23 : Below w2.heap.size w2 w3 := by rw [← hw3]; exact (Below.refl _ _).alloc (Nat.le_refl _) _
    have HX : Hid (Sits w3 X (rcCells 0 y 0 cy) 25) := by show Sits _ _ _ _; rw [← hw3]; exact Sits.new' hX
    have HB3 : Hid (Below wv.heap.size wv w3) := b2.trans (b23.mono b2.size)
    have hXl : X < w3.heap.size := Sits.lt HX.out
    rw [hw3, hX]
    clear hw3 hX b23 b2 hy v0 v1 HSEG
    have HXA : Hid (∀ U, Below w3.heap.size w3 U → Below wv.heap.size wv U ∧ Sits U X (rcCells 0 y 0 cy) 25) := fun U h => ⟨(HB3.out).trans (h.mono (HB3.out).size), Sits.below HX.out h hXl⟩
    go_upto_region 4 with (go_at_call 5; refine (HONE.out _ (HVA.out _ HB3.out).2.2.2).mono ?_; rintro e w4 ⟨z, cz, rfl, b4⟩)
    obtain ⟨Z, hZ⟩ : ∃ X, w4.heap.size = X := ⟨_, rfl⟩
    obtain ⟨w5, hw5⟩ : ∃ y, w4.alloc (.cells #[.int .i64 5, .slice z 0 cz] 25) = y := ⟨_, rfl⟩
    have HB5 : Hid (Below w3.heap.size w3 w5) := by show Below _ _ _; rw [← hw5]; exact b4.alloc b4.size _
    have z0 : w5.cell? ⟨Z, 0, none⟩ = some (.int .i64 5) := by rw [← hw5]; exact (Sits.new' hZ).cell 0
    rw [hw5, hZ]
    clear hw5 hZ b4 HONE
    obtain ⟨hBv, hsx⟩ := HXA.out _ HB5.out
    obtain ⟨x0, x1⟩ := rc_cells hsx
    obtain ⟨v0, v1⟩ := rc_cells (HVA.out _ hBv).1
    have HW5 : Hid (Below wv.heap.size wv w5) := hBv
    clear hBv hsx
    rcases hbad with hr | ⟨hr, h1 | ⟨h1, h2 | ⟨h2, h3⟩⟩⟩
    · have HRV : Hid (recvB nx f n = false) := hr
      clear hr
      go_wp2_with (go_at_call 6; refine (HROK.out _ HW5.out).mono ?_; rintro e w6 ⟨rfl, b6⟩; rw [HRV.out]; have hB6 := HB5.out.trans (b6.mono HB5.out.size); obtain ⟨u0, u1⟩ := rc_cells (HXA.out _ hB6).2; clear x0 x1 v0 v1 z0)
      go_ret
      exact ⟨rfl, (HVA.out _ ((HXA.out _ hB6).1)).2.2.1⟩
    · have HRV : Hid (recvB nx f n = true) := hr
      clear hr
      go_wp2_with (go_at_call 6; refine (HROK.out _ HW5.out).mono ?_; rintro e w6 ⟨rfl, b6⟩; rw [HRV.out]; have hB6 := HB5.out.trans (b6.mono HB5.out.size); obtain ⟨u0, u1⟩ := rc_cells (HXA.out _ hB6).2; clear x0 x1 v0 v1 z0)
      go_ret
      exact ⟨rfl, (HVA.out _ ((HXA.out _ hB6).1)).2.2.1⟩
    · have HRV : Hid (recvB nx f n = true) := hr
      clear hr
      go_wp2_with (go_at_call 6; refine (HROK.out _ HW5.out).mono ?_; rintro e w6 ⟨rfl, b6⟩; rw [HRV.out]; have hB6 := HB5.out.trans (b6.mono HB5.out.size); obtain ⟨u0, u1⟩ := rc_cells (HXA.out _ hB6).2; clear x0 x1 v0 v1 z0)
      go_ret
      exact ⟨rfl, (HVA.out _ ((HXA.out _ hB6).1)).2.2.1⟩
    · have HRV : Hid (recvB nx f n = true) := hr
      clear hr
      go_wp2_with (go_at_call 6; refine (HROK.out _ HW5.out).mono ?_; rintro e w6 ⟨rfl, b6⟩; rw [HRV.out]; have hB6 := HB5.out.trans (b6.mono HB5.out.size); obtain ⟨u0, u1⟩ := rc_cells (HXA.out _ hB6).2; clear x0 x1 v0 v1 z0)
      go_ret
      exact ⟨rfl, (HVA.out _ ((HXA.out _ hB6).1)).2.2.1⟩
  case pos =>
    cases ok
    case false =>
      obtain ⟨e2, e3, e4⟩ := seg_no hP hok
      rw [hN] at e2
      rw [hM] at e3
      rw [hm] at e4
      have hml : M.length = n := by rw [e3, spL_len]
      subst e2 e4
      rw [hml] at HSEG
      have HRB : Hid (recvB N f n = true) := recvB_eq.2 hP.1
      obtain ⟨-, p0, p1, p2⟩ := hP
      clear hN hM hm hok e3 hml
      go_upto_region 3 with (go_at_call 5; refine (HSEG.out).mono ?_; rintro e w2 ⟨y, cy, rfl, hy, b2⟩)
      obtain ⟨X, hX⟩ : ∃ X, w2.heap.size = X := ⟨_, rfl⟩
      obtain ⟨w3, hw3⟩ : ∃ z, w2.alloc (.cells #[.int .i64 N, .slice y n cy] 25) = z := ⟨_, rfl⟩
      have b23 : Below w2.heap.size w2 w3 := by rw [← hw3]; exact (Below.refl _ _).alloc (Nat.le_refl _) _
      have HX : Hid (Sits w3 X (rcCells N y n cy) 25) := by show Sits _ _ _ _; rw [← hw3]; exact Sits.new' hX
      have HB3 : Hid (Below wv.heap.size wv w3) := b2.trans (b23.mono b2.size)
      have hXl : X < w3.heap.size := Sits.lt HX.out
      rw [hw3, hX]
      clear hw3 hX b23 b2 hy v0 v1 HSEG
      have HXA : Hid (∀ U, Below w3.heap.size w3 U → Below wv.heap.size wv U ∧ Sits U X (rcCells N y n cy) 25) := fun U h => ⟨(HB3.out).trans (h.mono (HB3.out).size), Sits.below HX.out h hXl⟩
      go_upto_region 4 with (go_at_call 5; refine (HONE.out _ (HVA.out _ HB3.out).2.2.2).mono ?_; rintro e w4 ⟨z, cz, rfl, b4⟩)
      obtain ⟨Z, hZ⟩ : ∃ X, w4.heap.size = X := ⟨_, rfl⟩
      obtain ⟨w5, hw5⟩ : ∃ y, w4.alloc (.cells #[.int .i64 5, .slice z 0 cz] 25) = y := ⟨_, rfl⟩
      have HB5 : Hid (Below w3.heap.size w3 w5) := by show Below _ _ _; rw [← hw5]; exact b4.alloc b4.size _
      have z0 : w5.cell? ⟨Z, 0, none⟩ = some (.int .i64 5) := by rw [← hw5]; exact (Sits.new' hZ).cell 0
      rw [hw5, hZ]
      clear hw5 hZ b4 HONE
      obtain ⟨hBv, hsx⟩ := HXA.out _ HB5.out
      obtain ⟨x0, x1⟩ := rc_cells hsx
      obtain ⟨v0, v1⟩ := rc_cells (HVA.out _ hBv).1
      have HW5 : Hid (Below wv.heap.size wv w5) := hBv
      clear hBv hsx
      have g1 : ¬ fr < 0 := by omega
      have g2 : ¬ to ≤ fr := by omega
      have g3 : ¬ 1000000000000 < to := by omega
      go_wp2_with (go_at_call 6; refine (HROK.out _ HW5.out).mono ?_; rintro e w6 ⟨rfl, b6⟩; rw [HRB.out]; have hB6 := HB5.out.trans (b6.mono HB5.out.size); obtain ⟨u0, u1⟩ := rc_cells (HXA.out _ hB6).2; obtain ⟨s0, s1⟩ := rc_cells (HVA.out _ ((HXA.out _ hB6).1)).1; clear x0 x1 v0 v1 z0)
      go_ret
      exact ⟨rfl, (HVA.out _ ((HXA.out _ hB6).1)).2.2.1⟩
    case true =>
      obtain ⟨N', M', e2, e3, e4, hRv, hM8, hHas⟩ := seg_out hok
      rw [hN] at e2
      rw [hM] at e3
      rw [hm] at e4
      subst e2 e3 e4
      have HRB : Hid (recvB nx f n = true) := recvB_eq.2 hP.1
      obtain ⟨hP1, p0, p1, p2⟩ := hP
      have hnx0 := hP1.1
      have hnx1 := hP1.2.1
      obtain ⟨q, hq⟩ : ∃ q, M.length = q := ⟨_, rfl⟩
      obtain ⟨g, hg⟩ : ∃ g, lf M = g := ⟨_, rfl⟩
      have hN0 := hRv.lo
      have hN1 := hRv.hi
      have hPg := recvP_lf hRv hM8
      rw [hq, hg] at hHas hPg
      rw [hq] at HSEG hM8
      have HHAS : Hid (∀ t, hasP N g q t ↔ hasP nx f n t ∨ (fr ≤ t ∧ t < to)) := hHas
      have HPG : Hid (recvP N g q) := hPg
      have HGM : Hid (lf M = g ∧ M.length = q) := ⟨hg, hq⟩
      clear hN hM hm hok hRv hHas hPg hP1 hq hg
      go_upto_region 3 with (go_at_call 5; refine (HSEG.out).mono ?_; rintro e w2 ⟨y, cy, rfl, hy, b2⟩)
      obtain ⟨X, hX⟩ : ∃ X, w2.heap.size = X := ⟨_, rfl⟩
      obtain ⟨w3, hw3⟩ : ∃ z, w2.alloc (.cells #[.int .i64 N, .slice y q cy] 25) = z := ⟨_, rfl⟩
      have b23 : Below w2.heap.size w2 w3 := by rw [← hw3]; exact (Below.refl _ _).alloc (Nat.le_refl _) _
      have HX : Hid (Sits w3 X (rcCells N y q cy) 25) := by show Sits _ _ _ _; rw [← hw3]; exact Sits.new' hX
      have HB3 : Hid (Below wv.heap.size wv w3) := b2.trans (b23.mono b2.size)
      have hXl : X < w3.heap.size := Sits.lt HX.out
      have HY3 : Hid (SR w3.heap.size w3 y q g) := by
        show SR _ _ _ _ _
        have h0 := ZS.sr (OS.zs hy)
        rw [show (fun i => M.getD i default) = g from HGM.out.1, HGM.out.2] at h0
        exact SR.mono (SR.below h0 b23) b23.size
      rw [hw3, hX]
      clear hw3 hX b23 b2 hy v0 v1 HSEG
      have HXA : Hid (∀ U, Below w3.heap.size w3 U → Below wv.heap.size wv U ∧ Sits U X (rcCells N y q cy) 25 ∧ SR U.heap.size U y q g) := fun U h => ⟨(HB3.out).trans (h.mono (HB3.out).size), Sits.below HX.out h hXl, SR.mono (SR.below HY3.out h) h.size⟩
      go_upto_region 4 with (go_at_call 5; refine (HONE.out _ (HVA.out _ HB3.out).2.2.2).mono ?_; rintro e w4 ⟨z, cz, rfl, b4⟩)
      obtain ⟨Z, hZ⟩ : ∃ X, w4.heap.size = X := ⟨_, rfl⟩
      obtain ⟨w5, hw5⟩ : ∃ y, w4.alloc (.cells #[.int .i64 5, .slice z 0 cz] 25) = y := ⟨_, rfl⟩
      have HB5 : Hid (Below w3.heap.size w3 w5) := by show Below _ _ _; rw [← hw5]; exact b4.alloc b4.size _
      have z0 : w5.cell? ⟨Z, 0, none⟩ = some (.int .i64 5) := by rw [← hw5]; exact (Sits.new' hZ).cell 0
      rw [hw5, hZ]
      clear hw5 hZ b4 HONE
      obtain ⟨hBv, hsx, -⟩ := HXA.out _ HB5.out
      obtain ⟨x0, x1⟩ := rc_cells hsx
      obtain ⟨v0, v1⟩ := rc_cells (HVA.out _ hBv).1
      have HW5 : Hid (Below wv.heap.size wv w5) := hBv
      clear hBv hsx
      have g1 : ¬ fr < 0 := by omega
      have g2 : ¬ to ≤ fr := by omega
      have g3 : ¬ 1000000000000 < to := by omega
      go_upto_region 10 with (go_at_call 6; refine (HROK.out _ HW5.out).mono ?_; rintro e w6 ⟨rfl, b6⟩; rw [HRB.out])
      have HB6 : Hid (Below w3.heap.size w3 w6) := HB5.out.trans (b6.mono HB5.out.size)
      clear x0 x1 v0 v1 z0 b6 g1 g2 g3 HROK HW5 HB5
      have HGB : Hid (recvB N g q = true) := recvB_eq.2 HPG.out
      obtain ⟨hBv, hsx, hsy⟩ := HXA.out _ HB6.out
      obtain ⟨x0, x1⟩ := rc_cells hsx
      obtain ⟨v0, v1⟩ := rc_cells (HVA.out _ hBv).1
      have HSY6 : Hid (SR w6.heap.size w6 y q g) := hsy
      have HER6 : Hid (ErrSp er w6) := (HVA.out _ hBv).2.2.2
      have hX6 : X < w6.heap.size := Nat.lt_of_lt_of_le hXl (HB6.out).size
      have hw0 : IntKind.i64.wrap (nx + (N - nx)) = N := by rw [IntKind.wrap_i64]; omega
      clear hsx hsy
      go_upto_region 10 with fail
      go_upto_region 12 with (go_at_call 7; refine (irecvOk_any N y q cy g er _ (by omega) HSY6.out HER6.out).mono ?_; rintro e w7 ⟨rfl, b7⟩; rw [HGB.out]; have hVx : V < w6.heap.size := (by have := (HB6.out).size; have := (HB3.out).size; omega); have y0 := (b7.cell (p := ⟨X, 0, none⟩) hX6).trans x0; have y1 := (b7.cell (p := ⟨X, 1, none⟩) hX6).trans x1; have u0 := (b7.cell (p := ⟨V, 0, none⟩) hVx).trans v0)
      clear y0 y1 u0 hVx
      have HB7 : Hid (Below w3.heap.size w3 w7) := (HB6.out).trans (b7.mono (HB6.out).size)
      clear b7 x0 x1 v0 v1 hBv hw0 HSY6 HER6
      have HHX : Hid (∀ U t, Below w3.heap.size w3 U → Calls Tryd.prog 8 #[.agg #[.int .i64 N, .slice y q cy], .int .i64 t] U fun e w' => e = .returned (.bool (hasB N g q t)) ∧ Below U.heap.size U w') := fun U t h => irecvHas_any N y q cy g t er U (by omega) (HXA.out U h).2.2 (HVA.out _ (HXA.out U h).1).2.2.2
      have HHV : Hid (∀ U t, Below w3.heap.size w3 U → Calls Tryd.prog 8 #[.agg #[.int .i64 nx, .slice x n c], .int .i64 t] U fun e w' => e = .returned (.bool (hasB nx f n t)) ∧ Below U.heap.size U w') := fun U t h => irecvHas_any nx x n c f t er U (by omega) (HVA.out _ (HXA.out U h).1).2.1 (HVA.out _ (HXA.out U h).1).2.2.2
      have HCE : Hid (∀ U, Below w3.heap.size w3 U → (U.cell? ⟨X, 0, none⟩ = some (.int .i64 N) ∧ U.cell? ⟨X, 1, none⟩ = some (.slice y q cy)) ∧ (U.cell? ⟨V, 0, none⟩ = some (.int .i64 nx) ∧ U.cell? ⟨V, 1, none⟩ = some (.slice x n c))) := fun U h => ⟨rc_cells (HXA.out U h).2.1, rc_cells (HVA.out _ (HXA.out U h).1).1⟩
      have HHB : Hid (∀ t, hasB N g q t = (hasB nx f n t || (decide (fr ≤ t) && decide (t < to)))) := fun t => by
        have h := HHAS.out t
        unfold hasB
        rw [HGB.out, HRB.out, Bool.eq_iff_iff]
        simpa using h
      go_wp2
      go_loopw [12] (fun i wr => ∃ k : Nat, k ≤ 83 ∧ i = .int .i64 ((k : Int) - 3) ∧ Below w3.heap.size w3 wr) (fun i _ => (80 - intOf i).toNat)
      case atStart => exact ⟨0, by omega, rfl, HB7.out⟩
      case round =>
        obtain ⟨k, hk, rfl, hbr⟩ := hrel
        obtain ⟨wk, rfl⟩ : ∃ W, W = wr := ⟨wr, rfl⟩
        have HBK : Hid (Below w3.heap.size w3 wk) := hbr
        obtain ⟨⟨x0, x1⟩, v0, v1⟩ := HCE.out _ hbr
        have hzk := hbr.size
        have hXk : X < wk.heap.size := by omega
        have hVk : V < wk.heap.size := by have := (HB3.out).size; omega
        clear hbr
        by_cases hlt : k < 83
        · have hki : (k : Int) - 3 < 80 := by omega
          have hw1 : IntKind.i64.wrap (nx + ((k : Int) - 3)) = nx + ((k : Int) - 3) := by rw [IntKind.wrap_i64]; omega
          go_upto_region 16 with fail
          obtain ⟨t, ht⟩ : ∃ t, nx + ((k : Int) - 3) = t := ⟨_, rfl⟩
          (try simp only [hw1])
          (try simp only [ht])
          clear hw1
          have hrelk : ∀ U, Below wk.heap.size wk U → Below w3.heap.size w3 U := fun U h => (HBK.out).trans (h.mono (HBK.out).size)
          have HRK : Hid (∀ U, Below wk.heap.size wk U → Below w3.heap.size w3 U) := hrelk
          clear hrelk
          have hnum : ∃ b1 b2 : Bool, hasB N g q t = b1 ∧ hasB nx f n t = b2 ∧ b1 = (b2 || (decide (fr ≤ t) && decide (t < to))) := ⟨_, _, rfl, rfl, HHB.out t⟩
          obtain ⟨b1, b2, hb1, hb2, hb12⟩ := hnum
          have HB1 : Hid (hasB N g q t = b1) := hb1
          have HB2 : Hid (hasB nx f n t = b2) := hb2
          clear hb1 hb2
          by_cases ht0 : t < 0
          · have ht1 : ¬ 0 ≤ t := by omega
            clear hb12 ht
            refine wp_region_quiet (C := fun w' => Below wk.heap.size wk w') (by kernel_rfl) (by kernel_rfl) ((Below.refl _ _).drew) ?_
            simp only []
            repeat (first
              | go_big_quiet_skip
              | (go_big_quiet_want
                 unfold Oper.quiet
                 apply Exists.intro
                 refine ⟨fun w' hw' => ?_, ?_⟩
                 (have y0 := (hw'.cell (p := ⟨X, 0, none⟩) hXk).trans x0
                  have y1 := (hw'.cell (p := ⟨X, 1, none⟩) hXk).trans x1
                  have u0 := (hw'.cell (p := ⟨V, 0, none⟩) hVk).trans v0
                  have u1 := (hw'.cell (p := ⟨V, 1, none⟩) hVk).trans v1
                  go_simp
                  first
                    | (go_at_call 8; with_reducible refine ((HHX.out) _ t (HRK.out _ hw')).mono ?_; rintro e w1 ⟨rfl, hk1⟩; exact ⟨by rw [HB1.out], hw'.trans (hk1.mono hw'.size)⟩)
                    | (go_at_call 8; with_reducible refine ((HHV.out) _ t (HRK.out _ hw')).mono ?_; rintro e w1 ⟨rfl, hk1⟩; exact ⟨by rw [HB2.out], hw'.trans (hk1.mono hw'.size)⟩)
                    | exact rfl)
                 simp only [Act.put, List.setIfInBounds_toArray, List.set_cons_zero, List.set_cons_succ]
                 go_big_quiet_on))
            refine wpQuiet_nil ?_
            intro wq hwq
            go_wp2
            go_roundw
            case rel => exact ⟨k + 1, by omega, by go_num, HRK.out _ hwq⟩
            case measure => simp [intOf]; omega
          · have ht1 : 0 ≤ t := by omega
            clear ht
            cases b2
            case true =>
              obtain rfl : b1 = true := by simpa using hb12
              clear hb12
              refine wp_region_quiet (C := fun w' => Below wk.heap.size wk w') (by kernel_rfl) (by kernel_rfl) ((Below.refl _ _).drew) ?_
              simp only []
              repeat (first
                | go_big_quiet_skip
                | (go_big_quiet_want
                   unfold Oper.quiet
                   apply Exists.intro
                   refine ⟨fun w' hw' => ?_, ?_⟩
                   (have y0 := (hw'.cell (p := ⟨X, 0, none⟩) hXk).trans x0
                    have y1 := (hw'.cell (p := ⟨X, 1, none⟩) hXk).trans x1
                    have u0 := (hw'.cell (p := ⟨V, 0, none⟩) hVk).trans v0
                    have u1 := (hw'.cell (p := ⟨V, 1, none⟩) hVk).trans v1
                    go_simp
                    first
                      | (go_at_call 8; with_reducible refine ((HHX.out) _ t (HRK.out _ hw')).mono ?_; rintro e w1 ⟨rfl, hk1⟩; exact ⟨by rw [HB1.out], hw'.trans (hk1.mono hw'.size)⟩)
                      | (go_at_call 8; with_reducible refine ((HHV.out) _ t (HRK.out _ hw')).mono ?_; rintro e w1 ⟨rfl, hk1⟩; exact ⟨by rw [HB2.out], hw'.trans (hk1.mono hw'.size)⟩)
                      | exact rfl)
                   simp only [Act.put, List.setIfInBounds_toArray, List.set_cons_zero, List.set_cons_succ]
                   go_big_quiet_on))
              refine wpQuiet_nil ?_
              intro wq hwq
              go_wp2
              go_roundw
              case rel => exact ⟨k + 1, by omega, by go_num, HRK.out _ hwq⟩
              case measure => simp [intOf]; omega
            case false =>
              by_cases hf1 : fr ≤ t
              · by_cases hf2 : t < to
                · obtain rfl : b1 = true := by simpa [hf1, hf2] using hb12
                  clear hb12
                  refine wp_region_quiet (C := fun w' => Below wk.heap.size wk w') (by kernel_rfl) (by kernel_rfl) ((Below.refl _ _).drew) ?_
                  simp only []
                  repeat (first
                    | go_big_quiet_skip
                    | (go_big_quiet_want
                       unfold Oper.quiet
                       apply Exists.intro
                       refine ⟨fun w' hw' => ?_, ?_⟩
                       (have y0 := (hw'.cell (p := ⟨X, 0, none⟩) hXk).trans x0
                        have y1 := (hw'.cell (p := ⟨X, 1, none⟩) hXk).trans x1
                        have u0 := (hw'.cell (p := ⟨V, 0, none⟩) hVk).trans v0
                        have u1 := (hw'.cell (p := ⟨V, 1, none⟩) hVk).trans v1
                        go_simp
                        first
                          | (go_at_call 8; with_reducible refine ((HHX.out) _ t (HRK.out _ hw')).mono ?_; rintro e w1 ⟨rfl, hk1⟩; exact ⟨by rw [HB1.out], hw'.trans (hk1.mono hw'.size)⟩)
                          | (go_at_call 8; with_reducible refine ((HHV.out) _ t (HRK.out _ hw')).mono ?_; rintro e w1 ⟨rfl, hk1⟩; exact ⟨by rw [HB2.out], hw'.trans (hk1.mono hw'.size)⟩)
                          | exact rfl)
                       simp only [Act.put, List.setIfInBounds_toArray, List.set_cons_zero, List.set_cons_succ]
                       go_big_quiet_on))
                  refine wpQuiet_nil ?_
                  intro wq hwq
                  go_wp2
                  go_roundw
                  case rel => exact ⟨k + 1, by omega, by go_num, HRK.out _ hwq⟩
                  case measure => simp [intOf]; omega
                · obtain rfl : b1 = false := by simpa [hf1, hf2] using hb12
                  clear hb12
                  refine wp_region_quiet (C := fun w' => Below wk.heap.size wk w') (by kernel_rfl) (by kernel_rfl) ((Below.refl _ _).drew) ?_
                  simp only []
                  repeat (first
                    | go_big_quiet_skip
                    | (go_big_quiet_want
                       unfold Oper.quiet
                       apply Exists.intro
                       refine ⟨fun w' hw' => ?_, ?_⟩
                       (have y0 := (hw'.cell (p := ⟨X, 0, none⟩) hXk).trans x0
                        have y1 := (hw'.cell (p := ⟨X, 1, none⟩) hXk).trans x1
                        have u0 := (hw'.cell (p := ⟨V, 0, none⟩) hVk).trans v0
                        have u1 := (hw'.cell (p := ⟨V, 1, none⟩) hVk).trans v1
                        go_simp
                        first
                          | (go_at_call 8; with_reducible refine ((HHX.out) _ t (HRK.out _ hw')).mono ?_; rintro e w1 ⟨rfl, hk1⟩; exact ⟨by rw [HB1.out], hw'.trans (hk1.mono hw'.size)⟩)
                          | (go_at_call 8; with_reducible refine ((HHV.out) _ t (HRK.out _ hw')).mono ?_; rintro e w1 ⟨rfl, hk1⟩; exact ⟨by rw [HB2.out], hw'.trans (hk1.mono hw'.size)⟩)
                          | exact rfl)
                       simp only [Act.put, List.setIfInBounds_toArray, List.set_cons_zero, List.set_cons_succ]
                       go_big_quiet_on))
                  refine wpQuiet_nil ?_
                  intro wq hwq
                  go_wp2
                  go_roundw
                  case rel => exact ⟨k + 1, by omega, by go_num, HRK.out _ hwq⟩
                  case measure => simp [intOf]; omega
              · obtain rfl : b1 = false := by simpa [hf1] using hb12
                clear hb12
                refine wp_region_quiet (C := fun w' => Below wk.heap.size wk w') (by kernel_rfl) (by kernel_rfl) ((Below.refl _ _).drew) ?_
                simp only []
                repeat (first
                  | go_big_quiet_skip
                  | (go_big_quiet_want
                     unfold Oper.quiet
                     apply Exists.intro
                     refine ⟨fun w' hw' => ?_, ?_⟩
                     (have y0 := (hw'.cell (p := ⟨X, 0, none⟩) hXk).trans x0
                      have y1 := (hw'.cell (p := ⟨X, 1, none⟩) hXk).trans x1
                      have u0 := (hw'.cell (p := ⟨V, 0, none⟩) hVk).trans v0
                      have u1 := (hw'.cell (p := ⟨V, 1, none⟩) hVk).trans v1
                      go_simp
                      first
                        | (go_at_call 8; with_reducible refine ((HHX.out) _ t (HRK.out _ hw')).mono ?_; rintro e w1 ⟨rfl, hk1⟩; exact ⟨by rw [HB1.out], hw'.trans (hk1.mono hw'.size)⟩)
                        | (go_at_call 8; with_reducible refine ((HHV.out) _ t (HRK.out _ hw')).mono ?_; rintro e w1 ⟨rfl, hk1⟩; exact ⟨by rw [HB2.out], hw'.trans (hk1.mono hw'.size)⟩)
                        | exact rfl)
                     simp only [Act.put, List.setIfInBounds_toArray, List.set_cons_zero, List.set_cons_succ]
                     go_big_quiet_on))
                refine wpQuiet_nil ?_
                intro wq hwq
                go_wp2
                go_roundw
                case rel => exact ⟨k + 1, by omega, by go_num, HRK.out _ hwq⟩
                case measure => simp [intOf]; omega
        · obtain rfl : k = 83 := by omega
          have hki : ¬ ((83 : Nat) : Int) - 3 < 80 := by omega
          have hhl : (holesR N g q).length = q := by unfold holesR; rw [if_pos HGB.out]; simp
          have HHL : Hid (Calls Tryd.prog 9 #[.agg #[.int .i64 N, .slice y q cy]] wk fun e w' => ∃ (hx : Option Addr) (ch : Nat), e = .returned (.slice hx q ch) ∧ OS wk.heap.size w' hx ch (holesR N g q) ∧ Below wk.heap.size wk w') := by
            have := iholes_any N y q cy g er wk (by omega) (HXA.out _ HBK.out).2.2 (HVA.out _ (HXA.out _ HBK.out).1).2.2.2
            rw [hhl] at this
            exact this
          have HHLN : Hid ((holesR N g q).length = q) := hhl
          clear hhl
          go_upto_region 19 with (go_at_call 9; refine (HHL.out).mono ?_; rintro e w8 ⟨hx, ch, rfl, hho, b8⟩)
          have HB8 : Hid (Below w3.heap.size w3 w8) := (HBK.out).trans (b8.mono (HBK.out).size)
          have hsh : SR w8.heap.size w8 hx q (hoF N g) := by
            have h0 := ZS.sr (OS.zs hho)
            rw [HHLN.out] at h0
            refine SR.congr h0 fun i hi => ?_
            unfold holesR; rw [if_pos HGB.out]; simp [hi]
          have HSH : Hid (SR w8.heap.size w8 hx q (hoF N g)) := hsh
          clear hsh hho b8 x0 x1 v0 v1 hzk hXk hVk hki
          go_wp2
          go_loopw [15] (fun i wr => ∃ j : Nat, j ≤ q ∧ i = .int .i64 j ∧ Below w8.heap.size w8 wr) (fun i _ => q - (intOf i).toNat)
          case atStart => exact ⟨0, Nat.zero_le _, rfl, Below.refl _ _⟩
          case round =>
            obtain ⟨j, hj, rfl, hbr⟩ := hrel
            obtain ⟨wj, rfl⟩ : ∃ W, W = wr := ⟨wr, rfl⟩
            have HBJ : Hid (Below w8.heap.size w8 wj) := hbr
            have HB9 : Hid (Below w3.heap.size w3 wj) := (HB8.out).trans (hbr.mono (HB8.out).size)
            obtain ⟨⟨x0, x1⟩, -, -⟩ := HCE.out _ HB9.out
            have hXk : X < wj.heap.size := by have := (HB9.out).size; omega
            have HRK : Hid (∀ U, Below wj.heap.size wj U → Below w3.heap.size w3 U) := fun U h => (HB9.out).trans (h.mono (HB9.out).size)
            by_cases hlt2 : j < q
            · have hji : (j : Int) < (q : Int) := by omega
              have hji0 : ¬ (j : Int) < 0 := by omega
              obtain ⟨bh, oh, hbe, hbl, hcs⟩ := SR.at HSH.out hlt2
              obtain ⟨p0', p1'⟩ := (hcs j hlt2).below hbr hbl
              have hbl' : bh < wj.heap.size := Nat.lt_of_lt_of_le hbl hbr.size
              clear hcs hbr
              subst hbe
              obtain ⟨A, hA⟩ : ∃ A, (hoF N g j).fr = A := ⟨_, rfl⟩
              obtain ⟨D, hD⟩ : ∃ D, (hoF N g j).to = D := ⟨_, rfl⟩
              rw [hA] at p0'
              rw [hD] at p1'
              have hok := (HPG.out).2.2.2
              have hA' : endF N g j = A := hA
              have hD' : (g j).fr = D := hD
              have hAD := (hok j hlt2).1
              rw [hA', hD'] at hAD
              have hbd := end_bd HPG.out j (by omega)
              rw [hA'] at hbd
              have hgd := (hok j hlt2).2
              rw [hD'] at hgd
              have hz1 : hasB N g q A = false := by
                unfold hasB; rw [HGB.out, decide_eq_false (gap_no hok hlt2 (by omega) (by omega))]; rfl
              have hz2 : hasB N g q (D - 1) = false := by
                unfold hasB; rw [HGB.out, decide_eq_false (gap_no hok hlt2 (by omega) (by omega))]; rfl
              have hz3 : hasB N g q D = true := by
                unfold hasB; rw [HGB.out, ← hD', decide_eq_true (from_has hok hlt2)]; rfl
              have HZ1 : Hid (hasB N g q A = false) := hz1
              have HZ2 : Hid (hasB N g q (D - 1) = false) := hz2
              have HZ3 : Hid (hasB N g q D = true) := hz3
              have hw1 : IntKind.i64.wrap (D - 1) = D - 1 := by rw [IntKind.wrap_i64]; omega
              clear hz1 hz2 hz3 hA hD hA' hD' hok hAD hbd hgd
              go_wp2
              refine wp_region_quiet (C := fun w' => Below wj.heap.size wj w') (by kernel_rfl) (by kernel_rfl) ((Below.refl _ _).drew) ?_
              simp only []
              repeat (first
                | go_big_quiet_skip
                | (go_big_quiet_want
                   unfold Oper.quiet
                   apply Exists.intro
                   refine ⟨fun w' hw' => ?_, ?_⟩
                   (have y0 := (hw'.cell (p := ⟨X, 0, none⟩) hXk).trans x0
                    have y1 := (hw'.cell (p := ⟨X, 1, none⟩) hXk).trans x1
                    have u0 := (hw'.cell (p := ⟨bh, oh + j * 2, none⟩) hbl').trans p0'
                    have u1 := (hw'.cell (p := ⟨bh, oh + j * 2 + 1, none⟩) hbl').trans p1'
                    go_simp
                    first
                      | (go_at_call 8; with_reducible refine ((HHX.out) _ A (HRK.out _ hw')).mono ?_; rintro e w1 ⟨rfl, hk1⟩; exact ⟨by rw [HZ1.out], hw'.trans (hk1.mono hw'.size)⟩)
                      | (go_at_call 8; with_reducible refine ((HHX.out) _ (D - 1) (HRK.out _ hw')).mono ?_; rintro e w1 ⟨rfl, hk1⟩; exact ⟨by rw [HZ2.out], hw'.trans (hk1.mono hw'.size)⟩)
                      | (go_at_call 8; with_reducible refine ((HHX.out) _ D (HRK.out _ hw')).mono ?_; rintro e w1 ⟨rfl, hk1⟩; exact ⟨by rw [HZ3.out], hw'.trans (hk1.mono hw'.size)⟩)
                      | exact rfl)
                   simp only [Act.put, List.setIfInBounds_toArray, List.set_cons_zero, List.set_cons_succ]
                   go_big_quiet_on))
              refine wpQuiet_nil ?_
              intro wq hwq
              go_wp2
              go_roundw
              case rel => exact ⟨j + 1, by omega, by go_num, (HBJ.out).trans (hwq.mono (HBJ.out).size)⟩
              case measure => simp [intOf]; omega
            · obtain rfl : j = q := by omega
              have hnn : hasB N g j N = false := by unfold hasB; rw [HGB.out, decide_eq_false (next_no (HPG.out).2.2.2)]; rfl
              have HNN : Hid (hasB N g j N = false) := hnn
              clear hbr hnn
              go_wp2_with (go_at_call 8; refine ((HHX.out) _ N HB9.out).mono ?_; rintro e w9 ⟨rfl, b9⟩; rw [HNN.out])
              go_ret
              exact ⟨rfl, (HVA.out _ (HXA.out _ ((HB9.out).trans (b9.mono (HB9.out).size))).1).2.2.1⟩

section
variable {H : Type} {enc : TypeId × Value → H} {W : World} {base : Nat} {sp : Nat → Bool} {held : Bool}

set_option maxRecDepth 100000 in
theorem openInt {n : Nat} {c : Value} {y : DataW H × List MemPlace} (h : DataW.trod enc Tryd.prog W base sp held n 3 [c] = some y) : ∃ z : Int, c = .int .i64 z ∧ (-9223372036854775808 ≤ z ∧ z ≤ 9223372036854775807) := by
  obtain ⟨z, h1, _, hw⟩ := DataW.trod_int Tryd.underlying3 h
  simp only [List.cons.injEq, and_true] at h1
  exact ⟨z, h1, bd hw⟩

end

set_option maxRecDepth 100000 in
theorem lifted (os : Os) (started : os.Started) (H : Type) (enc : TypeId × Value → H) :
    ReturnsInHanded {} Tryd.checked os 3 .any (fun w args => (Rows.fnRecvsSpec.pre enc Tryd.prog Tryd.f3 [] false w args ∧ laidMetH Tryd.prog Rows.fnRecvsRow.laid w) ∧ sizedMet enc Tryd.prog Tryd.f3 (OpenSpec.ofChange Rows.fnRecvsSpec) false w args)
      (Rows.fnRecvsSpec.post enc Tryd.prog Tryd.f3 false true false false) := by
  refine returnsInHanded_of_change_and (C := Tryd.checked) (X := fun w _ => laidMetH Tryd.prog Rows.fnRecvsRow.laid w) (fun _ _ _ hh h => h.of_heap hh) own started (by kernel_rfl) Tryd.func3
    (ChangeSpec.witness_shaped (enc := enc) (C := Tryd.checked) (os := os) (X := fun w _ => laidMetH Tryd.prog Rows.fnRecvsRow.laid w) false (World.doorLaid Tryd.prog 400 os) #[.slice none 0 0] 8 rfl (World.shaped_of_RefB (by kernel_rfl) (by kernel_rfl)) (by kernel_rfl) (by kernel_rfl) (by kernel_rfl) (door_met os _)) ?_
  intro W base args ds gs before hval0 hW _ _ hL _
  have hval : ∀ (j : Nat) t v, Tryd.f3.params[j]? = some t → args[j]? = some v → Value.okWide Tryd.prog W .any base t v := hval0
  have hW' := hW
  obtain ⟨p, q, hA0, hV0, rfl, hfz, hnd⟩ := hW
  have hA : DataW.TrodAll enc Tryd.prog W 0 (fun _ => true) true Tryd.f3.params.toList args.toList ds p := hA0
  have hV : DataW.TrodVars enc Tryd.prog W (fun _ => true) ["loop.example/g00453/impl.errNoSpan"] gs q := hV0
  have hV1 := hV
  rw [Tryd.params3] at hA hval
  obtain ⟨v0, vs0, d0, ds0, p0, q0, hargs, rfl, rfl, h0, tl0⟩ := trodAll_cons hA
  obtain ⟨rfl, rfl, rfl⟩ := trodAll_nil tl0
  obtain rfl : args = #[v0] := by cases args; simp_all
  obtain ⟨gg, tt, gcs, gfuel, gd, gp, rfl, _⟩ := trodVars_one hV1
  have k0 := h0
  have lt0 : ∀ x ∈ p0, x.block < W.heap.size := by obtain ⟨m, hm⟩ := k0; exact DataW.trod_lt m _ _ _ hm
  obtain ⟨a0, len0, cap0, rfl⟩ := okWide_slice Tryd.underlying22 (hval 0 22 v0 rfl rfl)
  obtain ⟨z0, hin0⟩ : ∃ zs, IsRow .u8 W a0 len0 cap0 zs := by
    obtain ⟨fuel, hf⟩ := h0
    rcases open_ints Tryd.underlying22 Tryd.underlying5 (by kernel_rfl) hf with ⟨hcs, _⟩ | ⟨x, l, c, zs, hcs, _, hl, hm, hz, _, hcell, hwz⟩
    · simp [Value.cells] at hcs
      obtain ⟨rfl, rfl, rfl⟩ := hcs
      exact ⟨[], .inl ⟨rfl, rfl, rfl, rfl⟩⟩
    · simp [Value.cells] at hcs
      obtain ⟨rfl, rfl, rfl⟩ := hcs
      exact ⟨zs, .inr ⟨_, rfl, hl, hm, by simpa using hz, hcell, hwz⟩⟩
  clear hA0 hV0 hval0
  refine (walk a0 len0 cap0 z0 W hin0 (errs_of hL)).mono fun e W' ⟨he, bel⟩ => ?_
  subst he
  exact ⟨_, rfl, _, _, _, [], _, _, hW', trodAll_mk1 (shut_bool Tryd.underlying4 _), (trodAll_cons_mk (Below.trod laidOut (by kernel_rfl) (of_decide_eq_true (by kernel_rfl)) k0 bel lt0) trodAll_mk0), Below.trodVars laidOut bel (by kernel_rfl) hV, bel.frame _, fun h => by cases h⟩

theorem over : Rows.FnRecvsSaid :=
  OpenClaim.holds_of_wide 3 Tryd.f3 rfl rfl rfl rfl rfl rfl rfl ⟨rfl, rfl, rfl, rfl, rfl⟩ rfl rfl rfl rfl rfl (by kernel_rfl) Tryd.func3 (by kernel_rfl)
    (of_decide_eq_true (by kernel_rfl)) (by unfold Func.isWrapper; first | (rw [if_pos (by decide +kernel)]; kernel_rfl) | (rw [if_neg (by decide +kernel)]; exact ⟨rfl, rfl⟩))
    (fun os started H enc _ => lifted os started H enc)

theorem plain (f : FuncId) (fn : Func) (hf : Tryd.pinned.checked.prog.funcNamed "loop.example/g00453/laws.FnRecvs" = some f) (hfn : Tryd.pinned.checked.prog.funcs[f]? = some fn) :
    false = Tryd.pinned.checked.prog.looks [] ∧ ∀ (j : Nat) t, fn.params[j]? = some t → Tryd.pinned.checked.prog.wantsStandIn t = false := by
  obtain rfl : f = 3 := Option.some.inj ((show Tryd.prog.funcNamed "loop.example/g00453/laws.FnRecvs" = some 3 by kernel_rfl).symm.trans hf) |>.symm
  obtain rfl : fn = Tryd.f3 := (Option.some.inj (Tryd.func3.symm.trans hfn)).symm
  refine ⟨by kernel_rfl, fun j t ht => ?_⟩
  rw [Tryd.params3] at ht
  have hm := Array.mem_of_getElem? ht
  have hall : (Tryd.f3.params.toList.all fun u => !Tryd.prog.wantsStandIn u) = true := by kernel_rfl
  rw [Tryd.params3] at hall
  exact (show Tryd.prog.wantsStandIn t = false by simpa using List.all_eq_true.1 hall t (by simpa using hm))

theorem proved : Rows.FnRecvsCardSaid :=
  Claim7.holds_tied_plain_at .later [] _ _ _ _ over (fun _ h => by cases h) (by kernel_rfl) (fun _ h => by cases h) fnRecvs_row_tie rfl ⟨rfl, rfl⟩ (by kernel_rfl) rfl plain (by kernel_rfl)
end Go.Proofs.YtfghnfanimpjjaaDoor.fnRecvs
namespace Go.Proofs.YtfghnfanimpjjaaDoor
theorem fnRecvs_holds : Rows.FnRecvsCardSaid := fnRecvs.proved
#print axioms fnRecvs_holds
end Go.Proofs.YtfghnfanimpjjaaDoor
