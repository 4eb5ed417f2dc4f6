/-
  Whatever bytes the law FnCodels draws its CoDel, its queue and its moment from, it returns true and leaves the bytes as they were; no condition.
-/
import Derived.Test.YthdlpgehojdhkacRows
import Derived.WalkKit
import Derived.ProofKit
import Derived.OpenShut
import Derived.BigQuiet
import Derived.Deep.QuietTactic
import Derived.Deep.Quiet
import Derived.Deep.Cut
import Derived.Test.YthdlpgehojdhkacMarked2
import Derived.Test.YthdlpgehojdhkacSamePk
import Derived.Test.YthdlpgehojdhkacLateI
import Derived.Test.YthdlpgehojdhkacControl
import Derived.Test.YthdlpgehojdhkacCodelsN
import Derived.Test.YthdlpgehojdhkacDrawPop
import Derived.ShutString
import Derived.ChangeOld
import Derived.Below
namespace Go.Proofs.Ythdlpgehojdhkac.fnCodels
open Go.ChangeShapes Go.WideShapes Go.ChangeAt Go.RowKit
open Go.ChangeMaps (open_string shut_string)
set_option linter.unusedVariables false

theorem own : ownKnob Try.prog.godebug = none := by kernel_rfl
theorem laidOut : laidOutB Try.prog = true := by kernel_rfl

/-- A slice of integers that came in. -/
def IsRow (k : IntKind) (w : World) (a : Option Addr) (len cap : Nat) (zs : List Int) : Prop :=
  (a = none ∧ len = 0 ∧ cap = 0 ∧ zs = []) ∨
  ∃ x, a = some x ∧ len ≤ cap ∧ cap ≤ maxLen ∧ zs.length = cap ∧ (∀ i, i < zs.length → w.cell? (x.add i) = some (.int k (zs.getD i 0))) ∧ ∀ n ∈ zs, (Lit.int k n).wf = true

theorem code_of {w : World} {a : Option Addr} {len cap : Nat} {zs : List Int} (h : IsRow .u8 w a len cap zs) : len ≤ 9223372036854775807 ∧ Code w w.heap.size a len := by
  rcases h with ⟨rfl, rfl, rfl, rfl⟩ | ⟨x, rfl, hl, hm, hz, hcell, hwz⟩
  · exact ⟨by omega, .inl rfl⟩
  · unfold maxLen at hm
    refine ⟨by omega, ?_⟩
    by_cases h0 : len = 0
    · exact .inl h0
    · obtain ⟨b, off, rfl, hc⟩ := ints_at hcell (by omega)
      refine .inr ⟨b, off, rfl, World.block_lt_of_cell? w _ (hc 0 (by omega)), fun k hk => ?_⟩
      have hb := bounds_u8 (hwz (zs.getD k 0) (by rw [List.getD_eq_getElem?_getD, List.getElem?_eq_getElem (by omega)]; exact List.getElem_mem _))
      exact ⟨zs.getD k 0, hb.1, hb.2, hc k (by omega)⟩


theorem con_55 : conF 5 100 4 = 55 := by
  have : conF 5 100 4 = nextF 5 100 4 := rfl
  rw [this]; unfold nextF; rw [show max (4 : Int) 1 = 4 by decide, invF_4]; decide
theorem PR.shift {n₀ : Nat} {w : World} {b off n : Nat} {f : Nat → Pk} (h : ∀ i, i < n → PAt w b (off + i * 6) (f i)) (hb : b < n₀) (m : Nat) (hm : m ≤ n) : PR n₀ w (some ⟨b, off + m * 6, none⟩) (n - m) (shiftF f m) := by
  refine .inr ⟨b, off + m * 6, rfl, hb, fun i hi => ?_⟩
  have := h (m + i) (by omega)
  rw [show off + m * 6 + i * 6 = off + (m + i) * 6 by omega]
  exact this

set_option maxRecDepth 100000 in
set_option maxHeartbeats 20000000 in
theorem walk (a0 : Option Addr) (len0 cap0 : Nat) (z0 : List Int) (w : World) (w0 : IsRow .u8 w a0 len0 cap0 z0) :
    Calls Try.prog 5 #[.slice a0 len0 cap0] w fun e w' => e = .returned (.bool true) ∧ Below w.heap.size w w' := by
  obtain ⟨hl, hcode⟩ := code_of w0
  clear w0
  have HC : Hid (Code w w.heap.size a0 len0) := hcode
  clear hcode
  have C55 : Hid _ := con_55
  go_enter Try.func5, Try.ntmps5
  go_wp2_with fail
  refine (drawCodelPop a0 len0 cap0 _ hl HC.out).mono ?_
  rintro e w1 ⟨r, x, n, k, lim, now, g, rfl, hlow, zx, hnk, hn13, hsm, ⟨l0, l1⟩, ⟨n0, n1⟩, b4⟩
  clear HC
  go_upto_region 2 with fail
  obtain ⟨V, hV⟩ : ∃ V, w1.heap.size = V := ⟨_, rfl⟩
  obtain ⟨F, hF⟩ : ∃ F, V + 1 = F := ⟨_, rfl⟩
  obtain ⟨wv, hwv⟩ : ∃ y, (w1.alloc (.cells (cdCells r) 38)).alloc (.cells #[.slice x n k, .int .i64 lim] 41) = y := ⟨_, rfl⟩
  have hbv : Below w1.heap.size w1 wv := by rw [← hwv]; exact ((Below.refl _ _).alloc (Nat.le_refl _) _).alloc (by simp) _
  have sv : Sits wv V (cdCells r) 38 := by rw [← hwv]; exact (Sits.new' hV).alloc _
  have sf : Sits wv F #[.slice x n k, .int .i64 lim] 41 := by rw [← hwv]; exact Sits.new' (by simp; omega)
  have hp : PR wv.heap.size wv x n g := (PR.below zx.pr hbv).mono hbv.size
  replace b4 : Below w.heap.size w wv := b4.trans (hbv.mono b4.size)
  rw [hwv, hV, hF]
  clear hwv hV hbv zx hF
  obtain ⟨C, hC⟩ : ∃ C, popC r g n lim now = C := ⟨_, rfl⟩
  obtain ⟨M, hM⟩ : ∃ M, popM r g n lim now = M := ⟨_, rfl⟩
  obtain ⟨K, hK⟩ : ∃ K, popK r g n lim now = K := ⟨_, rfl⟩
  obtain ⟨T, hT⟩ : ∃ T, popT r g n lim now = T := ⟨_, rfl⟩
  obtain ⟨ok, hok⟩ : ∃ o, popO r g n lim now = o := ⟨_, rfl⟩
  obtain ⟨U, hU⟩ : ∃ U, popU r g n lim now = U := ⟨_, rfl⟩
  obtain ⟨Q, hQ⟩ : ∃ Q, popQ r g n lim now = Q := ⟨_, rfl⟩
  obtain ⟨lt, hlt⟩ : ∃ q, lateQ r g n lim now = q := ⟨_, rfl⟩
  obtain ⟨was, hwas⟩ : ∃ b, (lookB r g n lim now && lateB r g n now) = b := ⟨_, rfl⟩
  obtain ⟨v0, v1, v2, v3, v4, v5, v6⟩ := cd_cells sv
  have f0 : wv.cell? ⟨F, 0, none⟩ = some (.slice x n k) := sf.cell 0
  have f1 : wv.cell? ⟨F, 1, none⟩ = some (.int .i64 lim) := sf.cell 1
  go_wp2_with fail
  refine (icodelPop_cap r x n k g lim now _ (by omega) hnk hp (by omega) (by omega)).mono ?_
  rintro e w2 ⟨xg, kg, yd, ld, rfl, ⟨Z, hZ, hZ2, zd, zg⟩, b2, hkg, hld⟩
  rw [hC, hM, hK, hT, hok, hU]
  rw [hM] at zd hld
  rw [hK, hQ] at zg
  rw [hK] at hkg
  replace sv := sv.below b2 sv.lt
  replace sf := sf.below b2 sf.lt
  replace hp := (PR.below hp b2).mono b2.size
  replace b4 := b4.trans (b2.mono b4.size)
  clear b2 v0 v1 v2 v3 v4 v5 v6 f0 f1
  have hd := zd.pr
  have hgl := zg.pr
  clear zd zg hZ hZ2
  go_upto_region 3 with fail
  obtain ⟨X, hX⟩ : ∃ X, w2.heap.size = X := ⟨_, rfl⟩
  obtain ⟨G, hG⟩ : ∃ G, X + 1 = G := ⟨_, rfl⟩
  obtain ⟨Y, hY⟩ : ∃ Y, G + 1 = Y := ⟨_, rfl⟩
  obtain ⟨wx, hwx⟩ : ∃ z, ((w2.alloc (.cells (cdCells C) 38)).alloc (.cells #[.slice xg K kg, .int .i64 T] 41)).alloc (.cells (pkCells U) 45) = z := ⟨_, rfl⟩
  have hbx : Below w2.heap.size w2 wx := by rw [← hwx]; exact (((Below.refl _ _).alloc (Nat.le_refl _) _).alloc (by simp) _).alloc (by simp; omega) _
  have sx : Sits wx X (cdCells C) 38 := by rw [← hwx]; exact ((Sits.new' hX).alloc _).alloc _
  have sg : Sits wx G #[.slice xg K kg, .int .i64 T] 41 := by rw [← hwx]; exact (Sits.new' (by simp; omega)).alloc _
  have sy : Sits wx Y (pkCells U) 45 := by rw [← hwx]; exact Sits.new' (by simp; omega)
  replace sv := sv.below hbx sv.lt
  replace sf := sf.below hbx sf.lt
  replace hp := (PR.below hp hbx).mono hbx.size
  replace hd := (PR.below hd hbx).mono hbx.size
  replace hgl := (PR.below hgl hbx).mono hbx.size
  replace b4 := b4.trans (hbx.mono b4.size)
  rw [hwx, hX, hG, hY]
  clear hwx hbx hX hG hY
  obtain ⟨v0, v1, v2, v3, v4, v5, v6⟩ := cd_cells sv
  have f0 : wx.cell? ⟨F, 0, none⟩ = some (.slice x n k) := sf.cell 0
  have f1 : wx.cell? ⟨F, 1, none⟩ = some (.int .i64 lim) := sf.cell 1
  go_wp2_with fail
  refine (ilate_any r x n k g lim now _ (by omega) hnk hp (by omega) (by omega)).mono ?_
  rintro e w3 ⟨rfl, b3⟩
  rw [hlt, hwas]
  replace sv := sv.below b3 sv.lt
  replace sf := sf.below b3 sf.lt
  replace sx := sx.below b3 sx.lt
  replace sg := sg.below b3 sg.lt
  replace sy := sy.below b3 sy.lt
  replace hp := (PR.below hp b3).mono b3.size
  replace hd := (PR.below hd b3).mono b3.size
  replace hgl := (PR.below hgl b3).mono b3.size
  replace b4 := b4.trans (b3.mono b4.size)
  clear b3 v0 v1 v2 v3 v4 v5 v6 f0 f1
  go_upto_region 4 with fail
  obtain ⟨J, hJ⟩ : ∃ X, w3.heap.size = X := ⟨_, rfl⟩
  obtain ⟨wb, hwb⟩ : ∃ z, w3.alloc (.cells (cdCells lt) 38) = z := ⟨_, rfl⟩
  have hbb : Below w3.heap.size w3 wb := by rw [← hwb]; exact (Below.refl _ _).alloc (Nat.le_refl _) _
  have sl : Sits wb J (cdCells lt) 38 := by rw [← hwb]; exact Sits.new' hJ
  replace sv := sv.below hbb sv.lt
  replace sf := sf.below hbb sf.lt
  replace sx := sx.below hbb sx.lt
  replace sg := sg.below hbb sg.lt
  replace sy := sy.below hbb sy.lt
  replace hp := (PR.below hp hbb).mono hbb.size
  replace hd := (PR.below hd hbb).mono hbb.size
  replace hgl := (PR.below hgl hbb).mono hbb.size
  replace b4 := b4.trans (hbb.mono b4.size)
  rw [hwb, hJ]
  clear hwb hbb hJ
  have HA : Hid (∀ W, Below wb.heap.size wb W → (Sits W V (cdCells r) 38 ∧ Sits W F #[.slice x n k, .int .i64 lim] 41 ∧ Sits W X (cdCells C) 38 ∧ Sits W G #[.slice xg K kg, .int .i64 T] 41 ∧ Sits W Y (pkCells U) 45 ∧ Sits W J (cdCells lt) 38) ∧ PR W.heap.size W x n g ∧ PR W.heap.size W yd M g ∧ PR W.heap.size W xg K Q ∧ Below w.heap.size w W) := fun W h => ⟨⟨sv.below h sv.lt, sf.below h sf.lt, sx.below h sx.lt, sg.below h sg.lt, sy.below h sy.lt, sl.below h sl.lt⟩, (PR.below hp h).mono h.size, (PR.below hd h).mono h.size, (PR.below hgl h).mono h.size, b4.trans (h.mono b4.size)⟩
  have HB : Hid (Below wb.heap.size wb wb) := Below.refl _ _
  clear sv sf sx sg sy sl hp hd hgl b4
  obtain ⟨⟨sv, sf, sx, sg, sy, sl⟩, -, -, -, -⟩ := HA.out _ HB.out
  obtain ⟨v0, v1, v2, v3, v4, v5, v6⟩ := cd_cells sv
  have f0 : wb.cell? ⟨F, 0, none⟩ = some (.slice x n k) := sf.cell 0
  have f1 : wb.cell? ⟨F, 1, none⟩ = some (.int .i64 lim) := sf.cell 1
  clear sv sf sx sg sy sl
  have g0 : wb.cell? ⟨G, 0, none⟩ = some (.slice xg K kg) := (HA.out _ HB.out).1.2.2.2.1.cell 0
  cases hlk : lookB r g n lim now
  case false =>
    have z1 : M = 0 := by rw [← hM]; unfold popM; rw [hlk]; rfl
    have z2 : K = 0 := by rw [← hK]; unfold popK; rw [hlk]; rfl
    have z3 : ok = false := by rw [← hok]; unfold popO; rw [hlk]; rfl
    have z4 : was = false := by rw [← hwas, hlk]; rfl
    clear hC hM hK hT hok hU hQ hlt hwas
    have z1' : ((M : Int) == 0) = true := by simp [z1]
    have z2' : ((K : Int) == 0) = true := by simp [z2]
    clear z1 z2
    subst z3 z4
    cases hg : r.good
    case false =>
      have HG : Hid (r.good = false) := hg
      clear hg hlk
      go_wp2_with (first | (go_at_call 19; refine (scodelOk_any r _).mono ?_; rintro e w15 ⟨rfl, k5⟩; rw [HG.out]; have HB15 : Hid (Below wb.heap.size wb w15) := (HB.out).trans (k5.1.mono (HB.out).size); clear v0 v1 v2 v3 v4 v5 v6 f0 f1 g0 HB; have HB := HB15; clear HB15; obtain ⟨⟨sv, sf, sx, sg, sy, sl⟩, -, -, -, -⟩ := HA.out _ HB.out; obtain ⟨v0, v1, v2, v3, v4, v5, v6⟩ := cd_cells sv; have f0 : w15.cell? ⟨F, 0, none⟩ = some (.slice x n k) := sf.cell 0; have f1 : w15.cell? ⟨F, 1, none⟩ = some (.int .i64 lim) := sf.cell 1; have g0 : w15.cell? ⟨G, 0, none⟩ = some (.slice xg K kg) := sg.cell 0; clear sv sf sx sg sy sl) | (go_at_call 15; refine (icontrol_any _ _ _ _).mono ?_; rintro e w19 ⟨rfl, hk⟩; rw [C55.out]; have HB9 : Hid (Below wb.heap.size wb w19) := (HB.out).trans (hk.1.mono (HB.out).size); clear HB hk; have HB := HB9; clear HB9))
      go_ret
      exact ⟨rfl, (HA.out _ HB.out).2.2.2.2⟩
    case true =>
    have HG : Hid (r.good = true) := hg
    cases hfb : fifoB g n lim
    case false =>
      have HFB : Hid (fifoB g n lim = false) := hfb
      clear hg hfb hlk
      go_wp2_with (first | (go_at_call 19; refine (scodelOk_any r _).mono ?_; rintro e w15 ⟨rfl, k5⟩; rw [HG.out]; have HB15 : Hid (Below wb.heap.size wb w15) := (HB.out).trans (k5.1.mono (HB.out).size); clear v0 v1 v2 v3 v4 v5 v6 f0 f1 g0 HB; have HB := HB15; clear HB15; obtain ⟨⟨sv, sf, sx, sg, sy, sl⟩, -, -, -, -⟩ := HA.out _ HB.out; obtain ⟨v0, v1, v2, v3, v4, v5, v6⟩ := cd_cells sv; have f0 : w15.cell? ⟨F, 0, none⟩ = some (.slice x n k) := sf.cell 0; have f1 : w15.cell? ⟨F, 1, none⟩ = some (.int .i64 lim) := sf.cell 1; have g0 : w15.cell? ⟨G, 0, none⟩ = some (.slice xg K kg) := sg.cell 0; clear sv sf sx sg sy sl) | (go_at_call 20; refine (sfifoOk_any x n k g lim _ (by omega) hnk (HA.out _ HB.out).2.1).mono ?_; rintro e w16 ⟨rfl, k6⟩; rw [HFB.out]; have HB16 : Hid (Below wb.heap.size wb w16) := (HB.out).trans (k6.mono (HB.out).size); clear v0 v1 v2 v3 v4 v5 v6 f0 f1 g0 HB; have HB := HB16; clear HB16; obtain ⟨⟨sv, sf, sx, sg, sy, sl⟩, -, -, -, -⟩ := HA.out _ HB.out; obtain ⟨v0, v1, v2, v3, v4, v5, v6⟩ := cd_cells sv; have f0 : w16.cell? ⟨F, 0, none⟩ = some (.slice x n k) := sf.cell 0; have f1 : w16.cell? ⟨F, 1, none⟩ = some (.int .i64 lim) := sf.cell 1; have g0 : w16.cell? ⟨G, 0, none⟩ = some (.slice xg K kg) := sg.cell 0; clear sv sf sx sg sy sl) | (go_at_call 15; refine (icontrol_any _ _ _ _).mono ?_; rintro e w19 ⟨rfl, hk⟩; rw [C55.out]; have HB9 : Hid (Below wb.heap.size wb w19) := (HB.out).trans (hk.1.mono (HB.out).size); clear HB hk; have HB := HB9; clear HB9))
      go_ret
      exact ⟨rfl, (HA.out _ HB.out).2.2.2.2⟩
    case true =>
    have HFB : Hid (fifoB g n lim = true) := hfb
    have hcs : now < 0 ∨ (¬ now < 0 ∧ 1000000000000 < now) ∨ (¬ now < 0 ∧ ¬ 1000000000000 < now ∧ 0 < n ∧ now < (g (n - 1)).tm) := by
      by_cases c1 : now < 0
      · exact .inl c1
      · by_cases c2 : 1000000000000 < now
        · exact .inr (.inl ⟨c1, c2⟩)
        · refine .inr (.inr ⟨c1, c2, ?_⟩)
          by_cases c3 : 0 < n ∧ now < (g (n - 1)).tm
          · exact c3
          · exfalso
            have : lookB r g n lim now = true := by
              unfold lookB mayB inB
              rw [hg, hfb]
              simp only [Bool.true_and, Bool.and_eq_true, decide_eq_true_eq]
              exact ⟨by omega, by omega⟩
            rw [hlk] at this
            cases this
    clear hg hfb hlk
    rcases hcs with c1 | ⟨c1, c2⟩ | ⟨c1, c2, c3, c4⟩
    · go_wp2_with (first | (go_at_call 19; refine (scodelOk_any r _).mono ?_; rintro e w15 ⟨rfl, k5⟩; rw [HG.out]; have HB15 : Hid (Below wb.heap.size wb w15) := (HB.out).trans (k5.1.mono (HB.out).size); clear v0 v1 v2 v3 v4 v5 v6 f0 f1 g0 HB; have HB := HB15; clear HB15; obtain ⟨⟨sv, sf, sx, sg, sy, sl⟩, -, -, -, -⟩ := HA.out _ HB.out; obtain ⟨v0, v1, v2, v3, v4, v5, v6⟩ := cd_cells sv; have f0 : w15.cell? ⟨F, 0, none⟩ = some (.slice x n k) := sf.cell 0; have f1 : w15.cell? ⟨F, 1, none⟩ = some (.int .i64 lim) := sf.cell 1; have g0 : w15.cell? ⟨G, 0, none⟩ = some (.slice xg K kg) := sg.cell 0; clear sv sf sx sg sy sl) | (go_at_call 20; refine (sfifoOk_any x n k g lim _ (by omega) hnk (HA.out _ HB.out).2.1).mono ?_; rintro e w16 ⟨rfl, k6⟩; rw [HFB.out]; have HB16 : Hid (Below wb.heap.size wb w16) := (HB.out).trans (k6.mono (HB.out).size); clear v0 v1 v2 v3 v4 v5 v6 f0 f1 g0 HB; have HB := HB16; clear HB16; obtain ⟨⟨sv, sf, sx, sg, sy, sl⟩, -, -, -, -⟩ := HA.out _ HB.out; obtain ⟨v0, v1, v2, v3, v4, v5, v6⟩ := cd_cells sv; have f0 : w16.cell? ⟨F, 0, none⟩ = some (.slice x n k) := sf.cell 0; have f1 : w16.cell? ⟨F, 1, none⟩ = some (.int .i64 lim) := sf.cell 1; have g0 : w16.cell? ⟨G, 0, none⟩ = some (.slice xg K kg) := sg.cell 0; clear sv sf sx sg sy sl) | (go_at_call 15; refine (icontrol_any _ _ _ _).mono ?_; rintro e w19 ⟨rfl, hk⟩; rw [C55.out]; have HB9 : Hid (Below wb.heap.size wb w19) := (HB.out).trans (hk.1.mono (HB.out).size); clear HB hk; have HB := HB9; clear HB9))
      go_ret
      exact ⟨rfl, (HA.out _ HB.out).2.2.2.2⟩
    · go_wp2_with (first | (go_at_call 19; refine (scodelOk_any r _).mono ?_; rintro e w15 ⟨rfl, k5⟩; rw [HG.out]; have HB15 : Hid (Below wb.heap.size wb w15) := (HB.out).trans (k5.1.mono (HB.out).size); clear v0 v1 v2 v3 v4 v5 v6 f0 f1 g0 HB; have HB := HB15; clear HB15; obtain ⟨⟨sv, sf, sx, sg, sy, sl⟩, -, -, -, -⟩ := HA.out _ HB.out; obtain ⟨v0, v1, v2, v3, v4, v5, v6⟩ := cd_cells sv; have f0 : w15.cell? ⟨F, 0, none⟩ = some (.slice x n k) := sf.cell 0; have f1 : w15.cell? ⟨F, 1, none⟩ = some (.int .i64 lim) := sf.cell 1; have g0 : w15.cell? ⟨G, 0, none⟩ = some (.slice xg K kg) := sg.cell 0; clear sv sf sx sg sy sl) | (go_at_call 20; refine (sfifoOk_any x n k g lim _ (by omega) hnk (HA.out _ HB.out).2.1).mono ?_; rintro e w16 ⟨rfl, k6⟩; rw [HFB.out]; have HB16 : Hid (Below wb.heap.size wb w16) := (HB.out).trans (k6.mono (HB.out).size); clear v0 v1 v2 v3 v4 v5 v6 f0 f1 g0 HB; have HB := HB16; clear HB16; obtain ⟨⟨sv, sf, sx, sg, sy, sl⟩, -, -, -, -⟩ := HA.out _ HB.out; obtain ⟨v0, v1, v2, v3, v4, v5, v6⟩ := cd_cells sv; have f0 : w16.cell? ⟨F, 0, none⟩ = some (.slice x n k) := sf.cell 0; have f1 : w16.cell? ⟨F, 1, none⟩ = some (.int .i64 lim) := sf.cell 1; have g0 : w16.cell? ⟨G, 0, none⟩ = some (.slice xg K kg) := sg.cell 0; clear sv sf sx sg sy sl) | (go_at_call 15; refine (icontrol_any _ _ _ _).mono ?_; rintro e w19 ⟨rfl, hk⟩; rw [C55.out]; have HB9 : Hid (Below wb.heap.size wb w19) := (HB.out).trans (hk.1.mono (HB.out).size); clear HB hk; have HB := HB9; clear HB9))
      go_ret
      exact ⟨rfl, (HA.out _ HB.out).2.2.2.2⟩
    · obtain ⟨m, hm⟩ : ∃ m, n - 1 = m := ⟨_, rfl⟩
      rw [hm] at c4
      have hmi : (n : Int) - 1 = (m : Int) := by omega
      have hmw : IntKind.i64.wrap (m : Int) = (m : Int) := by rw [IntKind.wrap_i64]; omega
      have hml : (m : Int) < (n : Int) := by omega
      have c3' : (0 : Int) < (n : Int) := by omega
      obtain ⟨bb, off, rfl, hbl, hcs⟩ := PR.at (HA.out _ HB.out).2.1 c3
      have HQ4 : Hid (∀ W, Below wb.heap.size wb W → W.cell? ⟨bb, off + m * 6 + 4, none⟩ = some (.int .i64 (g m).tm)) := fun W h => (PAt.below (hcs m (by omega)) h hbl).2.2.2.2.1
      clear hcs hm
      go_wp2_with (first | (go_at_call 19; refine (scodelOk_any r _).mono ?_; rintro e w15 ⟨rfl, k5⟩; rw [HG.out]; have HB15 : Hid (Below wb.heap.size wb w15) := (HB.out).trans (k5.1.mono (HB.out).size); clear v0 v1 v2 v3 v4 v5 v6 f0 f1 g0 HB; have HB := HB15; clear HB15; obtain ⟨⟨sv, sf, sx, sg, sy, sl⟩, -, -, -, -⟩ := HA.out _ HB.out; obtain ⟨v0, v1, v2, v3, v4, v5, v6⟩ := cd_cells sv; have f0 : w15.cell? ⟨F, 0, none⟩ = some (.slice (some ⟨bb, off, none⟩) n k) := sf.cell 0; have f1 : w15.cell? ⟨F, 1, none⟩ = some (.int .i64 lim) := sf.cell 1; have g0 : w15.cell? ⟨G, 0, none⟩ = some (.slice xg K kg) := sg.cell 0; clear sv sf sx sg sy sl) | (go_at_call 20; refine (sfifoOk_any (some ⟨bb, off, none⟩) n k g lim _ (by omega) hnk (HA.out _ HB.out).2.1).mono ?_; rintro e w16 ⟨rfl, k6⟩; rw [HFB.out]; have HB16 : Hid (Below wb.heap.size wb w16) := (HB.out).trans (k6.mono (HB.out).size); clear v0 v1 v2 v3 v4 v5 v6 f0 f1 g0 HB; have HB := HB16; clear HB16; obtain ⟨⟨sv, sf, sx, sg, sy, sl⟩, -, -, -, -⟩ := HA.out _ HB.out; obtain ⟨v0, v1, v2, v3, v4, v5, v6⟩ := cd_cells sv; have f0 : w16.cell? ⟨F, 0, none⟩ = some (.slice (some ⟨bb, off, none⟩) n k) := sf.cell 0; have f1 : w16.cell? ⟨F, 1, none⟩ = some (.int .i64 lim) := sf.cell 1; have g0 : w16.cell? ⟨G, 0, none⟩ = some (.slice xg K kg) := sg.cell 0; clear sv sf sx sg sy sl; have q4 := HQ4.out _ HB.out) | (go_at_call 15; refine (icontrol_any _ _ _ _).mono ?_; rintro e w19 ⟨rfl, hk⟩; rw [C55.out]; have HB9 : Hid (Below wb.heap.size wb w19) := (HB.out).trans (hk.1.mono (HB.out).size); clear HB hk; have HB := HB9; clear HB9))
      go_ret
      exact ⟨rfl, (HA.out _ HB.out).2.2.2.2⟩
  case true =>
  obtain ⟨hg, hfb, hin, hls⟩ := look_parts hlk
  have HG : Hid (r.good = true) := hg
  have HFB : Hid (fifoB g n lim = true) := hfb
  obtain ⟨t0, t1⟩ : 0 ≤ now ∧ now ≤ 1000000000000 := by simpa [inB] using hin
  obtain ⟨RR, hRR⟩ : ∃ R, popR g n now r = R := ⟨_, rfl⟩
  obtain ⟨r1, r2, r3, r4, r5, r6⟩ := popR_all (f := g) (n := n) hg t0 t1
  have rle := popR_le g n now r
  rw [hRR] at r1 r2 r3 r4 r5 r6 rle
  have z1 : RR.m = M := by rw [← hM, ← hRR]; unfold popM; rw [hlk]; rfl
  have z2 : K = n - M - 1 := by rw [← hK, ← z1, ← hRR]; unfold popK; rw [hlk]; rfl
  have z3 : ok = decide (M < n) := by rw [← hok, ← z1, ← hRR]; unfold popO; rw [hlk]; rfl
  have z4 : lateB r g n now = was := by rw [← hwas, hlk]; rfl
  have z5 : RR.c = C := by rw [← hC, ← hRR]; unfold popC; rw [hlk]; rfl
  have z6 : lt.good = true := by rw [← hlt]; unfold lateQ; rw [hlk]; exact lateC_good hg t0 t1
  have z7 : M < n → U = outF g RR 0 := fun h => by rw [← hU]; unfold popU; rw [hok, z3, hRR]; simp [h]
  have z8 : Q = popF (outF g RR) := by rw [← hQ, ← hRR]; rfl
  rw [z5] at r1 r2 r3
  rw [z4] at r6
  rw [z1] at r4 r5 r6 rle
  have HU : Hid (M < n → (U = g M ∨ ((g M).ecn ≠ 0 ∧ U = (g M).ce)) ∧ (was = false → U = g 0)) := fun h => by
    have e0 : shiftF g RR.m 0 = g M := by unfold shiftF; rw [z1, Nat.add_zero]
    refine ⟨?_, fun hw => ?_⟩
    · rw [z7 h]
      unfold outF
      split
      · rename_i hmk
        refine .inr ⟨r5 hmk, ?_⟩
        unfold markF
        rw [if_pos rfl, e0]
        rfl
      · exact .inl e0
    · obtain ⟨a1, a2⟩ := r6 hw
      rw [z7 h]
      unfold outF
      rw [if_neg (by rw [a2]; decide), e0, a1]
  have HQ : Hid (∀ i, Q i = g (M + 1 + i)) := fun i => by
    rw [z8]
    unfold popF outF
    split
    · unfold markF
      rw [if_neg (by omega)]
      unfold shiftF
      rw [z1]
      congr 1
      omega
    · unfold shiftF
      rw [z1]
      congr 1
      omega
  have HEC : Hid (∀ i, i < M → (g i).ecn = 0) := r4
  have HLT : Hid (lt.good = true) := z6
  have HCG : Hid (C.good = true) := r3
  have n1 : (C.tg != r.tg) = false := by simp [r1]
  have n2 : (C.iv != r.iv) = false := by simp [r2]
  have HWM : Hid (was = false → M = 0) := fun h => (r6 h).1
  have HZ2 : Hid (K = n - M - 1) := z2
  have HZ3 : Hid (ok = decide (M < n)) := z3
  clear hC hM hK hT hok hU hQ hlt hwas hlk hg hfb hin hRR r1 r2 r3 r4 r5 r6 z1 z2 z3 z4 z5 z6 z7 z8
  have hMn : (M : Int) ≤ (n : Int) := by omega
  have hMk : (M : Int) ≤ (k : Int) := by omega
  have hMn' : ¬ (n : Int) < (M : Int) := by omega
  have hnw : ¬ now < 0 := by omega
  have hnw2 : ¬ 1000000000000 < now := by omega
  have HN : Hid (n = 0 ∨ (0 < n ∧ (g (n - 1)).tm ≤ now)) := by
    show _ ∨ _
    rcases hls with h | h
    · exact .inl h
    · by_cases h0 : n = 0
      · exact .inl h0
      · exact .inr ⟨by omega, h⟩
  clear hls
  go_cut [72] from 38 (fun s wz => s = .bool false ∧ Below wb.heap.size wb wz)
  case first =>
    rcases HN.out with hn0 | ⟨c3, c4⟩
    · have hz0 : ¬ (0 : Int) < (n : Int) := by omega
      clear hn0
      go_wp2_with (first | (go_at_call 19; refine (scodelOk_any r _).mono ?_; rintro e w15 ⟨rfl, k5⟩; rw [HG.out]; have HB15 : Hid (Below wb.heap.size wb w15) := (HB.out).trans (k5.1.mono (HB.out).size); clear v0 v1 v2 v3 v4 v5 v6 f0 f1 g0 HB; have HB := HB15; clear HB15; obtain ⟨⟨sv, sf, sx, sg, sy, sl⟩, -, -, -, -⟩ := HA.out _ HB.out; obtain ⟨v0, v1, v2, v3, v4, v5, v6⟩ := cd_cells sv; have f0 : w15.cell? ⟨F, 0, none⟩ = some (.slice x n k) := sf.cell 0; have f1 : w15.cell? ⟨F, 1, none⟩ = some (.int .i64 lim) := sf.cell 1; have g0 : w15.cell? ⟨G, 0, none⟩ = some (.slice xg K kg) := sg.cell 0; clear sv sf sx sg sy sl) | (go_at_call 20; refine (sfifoOk_any x n k g lim _ (by omega) hnk (HA.out _ HB.out).2.1).mono ?_; rintro e w16 ⟨rfl, k6⟩; rw [HFB.out]; have HB16 : Hid (Below wb.heap.size wb w16) := (HB.out).trans (k6.mono (HB.out).size); clear v0 v1 v2 v3 v4 v5 v6 f0 f1 g0 HB; have HB := HB16; clear HB16; obtain ⟨⟨sv, sf, sx, sg, sy, sl⟩, -, -, -, -⟩ := HA.out _ HB.out; obtain ⟨v0, v1, v2, v3, v4, v5, v6⟩ := cd_cells sv; have f0 : w16.cell? ⟨F, 0, none⟩ = some (.slice x n k) := sf.cell 0; have f1 : w16.cell? ⟨F, 1, none⟩ = some (.int .i64 lim) := sf.cell 1; have g0 : w16.cell? ⟨G, 0, none⟩ = some (.slice xg K kg) := sg.cell 0; clear sv sf sx sg sy sl))
      go_meet
      case rel => exact ⟨congrArg Value.bool (by first | rfl | (simp only [Bool.or_eq_false_iff, decide_eq_false_iff_not]; omega)), HB.out⟩
    · obtain ⟨m, hm⟩ : ∃ m, n - 1 = m := ⟨_, rfl⟩
      rw [hm] at c4
      have c4' : ¬ now < (g m).tm := by omega
      have hmi : (n : Int) - 1 = (m : Int) := by omega
      have hmw : IntKind.i64.wrap (m : Int) = (m : Int) := by rw [IntKind.wrap_i64]; omega
      have hml : (m : Int) < (n : Int) := by omega
      have c3' : (0 : Int) < (n : Int) := by omega
      obtain ⟨bb, off, rfl, hbl, hcs⟩ := PR.at (HA.out _ HB.out).2.1 c3
      have HQ4 : Hid (∀ W, Below wb.heap.size wb W → W.cell? ⟨bb, off + m * 6 + 4, none⟩ = some (.int .i64 (g m).tm)) := fun W h => (PAt.below (hcs m (by omega)) h hbl).2.2.2.2.1
      clear hcs hm
      go_wp2_with (first | (go_at_call 19; refine (scodelOk_any r _).mono ?_; rintro e w15 ⟨rfl, k5⟩; rw [HG.out]; have HB15 : Hid (Below wb.heap.size wb w15) := (HB.out).trans (k5.1.mono (HB.out).size); clear v0 v1 v2 v3 v4 v5 v6 f0 f1 g0 HB; have HB := HB15; clear HB15; obtain ⟨⟨sv, sf, sx, sg, sy, sl⟩, -, -, -, -⟩ := HA.out _ HB.out; obtain ⟨v0, v1, v2, v3, v4, v5, v6⟩ := cd_cells sv; have f0 : w15.cell? ⟨F, 0, none⟩ = some (.slice (some ⟨bb, off, none⟩) n k) := sf.cell 0; have f1 : w15.cell? ⟨F, 1, none⟩ = some (.int .i64 lim) := sf.cell 1; have g0 : w15.cell? ⟨G, 0, none⟩ = some (.slice xg K kg) := sg.cell 0; clear sv sf sx sg sy sl) | (go_at_call 20; refine (sfifoOk_any (some ⟨bb, off, none⟩) n k g lim _ (by omega) hnk (HA.out _ HB.out).2.1).mono ?_; rintro e w16 ⟨rfl, k6⟩; rw [HFB.out]; have HB16 : Hid (Below wb.heap.size wb w16) := (HB.out).trans (k6.mono (HB.out).size); clear v0 v1 v2 v3 v4 v5 v6 f0 f1 g0 HB; have HB := HB16; clear HB16; obtain ⟨⟨sv, sf, sx, sg, sy, sl⟩, -, -, -, -⟩ := HA.out _ HB.out; obtain ⟨v0, v1, v2, v3, v4, v5, v6⟩ := cd_cells sv; have f0 : w16.cell? ⟨F, 0, none⟩ = some (.slice (some ⟨bb, off, none⟩) n k) := sf.cell 0; have f1 : w16.cell? ⟨F, 1, none⟩ = some (.int .i64 lim) := sf.cell 1; have g0 : w16.cell? ⟨G, 0, none⟩ = some (.slice xg K kg) := sg.cell 0; clear sv sf sx sg sy sl; have q4 := HQ4.out _ HB.out))
      go_meet
      case rel => exact ⟨congrArg Value.bool (by first | rfl | (simp only [Bool.or_eq_false_iff, decide_eq_false_iff_not]; omega)), HB.out⟩
  case rest =>
  obtain ⟨rfl, hbz⟩ := hcut
  clear v0 v1 v2 v3 v4 v5 v6 f0 f1 g0 HB HG HFB HN
  have HB : Hid (Below wb.heap.size wb wc) := hbz
  clear hbz
  obtain ⟨⟨sv, sf, sx, sg, sy, sl⟩, -, -, -, -⟩ := HA.out _ HB.out
  obtain ⟨v0, v1, v2, v3, v4, v5, v6⟩ := cd_cells sv
  have f0 : wc.cell? ⟨F, 0, none⟩ = some (.slice x n k) := sf.cell 0
  have f1 : wc.cell? ⟨F, 1, none⟩ = some (.int .i64 lim) := sf.cell 1
  obtain ⟨x0, x1, x2, x3, x4, x5, x6⟩ := cd_cells sx
  obtain ⟨l0, l1, l2, l3, l4, l5, l6⟩ := cd_cells sl
  clear sv sf sx sg sy sl
  have HWA : Hid ((was = true) ∨ (was = false ∧ ¬ (0 : Int) < (M : Int))) := by
    show _ ∨ _
    cases hw : was
    · exact .inr ⟨rfl, by have := HWM.out hw; omega⟩
    · exact .inl rfl
  go_upto_region 7 with fail
  go_cut [136] from 96 (fun s wz => s = .bool false ∧ Below wb.heap.size wb wz)
  case first =>
    rcases HWA.out with hw | ⟨hw, hM0⟩
    all_goals
      have HWW : Hid (was = _) := hw
      subst hw
      go_wp2_with (first | (go_at_call 21; refine (icodelOk_any lt _).mono ?_; rintro e w21 ⟨rfl, k5⟩; rw [HLT.out]; have HB21 : Hid (Below wb.heap.size wb w21) := (HB.out).trans (k5.1.mono (HB.out).size); clear v0 v1 v2 v3 v4 v5 v6 f0 f1 x0 x1 x2 x3 x4 x5 x6 l0 l1 l2 l3 l4 l5 l6 HB; have HB := HB21; clear HB21; obtain ⟨⟨sv, sf, sx, sg, sy, sl⟩, -, -, -, -⟩ := HA.out _ HB.out; obtain ⟨v0, v1, v2, v3, v4, v5, v6⟩ := cd_cells sv; have f0 : w21.cell? ⟨F, 0, none⟩ = some (.slice x n k) := sf.cell 0; have f1 : w21.cell? ⟨F, 1, none⟩ = some (.int .i64 lim) := sf.cell 1; obtain ⟨x0, x1, x2, x3, x4, x5, x6⟩ := cd_cells sx; obtain ⟨l0, l1, l2, l3, l4, l5, l6⟩ := cd_cells sl; clear sv sf sx sg sy sl) | (go_at_call 22; refine (samePkts_yes yd x M ld k g g _ (by omega) (HA.out _ HB.out).2.2.1 (PR.take (HA.out _ HB.out).2.1 (by omega)) (fun _ _ => rfl)).mono ?_; rintro e w22 ⟨rfl, k5, -⟩; have HB9 : Hid (Below wb.heap.size wb w22) := (HB.out).trans (k5.1.mono (HB.out).size); clear HB k5; have HB := HB9; clear HB9))
      go_meet
      case rel => exact ⟨congrArg Value.bool (by first | rfl | (simp; done) | (simp; omega)), HB.out⟩
  case rest =>
  obtain ⟨rfl, hbz⟩ := hcut
  clear v0 v1 v2 v3 v4 v5 v6 f0 f1 x0 x1 x2 x3 x4 x5 x6 l0 l1 l2 l3 l4 l5 l6 HB HWA HLT n1 n2
  have HB : Hid (Below wb.heap.size wb wc) := hbz
  clear hbz
  go_wp2_with fail
  go_loopw [14] (fun i wr => ∃ j : Nat, j ≤ M ∧ i = .int .i64 j ∧ Below wb.heap.size wb wr) (fun i _ => M - (intOf i).toNat)
  case atStart => exact ⟨0, Nat.zero_le _, rfl, HB.out⟩
  case round =>
    obtain ⟨j, hj, rfl, hbr⟩ := hrel
    clear HB
    have HB : Hid (Below wb.heap.size wb wr) := hbr
    clear hbr
    by_cases hlt : j < M
    case pos =>
      obtain ⟨bd, od, rfl, hbl, hcs⟩ := PR.at (HA.out _ HB.out).2.2.1 hlt
      have q5 := (hcs j hlt).2.2.2.2.2
      rw [HEC.out j hlt] at q5
      clear hcs
      have hlt' : (j : Int) < (M : Int) := by omega
      go_wp2_with fail
      go_roundw
      case rel => exact ⟨j + 1, by omega, by go_num, HB.out⟩
      case measure => simp [intOf]; omega
    case neg =>
    have hlt' : ¬ (j : Int) < (M : Int) := by omega
    clear hj hlt
    obtain ⟨⟨sv, sf, sx, sg, sy, sl⟩, -, -, -, -⟩ := HA.out _ HB.out
    obtain ⟨v0, v1, v2, v3, v4, v5, v6⟩ := cd_cells sv
    have f0 : wr.cell? ⟨F, 0, none⟩ = some (.slice x n k) := sf.cell 0
    have f1 : wr.cell? ⟨F, 1, none⟩ = some (.int .i64 lim) := sf.cell 1
    have g0 : wr.cell? ⟨G, 0, none⟩ = some (.slice xg K kg) := sg.cell 0
    clear sv sf sx sg sy sl
    by_cases hMn2 : M < n
    case neg =>
      have hok : ok = false := by rw [HZ3.out]; simp; omega
      have hm1 : ((M : Int) == (n : Int)) = true := by simp; omega
      have hm2 : ((K : Int) == 0) = true := by have := HZ2.out; simp; omega
      subst hok
      go_wp2_with (first | (go_at_call 15; refine (icontrol_any _ _ _ _).mono ?_; rintro e w19 ⟨rfl, hk⟩; rw [C55.out]; have HB9 : Hid (Below wb.heap.size wb w19) := (HB.out).trans (hk.1.mono (HB.out).size); clear HB hk; have HB := HB9; clear HB9))
      go_ret
      exact ⟨rfl, (HA.out _ HB.out).2.2.2.2⟩
    case pos =>
    have hok : ok = true := by rw [HZ3.out]; simp [hMn2]
    obtain ⟨hu1, hu2⟩ := HU.out hMn2
    obtain ⟨N1, hN1⟩ : ∃ N, M + 1 = N := ⟨_, rfl⟩
    have hKK : K = n - N1 := by have := HZ2.out; omega
    have HMK : Hid (∀ W, Calls Try.prog 23 #[(g M).val, U.val] W fun e w' => e = .returned (.bool true) ∧ Below W.heap.size W w') := fun W => by
      rcases hu1 with h | ⟨h0, h⟩
      · rw [h]; exact marked_same (g M) W
      · by_cases h3 : (g M).ecn = 3
        · have : U = g M := by rw [h]; unfold Pk.ce; rw [← h3]
          rw [this]; exact marked_same (g M) W
        · rw [h]; exact marked_set (g M) h0 h3 W
    have hMi : (M : Int) + 1 = (N1 : Int) := by omega
    have hM1 : (N1 : Int) ≤ (n : Int) := by omega
    have hM2 : (N1 : Int) ≤ (k : Int) := by omega
    have hMw : IntKind.i64.wrap (N1 : Int) = (N1 : Int) := by rw [IntKind.wrap_i64]; omega
    have hMlt : (M : Int) < (n : Int) := by omega
    have hn0 : (0 : Int) < (n : Int) := by omega
    obtain ⟨bb, off, rfl, hbl, hcs⟩ := PR.at (HA.out _ HB.out).2.1 (show 0 < n by omega)
    have HPM : Hid (PAt wr bb (off + M * 6) (g M)) := hcs M hMn2
    have HP0 : Hid (PAt wr bb (off + 0 * 6) (g 0)) := hcs 0 (by omega)
    have HSH : Hid (PR wr.heap.size wr (some ⟨bb, off + N1 * 6, none⟩) (n - N1) (shiftF g N1)) := PR.shift hcs hbl N1 (by omega)
    have HQ2 : Hid (∀ i, i < n - N1 → Q i = shiftF g N1 i) := fun i _ => by rw [HQ.out i, hN1]; rfl
    have HKN : Hid (k = N1 → n - N1 = 0) := fun h => by omega
    clear hcs HU HZ2 HZ3 HEC hu1 HQ
    subst hok hKK
    clear v0 v1 v2 v3 v4 v5 v6 f0 f1 g0
    rcases (show was = true ∨ was = false by cases was <;> simp) with hw | hw
    case inl =>
      subst hw
      clear hu2
      go_upto_region 16 with fail
      refine wp_region_quiet (C := fun w' => Below wr.heap.size wr w') (by kernel_rfl) (by kernel_rfl) ((Below.refl _ _).drew) ?_
      simp only []
      repeat (first
        | go_big_quiet_skip
        | (go_big_quiet_want
           unfold Oper.quiet
           apply Exists.intro
           refine ⟨fun w' hw' => ?_, ?_⟩
           (obtain ⟨⟨sv, sf, sx, sg, sy, sl⟩, hpf, hpd, hpg, hbw⟩ := HA.out _ ((HB.out).trans (hw'.mono (HB.out).size))
            obtain ⟨x0, x1, x2, x3, x4, x5, x6⟩ := cd_cells sx
            have f0 : w'.cell? ⟨F, 0, none⟩ = some (.slice (some ⟨bb, off, none⟩) n k) := sf.cell 0
            have g0 : w'.cell? ⟨G, 0, none⟩ = some (.slice xg (n - N1) kg) := sg.cell 0
            have y0 : w'.cell? ⟨Y, 0, none⟩ = some (.int .i64 U.id) := sy.cell 0
            have y1 : w'.cell? ⟨Y, 1, none⟩ = some (.int .i64 U.flow) := sy.cell 1
            have y2 : w'.cell? ⟨Y, 2, none⟩ = some (.int .i64 U.host) := sy.cell 2
            have y3 : w'.cell? ⟨Y, 3, none⟩ = some (.int .i64 U.size) := sy.cell 3
            have y4 : w'.cell? ⟨Y, 4, none⟩ = some (.int .i64 U.tm) := sy.cell 4
            have y5 : w'.cell? ⟨Y, 5, none⟩ = some (.int .i64 U.ecn) := sy.cell 5
            obtain ⟨d0, d1, d2, d3, d4, d5⟩ := PAt.below HPM.out hw' hbl
            obtain ⟨c0, c1, c2, c3, c4, c5⟩ := PAt.below HP0.out hw' hbl
            simp only [Nat.zero_mul, Nat.add_zero] at c0 c1 c2 c3 c4 c5
            clear sv sf sx sg sy sl
            go_simp
            first
              | (go_at_call 23; refine (HMK.out _).mono ?_; rintro e w8 ⟨rfl, hb8⟩; exact ⟨rfl, hw'.trans (hb8.mono hw'.size)⟩)
              | (go_at_call 22; refine (samePkts_yes xg _ (n - N1) kg _ Q (shiftF g N1) _ (by omega) hpg ?_ HQ2.out).mono ?_; (first | exact (PR.below HSH.out hw').mono hw'.size | (split <;> first | exact .inl (HKN.out (by assumption)) | exact (PR.below HSH.out hw').mono hw'.size)); rintro e w8 ⟨rfl, k8, -⟩; exact ⟨rfl, hw'.trans (k8.1.mono hw'.size)⟩)
              | (go_at_call 21; refine (icodelOk_any C _).mono ?_; rintro e w8 ⟨rfl, k8⟩; rw [HCG.out]; exact ⟨rfl, hw'.trans (k8.1.mono hw'.size)⟩)
              | exact rfl)
           simp only [Act.put, List.setIfInBounds_toArray, List.set_cons_zero, List.set_cons_succ]
           go_big_quiet_on))
      refine wpQuiet_nil ?_
      intro w7 hw7
      go_wp2_with fail
      all_goals
        go_ret
        exact ⟨rfl, (HA.out _ ((HB.out).trans (hw7.mono (HB.out).size))).2.2.2.2⟩
    case inr =>
      have hU0 := hu2 hw
      subst hw hU0
      clear hu2
      go_upto_region 16 with fail
      refine wp_region_quiet (C := fun w' => Below wr.heap.size wr w') (by kernel_rfl) (by kernel_rfl) ((Below.refl _ _).drew) ?_
      simp only []
      repeat (first
        | go_big_quiet_skip
        | (go_big_quiet_want
           unfold Oper.quiet
           apply Exists.intro
           refine ⟨fun w' hw' => ?_, ?_⟩
           (obtain ⟨⟨sv, sf, sx, sg, sy, sl⟩, hpf, hpd, hpg, hbw⟩ := HA.out _ ((HB.out).trans (hw'.mono (HB.out).size))
            obtain ⟨x0, x1, x2, x3, x4, x5, x6⟩ := cd_cells sx
            have f0 : w'.cell? ⟨F, 0, none⟩ = some (.slice (some ⟨bb, off, none⟩) n k) := sf.cell 0
            have g0 : w'.cell? ⟨G, 0, none⟩ = some (.slice xg (n - N1) kg) := sg.cell 0
            have y0 : w'.cell? ⟨Y, 0, none⟩ = some (.int .i64 (g 0).id) := sy.cell 0
            have y1 : w'.cell? ⟨Y, 1, none⟩ = some (.int .i64 (g 0).flow) := sy.cell 1
            have y2 : w'.cell? ⟨Y, 2, none⟩ = some (.int .i64 (g 0).host) := sy.cell 2
            have y3 : w'.cell? ⟨Y, 3, none⟩ = some (.int .i64 (g 0).size) := sy.cell 3
            have y4 : w'.cell? ⟨Y, 4, none⟩ = some (.int .i64 (g 0).tm) := sy.cell 4
            have y5 : w'.cell? ⟨Y, 5, none⟩ = some (.int .i64 (g 0).ecn) := sy.cell 5
            obtain ⟨d0, d1, d2, d3, d4, d5⟩ := PAt.below HPM.out hw' hbl
            obtain ⟨c0, c1, c2, c3, c4, c5⟩ := PAt.below HP0.out hw' hbl
            simp only [Nat.zero_mul, Nat.add_zero] at c0 c1 c2 c3 c4 c5
            have hn00 : 0 < n := by omega
            clear sv sf sx sg sy sl
            go_simp
            first
              | (go_at_call 23; refine (HMK.out _).mono ?_; rintro e w8 ⟨rfl, hb8⟩; exact ⟨rfl, hw'.trans (hb8.mono hw'.size)⟩)
              | (go_at_call 22; refine (samePkts_yes xg _ (n - N1) kg _ Q (shiftF g N1) _ (by omega) hpg ?_ HQ2.out).mono ?_; (first | exact (PR.below HSH.out hw').mono hw'.size | (split <;> first | exact .inl (HKN.out (by assumption)) | exact (PR.below HSH.out hw').mono hw'.size)); rintro e w8 ⟨rfl, k8, -⟩; exact ⟨rfl, hw'.trans (k8.1.mono hw'.size)⟩)
              | (go_at_call 21; refine (icodelOk_any C _).mono ?_; rintro e w8 ⟨rfl, k8⟩; rw [HCG.out]; exact ⟨rfl, hw'.trans (k8.1.mono hw'.size)⟩)
              | exact rfl)
           simp only [Act.put, List.setIfInBounds_toArray, List.set_cons_zero, List.set_cons_succ]
           go_big_quiet_on))
      refine wpQuiet_nil ?_
      intro w7 hw7
      go_wp2_with fail
      all_goals
        go_ret
        exact ⟨rfl, (HA.out _ ((HB.out).trans (hw7.mono (HB.out).size))).2.2.2.2⟩

set_option maxRecDepth 100000 in
theorem lifted (os : Os) (started : os.Started) (H : Type) (enc : TypeId × Value → H) :
    ReturnsInHanded {} Try.checked os 5 .any (Rows.fnCodelsSpec.pre6 enc Try.prog Try.f5 Rows.fnCodelsRow.domain false) (Rows.fnCodelsSpec.post enc Try.prog Try.f5 false true false false) := by
  refine returnsInHanded_of_change (C := Try.checked) own started (by kernel_rfl) Try.func5
    (ChangeSpec.witness6 (enc := enc) (C := Try.checked) false ⟨#[], #[.slice none 0 0], []⟩ 8 (by kernel_rfl) (by kernel_rfl) (by kernel_rfl) (by kernel_rfl)) ?_
  intro W base args ds gs before hval0 hW hcnd _
  have hval : ∀ (j : Nat) t v, Try.f5.params[j]? = some t → args[j]? = some v → Value.okWide Try.prog W .any base t v := hval0
  have hW' := hW
  obtain ⟨p, q, hA0, hV, rfl, hfz, hnd⟩ := hW
  have hA : DataW.TrodAll enc Try.prog W 0 (fun _ => true) true Try.f5.params.toList args.toList ds p := hA0
  rw [Try.params5] at hA hval
  obtain ⟨v0, vs0, d0, ds0, p0, q0, hargs, rfl, rfl, h0, r0⟩ := trodAll_cons hA
  obtain ⟨rfl, rfl, rfl⟩ := trodAll_nil r0
  obtain rfl : args = #[v0] := by cases args; simp_all
  obtain ⟨rfl, rfl⟩ := trodVars_none hV
  obtain ⟨a0, len0, cap0, rfl⟩ := okWide_slice Try.underlying22 (hval 0 22 v0 rfl rfl)
  have k0 := h0
  have lt0 : ∀ x ∈ p0, x.block < W.heap.size := by obtain ⟨m, hm⟩ := k0; exact DataW.trod_lt m _ _ _ hm
  obtain ⟨z0, w0⟩ : ∃ zs, IsRow .u8 W a0 len0 cap0 zs := by
    obtain ⟨fuel, hf⟩ := h0
    rcases open_ints Try.underlying22 Try.underlying5 (by kernel_rfl) hf with ⟨hcs, _⟩ | ⟨x, l, c, zs, hcs, _, hl, hm, hz, _, hcell, hwz⟩
    · simp [Value.cells] at hcs
      obtain ⟨rfl, rfl, rfl⟩ := hcs
      exact ⟨[], .inl ⟨rfl, rfl, rfl, rfl⟩⟩
    · simp [Value.cells] at hcs
      obtain ⟨rfl, rfl, rfl⟩ := hcs
      exact ⟨zs, .inr ⟨_, rfl, hl, hm, by simpa using hz, hcell, hwz⟩⟩
  clear hA0 hval0
  refine (walk a0 len0 cap0 z0 W w0).mono fun e W' ⟨he, bel⟩ => ?_
  subst he
  exact ⟨_, rfl, _, _, _, [], _, [], hW', trodAll_mk1 (shut_bool Try.underlying4 _), (trodAll_cons_mk (Below.trod laidOut (by kernel_rfl) (of_decide_eq_true (by kernel_rfl)) k0 bel lt0) trodAll_mk0), rfl, bel.frame _, fun h => by cases h⟩

theorem over : Rows.fnCodelsRow.holds Try.pinned (OpenSpec.ofChange Rows.fnCodelsSpec) :=
  OpenClaim.holds_of_wide 5 Try.f5 rfl rfl rfl rfl rfl rfl rfl ⟨rfl, rfl, rfl, rfl, rfl⟩ rfl rfl rfl rfl rfl (by kernel_rfl) Try.func5 (by kernel_rfl)
    (of_decide_eq_true (by kernel_rfl)) (by unfold Func.isWrapper; first | (rw [if_pos (by decide +kernel)]; kernel_rfl) | (rw [if_neg (by decide +kernel)]; exact ⟨rfl, rfl⟩))
    (fun os started H enc _ => lifted os started H enc)

theorem proved : Rows.FnCodelsSaid := over
end Go.Proofs.Ythdlpgehojdhkac.fnCodels
namespace Go.Proofs.Ythdlpgehojdhkac
theorem fnCodels_holds : Rows.FnCodelsSaid := fnCodels.proved
#print axioms fnCodels_holds
end Go.Proofs.Ythdlpgehojdhkac
