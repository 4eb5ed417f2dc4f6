/-
  Whatever bytes the law FnCalm draws its CoDel and its queue from, it returns true and leaves the bytes as they were; no condition.
-/
import Derived.Test.YtfflheebjbdnoacRows
import Derived.WalkKit
import Derived.ProofKit
import Derived.OpenShut
import Derived.BigQuiet
import Derived.Deep.QuietTactic
import Derived.Deep.Quiet
import Derived.Deep.Cut
import Derived.Test.YtfflheebjbdnoacControl
import Derived.Test.YtfflheebjbdnoacCalmN
import Derived.Test.YtfflheebjbdnoacDrawPop
import Derived.ShutString
import Derived.ChangeOld
import Derived.Below
namespace Go.Proofs.Ytfflheebjbdnoac.fnCalm
open Go.ChangeShapes Go.WideShapes Go.ChangeAt Go.RowKit
open Go.ChangeMaps (open_string shut_string)
set_option linter.unusedVariables false

theorem own : ownKnob Try.prog.godebug = none := by kernel_rfl
theorem laidOut : laidOutB Try.prog = true := by kernel_rfl

/-- A slice of integers that came in. -/
def IsRow (k : IntKind) (w : World) (a : Option Addr) (len cap : Nat) (zs : List Int) : Prop :=
  (a = none ∧ len = 0 ∧ cap = 0 ∧ zs = []) ∨
  ∃ x, a = some x ∧ len ≤ cap ∧ cap ≤ maxLen ∧ zs.length = cap ∧ (∀ i, i < zs.length → w.cell? (x.add i) = some (.int k (zs.getD i 0))) ∧ ∀ n ∈ zs, (Lit.int k n).wf = true

theorem code_of {w : World} {a : Option Addr} {len cap : Nat} {zs : List Int} (h : IsRow .u8 w a len cap zs) : len ≤ 9223372036854775807 ∧ Code w w.heap.size a len := by
  rcases h with ⟨rfl, rfl, rfl, rfl⟩ | ⟨x, rfl, hl, hm, hz, hcell, hwz⟩
  · exact ⟨by omega, .inl rfl⟩
  · unfold maxLen at hm
    refine ⟨by omega, ?_⟩
    by_cases h0 : len = 0
    · exact .inl h0
    · obtain ⟨b, off, rfl, hc⟩ := ints_at hcell (by omega)
      refine .inr ⟨b, off, rfl, World.block_lt_of_cell? w _ (hc 0 (by omega)), fun k hk => ?_⟩
      have hb := bounds_u8 (hwz (zs.getD k 0) (by rw [List.getD_eq_getElem?_getD, List.getElem?_eq_getElem (by omega)]; exact List.getElem_mem _))
      exact ⟨zs.getD k 0, hb.1, hb.2, hc k (by omega)⟩


theorem con_55 : conF 5 100 4 = 55 := by
  have : conF 5 100 4 = nextF 5 100 4 := rfl
  rw [this]; unfold nextF; rw [show max (4 : Int) 1 = 4 by decide, invF_4]; decide

set_option maxRecDepth 100000 in
set_option maxHeartbeats 4000000 in
theorem walk (a0 : Option Addr) (len0 cap0 : Nat) (z0 : List Int) (w : World) (w0 : IsRow .u8 w a0 len0 cap0 z0) :
    Calls Try.prog 6 #[.slice a0 len0 cap0] w fun e w' => e = .returned (.bool true) ∧ Below w.heap.size w w' := by
  obtain ⟨hl, hcode⟩ := code_of w0
  clear w0
  have HC : Hid (Code w w.heap.size a0 len0) := hcode
  clear hcode
  have C55 : Hid _ := con_55
  go_enter Try.func6, Try.ntmps6
  go_wp2_with fail
  refine (drawCodelPop a0 len0 cap0 _ hl HC.out).mono ?_
  rintro e w1 ⟨r, x, n, k, lim, now, g, rfl, hlow, zx, hnk, hn13, hsm, ⟨l0, l1⟩, ⟨n0, n1⟩, b4⟩
  clear HC
  go_upto_region 2 with fail
  obtain ⟨V, hV⟩ : ∃ V, w1.heap.size = V := ⟨_, rfl⟩
  obtain ⟨wv, hwv⟩ : ∃ y, (w1.alloc (.cells (cdCells r) 38)).alloc (.cells #[.slice x n k, .int .i64 lim] 41) = y := ⟨_, rfl⟩
  obtain ⟨F, hF⟩ : ∃ F, V + 1 = F := ⟨_, rfl⟩
  have hbv : Below w1.heap.size w1 wv := by rw [← hwv]; exact ((Below.refl _ _).alloc (Nat.le_refl _) _).alloc (by simp) _
  have HV : Hid (Sits wv V (cdCells r) 38) := by show Sits _ _ _ _; rw [← hwv]; exact (Sits.new' hV).alloc _
  have HF : Hid (Sits wv F #[.slice x n k, .int .i64 lim] 41) := by show Sits _ _ _ _; rw [← hwv]; exact Sits.new' (by simp; omega)
  have HP : Hid (PR wv.heap.size wv x n g) := (PR.below zx.pr hbv).mono hbv.size
  have hV0 : w.heap.size ≤ V := by rw [← hV]; exact b4.size
  replace b4 : Below w.heap.size w wv := b4.trans (hbv.mono b4.size)
  rw [hwv, hV, hF]
  clear hwv hV hbv zx
  obtain ⟨v0, v1, v2, v3, v4, v5, v6⟩ := cd_cells HV.out
  have f0 : wv.cell? ⟨F, 0, none⟩ = some (.slice x n k) := Sits.cell HF.out 0
  have f1 : wv.cell? ⟨F, 1, none⟩ = some (.int .i64 lim) := Sits.cell HF.out 1
  cases hg : r.good
  case false =>
    have HG : Hid (r.good = false) := hg
    clear hg
    go_wp2_with (first | (go_at_call 19; refine (scodelOk_any r _).mono ?_; rintro e w5 ⟨rfl, k5⟩; rw [HG.out]; have b5 := k5.1; replace b4 := b4.trans (b5.mono b4.size); have sv := Sits.below HV.out b5 (Sits.lt HV.out); have sf := Sits.below HF.out b5 (Sits.lt HF.out); clear v0 v1 v2 v3 v4 v5 v6 f0 f1; obtain ⟨v0, v1, v2, v3, v4, v5, v6⟩ := cd_cells sv; have f0 : w5.cell? ⟨F, 0, none⟩ = some (.slice x n k) := sf.cell 0; have f1 : w5.cell? ⟨F, 1, none⟩ = some (.int .i64 lim) := sf.cell 1; have HP5 : Hid (PR w5.heap.size w5 x n g) := (PR.below HP.out b5).mono b5.size; have HV5 : Hid (Sits w5 V (cdCells r) 38) := sv; have HF5 : Hid (Sits w5 F #[.slice x n k, .int .i64 lim] 41) := sf; clear b5 k5 sv sf) | (go_at_call 15; refine (icontrol_any _ _ _ _).mono ?_; rintro e w9 ⟨rfl, hk⟩; rw [C55.out]; replace b4 := b4.trans (hk.1.mono b4.size); clear hk))
    go_ret
    exact ⟨rfl, b4⟩
  case true =>
  have HG : Hid (r.good = true) := hg
  cases hfb : fifoB g n lim
  case false =>
    have HFB : Hid (fifoB g n lim = false) := hfb
    clear hg hfb
    go_wp2_with (first | (go_at_call 19; refine (scodelOk_any r _).mono ?_; rintro e w5 ⟨rfl, k5⟩; rw [HG.out]; have b5 := k5.1; replace b4 := b4.trans (b5.mono b4.size); have sv := Sits.below HV.out b5 (Sits.lt HV.out); have sf := Sits.below HF.out b5 (Sits.lt HF.out); clear v0 v1 v2 v3 v4 v5 v6 f0 f1; obtain ⟨v0, v1, v2, v3, v4, v5, v6⟩ := cd_cells sv; have f0 : w5.cell? ⟨F, 0, none⟩ = some (.slice x n k) := sf.cell 0; have f1 : w5.cell? ⟨F, 1, none⟩ = some (.int .i64 lim) := sf.cell 1; have HP5 : Hid (PR w5.heap.size w5 x n g) := (PR.below HP.out b5).mono b5.size; have HV5 : Hid (Sits w5 V (cdCells r) 38) := sv; have HF5 : Hid (Sits w5 F #[.slice x n k, .int .i64 lim] 41) := sf; clear b5 k5 sv sf) | (go_at_call 20; refine (sfifoOk_any x n k g lim _ (by omega) hnk HP5.out).mono ?_; rintro e w6 ⟨rfl, b6⟩; rw [HFB.out]; replace b4 := b4.trans (b6.mono b4.size); have sv := Sits.below HV5.out b6 (Sits.lt HV5.out); have sf := Sits.below HF5.out b6 (Sits.lt HF5.out); clear v0 v1 v2 v3 v4 v5 v6 f0 f1; obtain ⟨v0, v1, v2, v3, v4, v5, v6⟩ := cd_cells sv; have f0 : w6.cell? ⟨F, 0, none⟩ = some (.slice x n k) := sf.cell 0; have f1 : w6.cell? ⟨F, 1, none⟩ = some (.int .i64 lim) := sf.cell 1; have HP6 : Hid (PR w6.heap.size w6 x n g) := (PR.below HP5.out b6).mono b6.size; have HV6 : Hid (Sits w6 V (cdCells r) 38) := sv; have HF6 : Hid (Sits w6 F #[.slice x n k, .int .i64 lim] 41) := sf; clear b6 sv sf) | (go_at_call 15; refine (icontrol_any _ _ _ _).mono ?_; rintro e w9 ⟨rfl, hk⟩; rw [C55.out]; replace b4 := b4.trans (hk.1.mono b4.size); clear hk))
    go_ret
    exact ⟨rfl, b4⟩
  case true =>
  have HFB : Hid (fifoB g n lim = true) := hfb
  by_cases hz : n = 0
  case pos =>
    have hz' : ((n : Int) == 0) = true := by simp [hz]
    clear hg hfb hz
    go_wp2_with (first | (go_at_call 19; refine (scodelOk_any r _).mono ?_; rintro e w5 ⟨rfl, k5⟩; rw [HG.out]; have b5 := k5.1; replace b4 := b4.trans (b5.mono b4.size); have sv := Sits.below HV.out b5 (Sits.lt HV.out); have sf := Sits.below HF.out b5 (Sits.lt HF.out); clear v0 v1 v2 v3 v4 v5 v6 f0 f1; obtain ⟨v0, v1, v2, v3, v4, v5, v6⟩ := cd_cells sv; have f0 : w5.cell? ⟨F, 0, none⟩ = some (.slice x n k) := sf.cell 0; have f1 : w5.cell? ⟨F, 1, none⟩ = some (.int .i64 lim) := sf.cell 1; have HP5 : Hid (PR w5.heap.size w5 x n g) := (PR.below HP.out b5).mono b5.size; have HV5 : Hid (Sits w5 V (cdCells r) 38) := sv; have HF5 : Hid (Sits w5 F #[.slice x n k, .int .i64 lim] 41) := sf; clear b5 k5 sv sf) | (go_at_call 20; refine (sfifoOk_any x n k g lim _ (by omega) hnk HP5.out).mono ?_; rintro e w6 ⟨rfl, b6⟩; rw [HFB.out]; replace b4 := b4.trans (b6.mono b4.size); have sv := Sits.below HV5.out b6 (Sits.lt HV5.out); have sf := Sits.below HF5.out b6 (Sits.lt HF5.out); clear v0 v1 v2 v3 v4 v5 v6 f0 f1; obtain ⟨v0, v1, v2, v3, v4, v5, v6⟩ := cd_cells sv; have f0 : w6.cell? ⟨F, 0, none⟩ = some (.slice x n k) := sf.cell 0; have f1 : w6.cell? ⟨F, 1, none⟩ = some (.int .i64 lim) := sf.cell 1; have HP6 : Hid (PR w6.heap.size w6 x n g) := (PR.below HP5.out b6).mono b6.size; have HV6 : Hid (Sits w6 V (cdCells r) 38) := sv; have HF6 : Hid (Sits w6 F #[.slice x n k, .int .i64 lim] 41) := sf; clear b6 sv sf) | (go_at_call 15; refine (icontrol_any _ _ _ _).mono ?_; rintro e w9 ⟨rfl, hk⟩; rw [C55.out]; replace b4 := b4.trans (hk.1.mono b4.size); clear hk))
    go_ret
    exact ⟨rfl, b4⟩
  case neg =>
  have hz' : ((n : Int) == 0) = false := by simpa using hz
  have hpos : 0 < n := by omega
  have hln := (fifo_nums hfb).2.2.2
  have hle : ∀ j, j < n → (g j).tm ≤ (g (n - 1)).tm := fun j hj => by
    by_cases e : j = n - 1
    · rw [e]; exact Int.le_refl _
    · exact ((hln (n - 1) (by omega)).2 j (by omega)).1
  have hge : ∀ j, j < n → (g 0).tm ≤ (g j).tm := fun j hj => by
    by_cases e : j = 0
    · rw [e]; exact Int.le_refl _
    · exact ((hln j hj).2 0 (by omega)).1
  obtain ⟨m, hm⟩ : ∃ m, n - 1 = m := ⟨_, rfl⟩
  rw [hm] at hle
  have hmi : (n : Int) - 1 = (m : Int) := by omega
  have hmw : IntKind.i64.wrap (m : Int) = (m : Int) := by rw [IntKind.wrap_i64]; omega
  have hml : (m : Int) < (n : Int) := by omega
  obtain ⟨last, hlast⟩ : ∃ l, (g m).tm = l := ⟨_, rfl⟩
  obtain ⟨s0, s1⟩ := (hsm m (by omega)).2.1
  obtain ⟨u0, u1⟩ := (hsm 0 (by omega)).2.1
  rw [hlast] at s0 s1 hle
  have HLE : Hid (∀ j, j < n → (g j).tm ≤ last) := hle
  have HGE : Hid (∀ j, j < n → (g 0).tm ≤ (g j).tm) := hge
  clear hle hge hln hm hz hg hfb hsm
  go_upto_region 4 with (first | (go_at_call 19; refine (scodelOk_any r _).mono ?_; rintro e w5 ⟨rfl, k5⟩; rw [HG.out]; have b5 := k5.1; replace b4 := b4.trans (b5.mono b4.size); have sv := Sits.below HV.out b5 (Sits.lt HV.out); have sf := Sits.below HF.out b5 (Sits.lt HF.out); clear v0 v1 v2 v3 v4 v5 v6 f0 f1; obtain ⟨v0, v1, v2, v3, v4, v5, v6⟩ := cd_cells sv; have f0 : w5.cell? ⟨F, 0, none⟩ = some (.slice x n k) := sf.cell 0; have f1 : w5.cell? ⟨F, 1, none⟩ = some (.int .i64 lim) := sf.cell 1; have HP5 : Hid (PR w5.heap.size w5 x n g) := (PR.below HP.out b5).mono b5.size; have HV5 : Hid (Sits w5 V (cdCells r) 38) := sv; have HF5 : Hid (Sits w5 F #[.slice x n k, .int .i64 lim] 41) := sf; clear b5 k5 sv sf) | (go_at_call 20; refine (sfifoOk_any x n k g lim _ (by omega) hnk HP5.out).mono ?_; rintro e w6 ⟨rfl, b6⟩; rw [HFB.out]; replace b4 := b4.trans (b6.mono b4.size); have sv := Sits.below HV5.out b6 (Sits.lt HV5.out); have sf := Sits.below HF5.out b6 (Sits.lt HF5.out); clear v0 v1 v2 v3 v4 v5 v6 f0 f1; obtain ⟨v0, v1, v2, v3, v4, v5, v6⟩ := cd_cells sv; have f0 : w6.cell? ⟨F, 0, none⟩ = some (.slice x n k) := sf.cell 0; have f1 : w6.cell? ⟨F, 1, none⟩ = some (.int .i64 lim) := sf.cell 1; have HP6 : Hid (PR w6.heap.size w6 x n g) := (PR.below HP5.out b6).mono b6.size; have HV6 : Hid (Sits w6 V (cdCells r) 38) := sv; have HF6 : Hid (Sits w6 F #[.slice x n k, .int .i64 lim] 41) := sf; clear b6 sv sf))
  obtain ⟨bb, off, rfl, hbl, hcs⟩ := PR.at HP6.out hpos
  have q4 := (hcs m (by omega)).2.2.2.2.1
  rw [hlast] at q4
  go_upto_region 5 with fail
  clear q4 v0 v1 v2 v3 v4 v5 v6 f0 f1 HV HF HP HV5 HF5 HP5
  have ew : IntKind.i64.wrap (last - (g 0).tm) = last - (g 0).tm := by rw [IntKind.wrap_i64]; omega
  have hc0 := hcs 0 hpos
  have HC0 : Hid (PAt w6 bb (off + 0 * 6) (g 0)) := hc0
  clear hc0 hcs
  refine wp_region_quiet (C := fun w' => Below w6.heap.size w6 w') (by kernel_rfl) (by kernel_rfl) ((Below.refl _ _).drew) ?_
  simp only []
  repeat (first
    | go_big_quiet_skip
    | (go_big_quiet_want
       unfold Oper.quiet
       apply Exists.intro
       refine ⟨fun w' hw' => ?_, ?_⟩
       (obtain ⟨v0, v1, v2, v3, v4, v5, v6⟩ := cd_cells (Sits.below HV6.out hw' (Sits.lt HV6.out))
        have f0 : w'.cell? ⟨F, 0, none⟩ = some (.slice (some ⟨bb, off, none⟩) n k) := (Sits.below HF6.out hw' (Sits.lt HF6.out)).cell 0
        have p4 := (PAt.below HC0.out hw' hbl).2.2.2.2.1
        simp only [Nat.zero_mul, Nat.add_zero] at p4
        go_simp
        first
          | exact rfl)
       simp only [Act.put, List.setIfInBounds_toArray, List.set_cons_zero, List.set_cons_succ]
       go_big_quiet_on))
  refine wpQuiet_nil ?_
  intro w7 hw7
  have HV7 : Hid (Sits w7 V (cdCells r) 38) := Sits.below HV6.out hw7 (Sits.lt HV6.out)
  have HF7 : Hid (Sits w7 F #[.slice (some ⟨bb, off, none⟩) n k, .int .i64 lim] 41) := Sits.below HF6.out hw7 (Sits.lt HF6.out)
  have HP7 : Hid (PR w7.heap.size w7 (some ⟨bb, off, none⟩) n g) := (PR.below HP6.out hw7).mono hw7.size
  replace b4 := b4.trans (hw7.mono b4.size)
  clear hw7 HV6 HF6 HP6 HC0
  by_cases hd : r.tg ≤ last - (g 0).tm
  case pos =>
    go_wp2_with (first | (go_at_call 15; refine (icontrol_any _ _ _ _).mono ?_; rintro e w9 ⟨rfl, hk⟩; rw [C55.out]; replace b4 := b4.trans (hk.1.mono b4.size); clear hk))
    go_ret
    exact ⟨rfl, b4⟩
  case neg =>
  go_wp2_with fail
  go_loopw [11] (fun s wr => ∃ (q : Cd) (a : Option Addr) (m c : Nat) (h : Nat → Pk), Sits wr V (cdCells q) 38 ∧ Sits wr F #[.slice a m c, .int .i64 lim] 41 ∧ PR wr.heap.size wr a m h ∧ m ≤ c ∧ m ≤ 13 ∧ q.good = true ∧ q.tg = r.tg ∧ fifoB h m lim = true ∧ (∀ j, j < m → last - (h j).tm < r.tg ∧ (h j).tm ≤ last) ∧ Below w.heap.size w wr) (fun _ wr => flen wr F)
  case atStart => exact ⟨r, _, n, k, g, HV7.out, HF7.out, HP7.out, hnk, hn13, HG.out, rfl, HFB.out, fun j hj => ⟨by have := HGE.out j hj; omega, HLE.out j hj⟩, b4⟩
  case round =>
    obtain ⟨q, a, m, c, h, sv, sf, hp, hmc, hm13, hgq, htg, hfb, hall, hb⟩ := hrel
    clear HV7 HF7 HP7 HG HFB HGE HLE b4 hd
    have SV : Hid (Sits wr V (cdCells q) 38) := sv
    have SF : Hid (Sits wr F #[.slice a m c, .int .i64 lim] 41) := sf
    have HP : Hid (PR wr.heap.size wr a m h) := hp
    have hfl := flen_of sf
    have HFL : Hid (flen wr F = m) := hfl
    have f0 : wr.cell? ⟨F, 0, none⟩ = some (.slice a m c) := sf.cell 0
    have f1 : wr.cell? ⟨F, 1, none⟩ = some (.int .i64 lim) := sf.cell 1
    obtain ⟨v0, v1, v2, v3, v4, v5, v6⟩ := cd_cells sv
    have lsv := sv.lt
    have lsf := sf.lt
    have HQ : Hid (q.good = true) := hgq
    have HT : Hid (q.tg = r.tg) := htg
    have HB : Hid (fifoB h m lim = true) := hfb
    have HA : Hid (∀ j, j < m → last - (h j).tm < r.tg ∧ (h j).tm ≤ last) := hall
    clear sv sf hp hfl hgq htg hfb hall
    by_cases hm0 : 0 < m
    case neg =>
      have hz0 : ¬ (0 : Int) < (m : Int) := by omega
      go_wp2_with fail
      go_ret
      exact ⟨rfl, hb⟩
    case pos =>
    have hz0 : (0 : Int) < (m : Int) := by omega
    have hl := calm_look HQ.out HB.out s0 s1 (fun j hj => (HA.out j hj).2)
    obtain ⟨e1, e2, e3, e4, e5, e6, e7⟩ := calm_pop hl hm0 (by rw [HT.out]; exact (HA.out 0 hm0).1)
    have HCALL : Hid (∀ W, PR W.heap.size W a m h → Calls Try.prog 17 #[q.val, .agg #[.slice a m c, .int .i64 lim], .int .i64 last] W fun e w' => ∃ (x : Option Addr) (k : Nat) (y : Option Addr) (l : Nat), e = .returned (.tuple #[(calmC q).val, .agg #[.slice x (m - 1) k, .int .i64 lim], .slice y 0 l, (h 0).val, .bool true]) ∧ m - 1 ≤ k ∧ (∃ M : Nat, W.heap.size ≤ M ∧ ZI M w'.heap.size w' x ((m - 1) * 6) (flat (shiftF h 1))) ∧ Below W.heap.size W w') := fun W hPR => by
      refine (icodelPop_cap q a m c h lim last W (by omega) hmc hPR (by omega) (by omega)).mono ?_
      rintro e w' ⟨x, k, y, l, rfl, ⟨M, hM, hM2, hz1, hz2⟩, hbb, hk, hl'⟩
      rw [e1, e2, e3, e4, e5, e6]
      rw [e3] at hk
      rw [e3, e7] at hz2
      exact ⟨x, k, y, l, rfl, hk, ⟨M, hM, hz2⟩, hbb⟩
    obtain ⟨p, hpm⟩ : ∃ p, m - 1 = p := ⟨_, rfl⟩
    rw [hpm] at HCALL
    have hmp : ¬ (m : Int) ≤ (p : Int) := by omega
    clear hl e1 e2 e3 e4 e5 e6 e7
    go_wp2_with fail
    refine (HCALL.out _ HP.out).mono ?_
    rintro e w9 ⟨x9, k9, y9, l9, rfl, hk9, ⟨M, hM, z9⟩, b9⟩
    have sv9 := Sits.below SV.out b9 lsv
    have sf9 := Sits.below SF.out b9 lsf
    have hp9 := (PR.below HP.out b9).mono b9.size
    have hb9 := hb.trans (b9.mono hb.size)
    clear b9 SV SF HP HCALL v0 v1 v2 v3 v4 v5 v6 f0 f1 hb
    go_upto_region 9 with fail
    obtain ⟨X, hX⟩ : ∃ X, w9.heap.size = X := ⟨_, rfl⟩
    obtain ⟨G, hG⟩ : ∃ G, X + 1 = G := ⟨_, rfl⟩
    obtain ⟨Y, hY⟩ : ∃ Y, G + 1 = Y := ⟨_, rfl⟩
    obtain ⟨wx, hwx⟩ : ∃ z, ((w9.alloc (.cells (cdCells (calmC q)) 38)).alloc (.cells #[.slice x9 p k9, .int .i64 lim] 41)).alloc (.cells (pkCells (h 0)) 45) = z := ⟨_, rfl⟩
    have hbx : Below w9.heap.size w9 wx := by rw [← hwx]; exact (((Below.refl _ _).alloc (Nat.le_refl _) _).alloc (by simp) _).alloc (by simp; omega) _
    have SX : Hid (Sits wx X (cdCells (calmC q)) 38) := by show Sits _ _ _ _; rw [← hwx]; exact ((Sits.new' hX).alloc _).alloc _
    have SG : Hid (Sits wx G #[.slice x9 p k9, .int .i64 lim] 41) := by show Sits _ _ _ _; rw [← hwx]; exact (Sits.new' (by simp; omega)).alloc _
    have SY : Hid (Sits wx Y (pkCells (h 0)) 45) := by show Sits _ _ _ _; rw [← hwx]; exact Sits.new' (by simp; omega)
    have SV : Hid (Sits wx V (cdCells q) 38) := sv9.below hbx sv9.lt
    have SF : Hid (Sits wx F #[.slice a m c, .int .i64 lim] 41) := sf9.below hbx sf9.lt
    have HPx : Hid (PR wx.heap.size wx a m h) := (PR.below hp9 hbx).mono hbx.size
    have HZ : Hid (ZI M w9.heap.size wx x9 (p * 6) (flat (shiftF h 1))) := ZI.below z9 hbx
    have HBx : Hid (Below w.heap.size w wx) := hb9.trans (hbx.mono hb9.size)
    have hVX : V < X := by have := sv9.lt; omega
    have hFX : F < X := by have := sf9.lt; omega
    have hVM : V < M := by omega
    have hFM : F < M := by omega
    rw [hwx, hX, hG, hY]
    clear hwx hbx sv9 sf9 hp9 hb9 z9 hX hM
    obtain ⟨bh, oh, rfl, hbl2, hch⟩ := PR.at HPx.out hm0
    have HH : Hid (PAt wx bh (oh + 0 * 6) (h 0)) := hch 0 hm0
    clear hch
    have lx := Sits.lt SX.out
    have lg := Sits.lt SG.out
    have ly := Sits.lt SY.out
    have lv2 := Sits.lt SV.out
    have lf2 := Sits.lt SF.out
    refine wp_region_quiet (C := fun w' => Below wx.heap.size wx w') (by kernel_rfl) (by kernel_rfl) ((Below.refl _ _).drew) ?_
    simp only []
    repeat (first
      | go_big_quiet_skip
      | (go_big_quiet_want
         unfold Oper.quiet
         apply Exists.intro
         refine ⟨fun w' hw' => ?_, ?_⟩
         (obtain ⟨x0, x1, x2, x3, x4, x5, x6⟩ := cd_cells (Sits.below SX.out hw' lx)
          dsimp only [calmC] at x0 x1 x2 x3 x4 x5 x6
          have g0 : w'.cell? ⟨G, 0, none⟩ = some (.slice x9 p k9) := (Sits.below SG.out hw' lg).cell 0
          have f0 : w'.cell? ⟨F, 0, none⟩ = some (.slice (some ⟨bh, oh, none⟩) m c) := (Sits.below SF.out hw' lf2).cell 0
          have y0 : w'.cell? ⟨Y, 0, none⟩ = some (.int .i64 (h 0).id) := (Sits.below SY.out hw' ly).cell 0
          have y1 : w'.cell? ⟨Y, 1, none⟩ = some (.int .i64 (h 0).flow) := (Sits.below SY.out hw' ly).cell 1
          have y2 : w'.cell? ⟨Y, 2, none⟩ = some (.int .i64 (h 0).host) := (Sits.below SY.out hw' ly).cell 2
          have y3 : w'.cell? ⟨Y, 3, none⟩ = some (.int .i64 (h 0).size) := (Sits.below SY.out hw' ly).cell 3
          have y4 : w'.cell? ⟨Y, 4, none⟩ = some (.int .i64 (h 0).tm) := (Sits.below SY.out hw' ly).cell 4
          have y5 : w'.cell? ⟨Y, 5, none⟩ = some (.int .i64 (h 0).ecn) := (Sits.below SY.out hw' ly).cell 5
          obtain ⟨d0, d1, d2, d3, d4, d5⟩ := PAt.below HH.out hw' hbl2
          simp only [Nat.zero_mul, Nat.add_zero] at d0 d1 d2 d3 d4 d5
          go_simp
          first
            | exact rfl)
         simp only [Act.put, List.setIfInBounds_toArray, List.set_cons_zero, List.set_cons_succ]
         go_big_quiet_on))
    refine wpQuiet_nil ?_
    intro w10 hw10
    have SX1 : Hid (Sits w10 X (cdCells (calmC q)) 38) := Sits.below SX.out hw10 lx
    have SG1 : Hid (Sits w10 G #[.slice x9 p k9, .int .i64 lim] 41) := Sits.below SG.out hw10 lg
    have SV1 : Hid (Sits w10 V (cdCells q) 38) := Sits.below SV.out hw10 lv2
    have SF1 : Hid (Sits w10 F #[.slice (some ⟨bh, oh, none⟩) m c, .int .i64 lim] 41) := Sits.below SF.out hw10 lf2
    have HZ1 : Hid (ZI M w9.heap.size w10 x9 (p * 6) (flat (shiftF h 1))) := ZI.below HZ.out hw10
    have HB1 : Hid (Below w.heap.size w w10) := (HBx.out).trans (hw10.mono (HBx.out).size)
    clear hw10 SX SG SY SV SF HPx HZ HBx HH
    obtain ⟨x0, x1, x2, x3, x4, x5, x6⟩ := cd_cells SX1.out
    dsimp only [calmC] at x0 x1 x2 x3 x4 x5 x6
    have g0 : w10.cell? ⟨G, 0, none⟩ = some (.slice x9 p k9) := Sits.cell SG1.out 0
    have g1 : w10.cell? ⟨G, 1, none⟩ = some (.int .i64 lim) := Sits.cell SG1.out 1
    obtain ⟨v0, v1, v2, v3, v4, v5, v6⟩ := cd_cells SV1.out
    have fv := Sits.frozen SV1.out
    have f0 : w10.cell? ⟨F, 0, none⟩ = some (.slice (some ⟨bh, oh, none⟩) m c) := Sits.cell SF1.out 0
    have f1 : w10.cell? ⟨F, 1, none⟩ = some (.int .i64 lim) := Sits.cell SF1.out 1
    have ff := Sits.frozen SF1.out
    have hne1 : ¬ V = G := by omega
    have hne2 : ¬ V = F := by omega
    have hne3 : ¬ X = V := by omega
    have hne4 : ¬ G = V := by omega
    have hne5 : ¬ F = G := by omega
    go_wp2_with fail
    go_roundw
    case rel =>
      have t1 := cd_s6 (cd_s5 (cd_s4 (cd_s3 (cd_s2 (cd_s1 (cd_s0 SV1.out q.tg) q.iv) 0) q.nx) q.ct) q.la) false
      have z1 := zi_far (zi_far (zi_far (zi_far (zi_far (zi_far (zi_far (zi_far (zi_far HZ1.out hVM 0 (.int .i64 q.tg)) hVM 1 (.int .i64 q.iv)) hVM 2 (.int .i64 0)) hVM 3 (.int .i64 q.nx)) hVM 4 (.int .i64 q.ct)) hVM 5 (.int .i64 q.la)) hVM 6 (.bool false)) hFM 0 (.slice x9 p k9)) hFM 1 (.int .i64 lim)
      refine ⟨calmC q, x9, p, k9, shiftF h 1, Sits.other (Sits.other t1 (by omega) _) (by omega) _, f2_s1 (f2_s0 (Sits.other (Sits.other (Sits.other (Sits.other (Sits.other (Sits.other (Sits.other SF1.out (by omega) _) (by omega) _) (by omega) _) (by omega) _) (by omega) _) (by omega) _) (by omega) _) _) _, z1.pr, hk9, by omega, calmC_good HQ.out, HT.out, ?_, ?_, ?_⟩
      · have := fifo_shift HB.out 1 (by omega)
        rw [hpm] at this
        exact this
      · intro j hj
        have := HA.out (1 + j) (by omega)
        exact this
      · exact Below.setCell (Below.setCell (Below.setCell (Below.setCell (Below.setCell (Below.setCell (Below.setCell (Below.setCell (Below.setCell HB1.out hV0 _) hV0 _) hV0 _) hV0 _) hV0 _) hV0 _) hV0 _) (by show w.heap.size ≤ F; omega) _) (by show w.heap.size ≤ F; omega) _
    case measure =>
      have h1 := HFL.out
      have h2 := flen_of (f2_s1 (f2_s0 (Sits.other (Sits.other (Sits.other (Sits.other (Sits.other (Sits.other (Sits.other SF1.out (B' := V) (k := 0) (by omega) (.int .i64 q.tg)) (B' := V) (k := 1) (by omega) (.int .i64 q.iv)) (B' := V) (k := 2) (by omega) (.int .i64 0)) (B' := V) (k := 3) (by omega) (.int .i64 q.nx)) (B' := V) (k := 4) (by omega) (.int .i64 q.ct)) (B' := V) (k := 5) (by omega) (.int .i64 q.la)) (B' := V) (k := 6) (by omega) (.bool false)) (.slice x9 p k9)) (.int .i64 lim))
      omega

set_option maxRecDepth 100000 in
theorem lifted (os : Os) (started : os.Started) (H : Type) (enc : TypeId × Value → H) :
    ReturnsInHanded {} Try.checked os 6 .any (Rows.fnCalmSpec.pre6 enc Try.prog Try.f6 Rows.fnCalmRow.domain false) (Rows.fnCalmSpec.post enc Try.prog Try.f6 false true false false) := by
  refine returnsInHanded_of_change (C := Try.checked) own started (by kernel_rfl) Try.func6
    (ChangeSpec.witness6 (enc := enc) (C := Try.checked) false ⟨#[], #[.slice none 0 0], []⟩ 8 (by kernel_rfl) (by kernel_rfl) (by kernel_rfl) (by kernel_rfl)) ?_
  intro W base args ds gs before hval0 hW hcnd _
  have hval : ∀ (j : Nat) t v, Try.f6.params[j]? = some t → args[j]? = some v → Value.okWide Try.prog W .any base t v := hval0
  have hW' := hW
  obtain ⟨p, q, hA0, hV, rfl, hfz, hnd⟩ := hW
  have hA : DataW.TrodAll enc Try.prog W 0 (fun _ => true) true Try.f6.params.toList args.toList ds p := hA0
  rw [Try.params6] at hA hval
  obtain ⟨v0, vs0, d0, ds0, p0, q0, hargs, rfl, rfl, h0, r0⟩ := trodAll_cons hA
  obtain ⟨rfl, rfl, rfl⟩ := trodAll_nil r0
  obtain rfl : args = #[v0] := by cases args; simp_all
  obtain ⟨rfl, rfl⟩ := trodVars_none hV
  obtain ⟨a0, len0, cap0, rfl⟩ := okWide_slice Try.underlying22 (hval 0 22 v0 rfl rfl)
  have k0 := h0
  have lt0 : ∀ x ∈ p0, x.block < W.heap.size := by obtain ⟨m, hm⟩ := k0; exact DataW.trod_lt m _ _ _ hm
  obtain ⟨z0, w0⟩ : ∃ zs, IsRow .u8 W a0 len0 cap0 zs := by
    obtain ⟨fuel, hf⟩ := h0
    rcases open_ints Try.underlying22 Try.underlying5 (by kernel_rfl) hf with ⟨hcs, _⟩ | ⟨x, l, c, zs, hcs, _, hl, hm, hz, _, hcell, hwz⟩
    · simp [Value.cells] at hcs
      obtain ⟨rfl, rfl, rfl⟩ := hcs
      exact ⟨[], .inl ⟨rfl, rfl, rfl, rfl⟩⟩
    · simp [Value.cells] at hcs
      obtain ⟨rfl, rfl, rfl⟩ := hcs
      exact ⟨zs, .inr ⟨_, rfl, hl, hm, by simpa using hz, hcell, hwz⟩⟩
  clear hA0 hval0
  refine (walk a0 len0 cap0 z0 W w0).mono fun e W' ⟨he, bel⟩ => ?_
  subst he
  exact ⟨_, rfl, _, _, _, [], _, [], hW', trodAll_mk1 (shut_bool Try.underlying4 _), (trodAll_cons_mk (Below.trod laidOut (by kernel_rfl) (of_decide_eq_true (by kernel_rfl)) k0 bel lt0) trodAll_mk0), rfl, bel.frame _, fun h => by cases h⟩

theorem over : Rows.fnCalmRow.holds Try.pinned (OpenSpec.ofChange Rows.fnCalmSpec) :=
  OpenClaim.holds_of_wide 6 Try.f6 rfl rfl rfl rfl rfl rfl rfl ⟨rfl, rfl, rfl, rfl, rfl⟩ rfl rfl rfl rfl rfl (by kernel_rfl) Try.func6 (by kernel_rfl)
    (of_decide_eq_true (by kernel_rfl)) (by unfold Func.isWrapper; first | (rw [if_pos (by decide +kernel)]; kernel_rfl) | (rw [if_neg (by decide +kernel)]; exact ⟨rfl, rfl⟩))
    (fun os started H enc _ => lifted os started H enc)

theorem proved : Rows.FnCalmSaid := over
end Go.Proofs.Ytfflheebjbdnoac.fnCalm
namespace Go.Proofs.Ytfflheebjbdnoac
theorem fnCalm_holds : Rows.FnCalmSaid := fnCalm.proved
#print axioms fnCalm_holds
end Go.Proofs.Ytfflheebjbdnoac
