/-
  Whatever bytes the law FnMarks draws its own from, it returns true and leaves them as they were: a frame that is marked says so, nothing else of it turns but its sum, and marked again it is the same; no condition.
-/
import Derived.Test.YteehgkmohkiiaaaRows
import Derived.WalkKit
import Derived.ProofKit
import Derived.OpenShut
import Derived.Deep.Cut
import Derived.Test.YteehgkmohkiiaaaMarkLaw
import Derived.ShutString
import Derived.ChangeOld
import Derived.Below
namespace Go.Proofs.Yteehgkmohkiiaaa.fnMarks
open Go.ChangeShapes Go.WideShapes Go.ChangeAt Go.RowKit
open Go.ChangeMaps (open_string shut_string)
set_option linter.unusedVariables false

theorem own : ownKnob Try.prog.godebug = none := by kernel_rfl
theorem laidOut : laidOutB Try.prog = true := by kernel_rfl

/-- A slice of integers that came in. -/
def IsRow (k : IntKind) (w : World) (a : Option Addr) (len cap : Nat) (zs : List Int) : Prop :=
  (a = none ∧ len = 0 ∧ cap = 0 ∧ zs = []) ∨
  ∃ x, a = some x ∧ len ≤ cap ∧ cap ≤ maxLen ∧ zs.length = cap ∧ (∀ i, i < zs.length → w.cell? (x.add i) = some (.int k (zs.getD i 0))) ∧ ∀ n ∈ zs, (Lit.int k n).wf = true

theorem code_of {w : World} {a : Option Addr} {len cap : Nat} {zs : List Int} (h : IsRow .u8 w a len cap zs) : len ≤ 9223372036854775807 ∧ Code w w.heap.size a len := by
  rcases h with ⟨rfl, rfl, rfl, rfl⟩ | ⟨x, rfl, hl, hm, hz, hcell, hwz⟩
  · exact ⟨by omega, .inl rfl⟩
  · unfold maxLen at hm
    refine ⟨by omega, ?_⟩
    by_cases h0 : len = 0
    · exact .inl h0
    · obtain ⟨b, off, rfl, hc⟩ := ints_at hcell (by omega)
      refine .inr ⟨b, off, rfl, World.block_lt_of_cell? w _ (hc 0 (by omega)), fun k hk => ?_⟩
      have hb := bounds_u8 (hwz (zs.getD k 0) (by rw [List.getD_eq_getElem?_getD, List.getElem?_eq_getElem (by omega)]; exact List.getElem_mem _))
      exact ⟨zs.getD k 0, hb.1, hb.2, hc k (by omega)⟩


set_option maxRecDepth 100000 in
set_option maxHeartbeats 12000000 in
theorem walk (a0 : Option Addr) (len0 cap0 : Nat) (z0 : List Int) (w : World) (w0 : IsRow .u8 w a0 len0 cap0 z0) :
    Calls Try.prog 3 #[.slice a0 len0 cap0] w fun e w' => e = .returned (.bool true) ∧ Below w.heap.size w w' := by
  obtain ⟨hl, hcode⟩ := code_of w0
  clear w0
  have HC : Hid (Code w w.heap.size a0 len0) := hcode
  clear hcode
  go_enter Try.func3, Try.ntmps3
  go_wp2_with fail
  refine (drawMarkCe a0 len0 cap0 _ hl HC.out).mono ?_
  rintro e w1 ⟨y, n, cy, f, rfl, hn, hcap, hr, hf, b1⟩
  have HR : Hid (∀ U, Below w1.heap.size w1 U → Row .u8 U y n f) := fun U h => hr.below h
  have HF : Hid (Byt n f) := hf
  have HB : Hid (Below w.heap.size w w1) := b1
  have hnm : n ≤ 1048576 := by omega
  clear hr hf b1 HC hl
  cases hm : mkB f n
  case false =>
    have HM : Hid (mkB f n = false) := hm
    obtain ⟨R, hR⟩ : ∃ R, frR f n = R := ⟨_, rfl⟩
    obtain ⟨is, his⟩ : ∃ b, decide (codeF f n = 0) = b := ⟨_, rfl⟩
    have hway : is = false ∨ (is = true ∧ R.ecn = 0) := by
      unfold mkB at hm
      rw [his, hR] at hm
      cases is
      · exact .inl rfl
      · refine .inr ⟨rfl, ?_⟩
        simpa using hm
    have HEC : Hid (∀ U, Below w1.heap.size w1 U → Calls Try.prog 6 #[.slice y n cy] U fun e w' => e = .returned (.tuple #[.int .i64 R.ecn, .bool is]) ∧ Below U.heap.size U w') := fun U h => by
      have := iecn_all y n cy f U (HR.out U h) HF.out hnm hcap
      rw [hR, his] at this
      exact this
    obtain ⟨ec, hec⟩ : ∃ ec, R.ecn = ec := ⟨_, rfl⟩
    rw [hec] at HEC hway
    clear hm hR his hec
    go_upto_region 3 with (go_at_call 5; refine (imark_no y n cy f _ (HR.out _ (Below.refl _ _)) HF.out hnm hcap HM.out).mono ?_; rintro e w2 ⟨rfl, b2⟩)
    go_upto_region 4 with (go_at_call 6; refine (HEC.out _ b2).mono ?_; rintro e w3 ⟨rfl, b3⟩)
    have HB3 : Hid (Below w.heap.size w w3) := (HB.out).trans ((b2.trans (b3.mono b2.size)).mono (HB.out).size)
    clear b2 b3
    rcases hway with rfl | ⟨rfl, rfl⟩
    all_goals
      go_wp2_with (go_at_call 7; refine (isum_two _ _).mono ?_; rintro e w4 ⟨rfl, rfl⟩)
      go_ret
      exact ⟨rfl, (HB3.out).alloc (HB3.out).size _⟩
  case true =>
    have HM : Hid (mkB f n = true) := hm
    obtain ⟨hc, hfr, he⟩ := mkB_true hm
    obtain ⟨h24, h100, _⟩ := codeF_zero hc
    obtain ⟨e1, e2, e3, e4, e5, e6⟩ := ce_nums hc HF.out
    have hg := ce_good f n hc HF.out
    obtain ⟨G, hG⟩ : ∃ G, ceF f n = G := ⟨_, rfl⟩
    rw [hG] at e1 e2 e3 e4 e5 e6
    have hmG : mkB G n = true := by
      unfold mkB
      rw [decide_eq_true e1, show frR G n = (frOf f).ce by unfold frR; rw [if_pos e1]; exact e2]
      rfl
    have hX : buildF (frOf f).ce (n - 24) (fun i => f (24 + i)) = G := hG
    obtain ⟨R, hR⟩ : ∃ R, frOf f = R := ⟨_, rfl⟩
    rw [hR] at hg e2 hX
    have HMK : Hid (∀ U, Below w1.heap.size w1 U → Calls Try.prog 5 #[.slice y n cy] U fun e w' => ∃ (x : Option Addr) (c : Nat), e = .returned (.tuple #[.slice x n c, .bool true]) ∧ n ≤ c ∧ Row .u8 w' x n G ∧ Below U.heap.size U w') := fun U h => by
      have := imark_yes y n cy f U (HR.out U h) HF.out hnm hcap HM.out
      rw [hG] at this
      exact this
    have HMM : Hid (∀ U x c, n ≤ c → Row .u8 U x n G → Calls Try.prog 5 #[.slice x n c] U fun e w' => ∃ (x : Option Addr) (c : Nat), e = .returned (.tuple #[.slice x n c, .bool true]) ∧ n ≤ c ∧ Row .u8 w' x n G ∧ Below U.heap.size U w') := fun U x c hc hr => by
      have := imark_yes x n c G U hr e5 hnm hc hmG
      rw [e6] at this
      exact this
    have HEC : Hid (∀ U, Below w1.heap.size w1 U → Calls Try.prog 6 #[.slice y n cy] U fun e w' => e = .returned (.tuple #[.int .i64 R.ecn, .bool true]) ∧ Below U.heap.size U w') := fun U h => by
      have := iecn_all y n cy f U (HR.out U h) HF.out hnm hcap
      rw [hfr, hR, decide_eq_true hc] at this
      exact this
    have HPA : Hid (∀ U, Below w1.heap.size w1 U → Calls Try.prog 8 #[.slice y n cy] U fun e w' => ∃ (d : Option Addr) (cd : Nat), e = .returned (.tuple #[R.val d (n - 24) cd, .int .i64 0]) ∧ Row .u8 w' d (n - 24) (fun i => f (24 + i)) ∧ Below U.heap.size U w') := fun U h => by
      have := iparse_all y n cy f U (HR.out U h) HF.out hnm hcap
      rw [hfr, hR, hc, show datN f n = n - 24 by unfold datN; rw [if_pos hc]] at this
      refine this.mono ?_
      rintro e w' ⟨d, cd, rfl, hz, hb⟩
      exact ⟨d, cd, rfl, hz.row, hb⟩
    have HPB : Hid (∀ U x c, n ≤ c → Row .u8 U x n G → Calls Try.prog 8 #[.slice x n c] U fun e w' => ∃ (d : Option Addr) (cd : Nat), e = .returned (.tuple #[R.ce.val d (n - 24) cd, .int .i64 0]) ∧ Below U.heap.size U w') := fun U x c hcc hr => by
      have := iparse_all x n c G U hr e5 hnm hcc
      rw [e3, e1, show frR G n = R.ce by unfold frR; rw [if_pos e1]; exact e2] at this
      refine this.mono ?_
      rintro e w' ⟨d, cd, rfl, _, hb⟩
      exact ⟨d, cd, rfl, hb⟩
    have HBU : Hid (∀ U d cd, Row .u8 U d (n - 24) (fun i => f (24 + i)) → Calls Try.prog 9 #[R.ce.val d (n - 24) cd] U fun e w' => ∃ (x : Option Addr) (cx : Nat), e = .returned (.tuple #[.slice x n cx, .bool true]) ∧ Row .u8 w' x n G ∧ Below U.heap.size U w') := fun U d cd hr => by
      have := ibuild_yes R.ce d (n - 24) cd (fun i => f (24 + i)) U (good_In hg) (by omega) hg hr
      rw [hX, show 24 + (n - 24) = n by omega] at this
      refine this.mono ?_
      rintro e w' ⟨x, cx, rfl, ho, hb⟩
      exact ⟨x, cx, rfl, (ho.zn').row, hb⟩
    have hec : (R.ecn != 0) = true := by rw [hfr, hR] at he; simpa using he
    clear hm hc hfr he h24 e1 e2 e3 e4 e5 e6 hg hG hmG hX hR
    obtain ⟨d1, ec, i1, t1, p1, s1, q1, sp1, dp1⟩ := R
    simp only [Fr.val, Fr.ce] at HPA HPB HBU HEC hec
    go_upto_region 3 with (go_at_call 5; refine (HMK.out _ (Below.refl _ _)).mono ?_; rintro e w2 ⟨x, cx, rfl, hcx, hrx, b2⟩)
    have HX2 : Hid (∀ U, Below w2.heap.size w2 U → Row .u8 U x n G) := fun U h => hrx.below h
    have HB2 : Hid (∀ U, Below w2.heap.size w2 U → Below w1.heap.size w1 U) := fun U h => b2.trans (h.mono b2.size)
    clear hrx b2
    go_upto_region 4 with (go_at_call 6; refine (HEC.out _ (HB2.out _ (Below.refl _ _))).mono ?_; rintro e w3 ⟨rfl, b3⟩)
    go_upto_region 7 with (go_at_call 8; refine (HPA.out _ (HB2.out _ b3)).mono ?_; rintro e w4 ⟨d, cd, rfl, hrd, b4⟩)
    have b24 := b3.trans (b4.mono b3.size)
    obtain ⟨V, hV⟩ : ∃ V, w4.heap.size = V := ⟨_, rfl⟩
    obtain ⟨w5, hw5⟩ : ∃ z, w4.alloc (.cells #[.int .i64 d1, .int .i64 ec, .int .i64 i1, .int .i64 t1, .int .i64 p1, .int .i64 s1, .int .i64 q1, .int .i64 sp1, .int .i64 dp1, .slice d (n - 24) cd] 32) = z := ⟨_, rfl⟩
    have HV5 : Hid (Sits w5 V #[.int .i64 d1, .int .i64 ec, .int .i64 i1, .int .i64 t1, .int .i64 p1, .int .i64 s1, .int .i64 q1, .int .i64 sp1, .int .i64 dp1, .slice d (n - 24) cd] 32) := by show Sits _ _ _ _; rw [← hw5]; exact Sits.new' hV
    have b45 : Below w4.heap.size w4 w5 := by rw [← hw5]; exact (Below.refl _ _).alloc (Nat.le_refl _) _
    have HB5 : Hid (Below w2.heap.size w2 w5) := b24.trans (b45.mono b24.size)
    have HD5 : Hid (Row .u8 w5 d (n - 24) (fun i => f (24 + i))) := hrd.below b45
    have HDV : Hid (∀ W : World, (∀ k, k < V → W.heap[k]? = w5.heap[k]?) → Row .u8 W d (n - 24) (fun i => f (24 + i))) := fun W h => by
      rcases hrd with h0 | ⟨b, off, hb, hlt, hcell⟩
      · exact .inl h0
      · refine .inr ⟨b, off, hb, ?_, fun i hi => ?_⟩
        · have h1 : W.heap[b]? = w5.heap[b]? := h b (by omega)
          have h2 : w5.heap[b]? = w4.heap[b]? := b45.block b hlt
          have h3 : b < w4.heap.size := hlt
          have h4 : W.heap[b]? = some w4.heap[b] := by rw [h1, h2]; exact Array.getElem?_eq_getElem h3
          exact (Array.getElem?_eq_some_iff.1 h4).1
        · have h1 : W.heap[b]? = w4.heap[b]? := (h b (by omega)).trans (b45.block b hlt)
          exact (World.cell?_of_block (w := w4) (a := ⟨b, off + i, none⟩) h1).trans (hcell i hi)
    have hVl : V < w5.heap.size := Sits.lt HV5.out
    have hV2 : w2.heap.size ≤ V := by rw [← hV]; exact b24.size
    rw [hw5, hV]
    clear hw5 hV b45 b24 b3 b4 hrd HD5
    go_upto_region 8 with (go_at_call 8; refine (HPB.out _ x cx hcx (HX2.out _ HB5.out)).mono ?_; rintro e w6 ⟨g, cg, rfl, b6⟩)
    obtain ⟨Z, hZ⟩ : ∃ V, w6.heap.size = V := ⟨_, rfl⟩
    obtain ⟨w7, hw7⟩ : ∃ z, w6.alloc (.cells #[.int .i64 d1, .int .i64 3, .int .i64 i1, .int .i64 t1, .int .i64 p1, .int .i64 s1, .int .i64 q1, .int .i64 sp1, .int .i64 dp1, .slice g (n - 24) cg] 32) = z := ⟨_, rfl⟩
    have b57 : Below w5.heap.size w5 w7 := by rw [← hw7]; exact b6.alloc b6.size _
    have HZ7 : Hid (Sits w7 Z #[.int .i64 d1, .int .i64 3, .int .i64 i1, .int .i64 t1, .int .i64 p1, .int .i64 s1, .int .i64 q1, .int .i64 sp1, .int .i64 dp1, .slice g (n - 24) cg] 32) := by show Sits _ _ _ _; rw [← hw7]; exact Sits.new' hZ
    have HV7 : Hid (Sits w7 V #[.int .i64 d1, .int .i64 ec, .int .i64 i1, .int .i64 t1, .int .i64 p1, .int .i64 s1, .int .i64 q1, .int .i64 sp1, .int .i64 dp1, .slice d (n - 24) cd] 32) := Sits.below HV5.out b57 hVl
    have hVZ : V < Z := by rw [← hZ]; exact Nat.lt_of_lt_of_le hVl b6.size
    have HB7 : Hid (Below w2.heap.size w2 w7) := (HB5.out).trans (b57.mono (HB5.out).size)
    have HD7 : Hid (∀ W : World, (∀ k, k < V → W.heap[k]? = w7.heap[k]?) → Row .u8 W d (n - 24) (fun i => f (24 + i))) := fun W h => HDV.out W fun k hk => (h k hk).trans (b57.block k (by omega))
    rw [hw7, hZ]
    clear hw7 hZ b6 b57 HV5 HB5 HDV
    have fV := Sits.frozen HV7.out
    have v1 : w7.cell? ⟨V, 1, none⟩ = some (.int .i64 ec) := Sits.cell HV7.out 1
    go_upto_region 9 with fail
    obtain ⟨w8, hw8⟩ : ∃ z, w7.setCell ⟨V, 1, none⟩ (.int .i64 3) = z := ⟨_, rfl⟩
    have HV8 : Hid (Sits w8 V #[.int .i64 d1, .int .i64 3, .int .i64 i1, .int .i64 t1, .int .i64 p1, .int .i64 s1, .int .i64 q1, .int .i64 sp1, .int .i64 dp1, .slice d (n - 24) cd] 32) := by show Sits _ _ _ _; rw [← hw8]; exact Sits.set HV7.out 1 _
    have HZ8 : Hid (Sits w8 Z #[.int .i64 d1, .int .i64 3, .int .i64 i1, .int .i64 t1, .int .i64 p1, .int .i64 s1, .int .i64 q1, .int .i64 sp1, .int .i64 dp1, .slice g (n - 24) cg] 32) := by show Sits _ _ _ _; rw [← hw8]; exact Sits.other HZ7.out (by omega) _
    have HB8 : Hid (Below w2.heap.size w2 w8) := by show Below _ _ _; rw [← hw8]; exact (HB7.out).setCell hV2 _
    have HD8 : Hid (Row .u8 w8 d (n - 24) (fun i => f (24 + i))) := HD7.out w8 fun k hk => by rw [← hw8]; exact Below.heap_setCell _ ⟨V, 1, none⟩ _ k (by show k ≠ V; omega)
    rw [hw8]
    clear hw8 fV v1 HV7 HZ7 HB7 HD7
    obtain ⟨v0, v1, v2, v3, v4, v5, v6, v7, v8, v9⟩ := fr_cells' HV8.out
    go_upto_region 10 with (go_at_call 9; refine (HBU.out _ d cd HD8.out).mono ?_; rintro e w9 ⟨k, ck, rfl, hrk, b9⟩)
    have HV9 := Sits.below HV8.out b9 (Sits.lt HV8.out)
    have HZ9 := Sits.below HZ8.out b9 (Sits.lt HZ8.out)
    have HB9 : Hid (Below w2.heap.size w2 w9) := (HB8.out).trans (b9.mono (HB8.out).size)
    have HK9 : Hid (∀ U, Below w9.heap.size w9 U → Row .u8 U k n G) := fun U h => hrk.below h
    have hl9 := Sits.lt HV9
    have hz9 := Sits.lt HZ9
    have HVV : Hid (Sits w9 V _ _) := HV9
    have HZZ : Hid (Sits w9 Z _ _) := HZ9
    clear HV9 HZ9 b9 hrk v0 v1 v2 v3 v4 v5 v6 v7 v8 v9
    go_upto_region 11 with (go_at_call 5; refine (HMM.out _ x cx hcx (HX2.out _ HB9.out)).mono ?_; rintro e w10 ⟨u, cu, rfl, hcu, hru, b10⟩)
    obtain ⟨v0, v1, v2, v3, v4, v5, v6, v7, v8, v9⟩ := fr_cells' (Sits.below HVV.out b10 hl9)
    obtain ⟨z0, z1, z2, z3, z4, z5, z6, z7, z8, z9⟩ := fr_cells' (Sits.below HZZ.out b10 hz9)
    have HB10 : Hid (Below w2.heap.size w2 w10) := (HB9.out).trans (b10.mono (HB9.out).size)
    have HU10 : Hid (Row .u8 w10 u n G) := hru
    have HK10 : Hid (Row .u8 w10 k n G) := HK9.out _ b10
    have HX10 : Hid (Row .u8 w10 x n G) := HX2.out _ HB10.out
    clear hru b10
    go_wp2_with (first | (go_at_call 10; with_reducible refine (same_yes k x n ck cx G G _ HK10.out HX10.out (fun _ _ => rfl)).mono ?_; rintro e w11 ⟨rfl, rfl⟩) | (go_at_call 10; with_reducible refine (same_yes u x n cu cx G G _ HU10.out HX10.out (fun _ _ => rfl)).mono ?_; rintro e w12 ⟨rfl, rfl⟩))
    go_ret
    exact ⟨rfl, (HB.out).trans ((HB2.out _ HB10.out).mono (HB.out).size)⟩

set_option maxRecDepth 100000 in
theorem lifted (os : Os) (started : os.Started) (H : Type) (enc : TypeId × Value → H) :
    ReturnsInHanded {} Try.checked os 3 .any (Rows.fnMarksSpec.pre6 enc Try.prog Try.f3 Rows.fnMarksRow.domain false) (Rows.fnMarksSpec.post enc Try.prog Try.f3 false true false false) := by
  refine returnsInHanded_of_change (C := Try.checked) own started (by kernel_rfl) Try.func3
    (ChangeSpec.witness6 (enc := enc) (C := Try.checked) false ⟨#[], #[.slice none 0 0], []⟩ 8 (by kernel_rfl) (by kernel_rfl) (by kernel_rfl) (by kernel_rfl)) ?_
  intro W base args ds gs before hval0 hW hcnd _
  have hval : ∀ (j : Nat) t v, Try.f3.params[j]? = some t → args[j]? = some v → Value.okWide Try.prog W .any base t v := hval0
  have hW' := hW
  obtain ⟨p, q, hA0, hV, rfl, hfz, hnd⟩ := hW
  have hA : DataW.TrodAll enc Try.prog W 0 (fun _ => true) true Try.f3.params.toList args.toList ds p := hA0
  rw [Try.params3] at hA hval
  obtain ⟨v0, vs0, d0, ds0, p0, q0, hargs, rfl, rfl, h0, r0⟩ := trodAll_cons hA
  obtain ⟨rfl, rfl, rfl⟩ := trodAll_nil r0
  obtain rfl : args = #[v0] := by cases args; simp_all
  obtain ⟨rfl, rfl⟩ := trodVars_none hV
  obtain ⟨a0, len0, cap0, rfl⟩ := okWide_slice Try.underlying22 (hval 0 22 v0 rfl rfl)
  have k0 := h0
  have lt0 : ∀ x ∈ p0, x.block < W.heap.size := by obtain ⟨m, hm⟩ := k0; exact DataW.trod_lt m _ _ _ hm
  obtain ⟨z0, w0⟩ : ∃ zs, IsRow .u8 W a0 len0 cap0 zs := by
    obtain ⟨fuel, hf⟩ := h0
    rcases open_ints Try.underlying22 Try.underlying5 (by kernel_rfl) hf with ⟨hcs, _⟩ | ⟨x, l, c, zs, hcs, _, hl, hm, hz, _, hcell, hwz⟩
    · simp [Value.cells] at hcs
      obtain ⟨rfl, rfl, rfl⟩ := hcs
      exact ⟨[], .inl ⟨rfl, rfl, rfl, rfl⟩⟩
    · simp [Value.cells] at hcs
      obtain ⟨rfl, rfl, rfl⟩ := hcs
      exact ⟨zs, .inr ⟨_, rfl, hl, hm, by simpa using hz, hcell, hwz⟩⟩
  clear hA0 hval0
  refine (walk a0 len0 cap0 z0 W w0).mono fun e W' ⟨he, bel⟩ => ?_
  subst he
  exact ⟨_, rfl, _, _, _, [], _, [], hW', trodAll_mk1 (shut_bool Try.underlying4 _), (trodAll_cons_mk (Below.trod laidOut (by kernel_rfl) (of_decide_eq_true (by kernel_rfl)) k0 bel lt0) trodAll_mk0), rfl, bel.frame _, fun h => by cases h⟩

theorem over : Rows.fnMarksRow.holds Try.pinned (OpenSpec.ofChange Rows.fnMarksSpec) :=
  OpenClaim.holds_of_wide 3 Try.f3 rfl rfl rfl rfl rfl rfl rfl ⟨rfl, rfl, rfl, rfl, rfl⟩ rfl rfl rfl rfl rfl (by kernel_rfl) Try.func3 (by kernel_rfl)
    (of_decide_eq_true (by kernel_rfl)) (by unfold Func.isWrapper; first | (rw [if_pos (by decide +kernel)]; kernel_rfl) | (rw [if_neg (by decide +kernel)]; exact ⟨rfl, rfl⟩))
    (fun os started H enc _ => lifted os started H enc)

theorem proved : Rows.FnMarksSaid := over
end Go.Proofs.Yteehgkmohkiiaaa.fnMarks
namespace Go.Proofs.Yteehgkmohkiiaaa
theorem fnMarks_holds : Rows.FnMarksSaid := fnMarks.proved
#print axioms fnMarks_holds
end Go.Proofs.Yteehgkmohkiiaaa
