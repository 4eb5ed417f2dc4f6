/-
  Whatever bytes the law FnHashes draws its frame from, it returns true and leaves the bytes as they were; no condition.
-/
import Derived.Test.YtboomccnfnaboabRows
import Derived.WalkKit
import Derived.ProofKit
import Derived.OpenShut
import Derived.Test.YtboomccnfnaboabHash2
import Derived.Test.YtboomccnfnaboabDrawTup
import Derived.ShutString
import Derived.ChangeOld
import Derived.Below
namespace Go.Proofs.Ytboomccnfnaboab.fnHashes
open Go.ChangeShapes Go.WideShapes Go.ChangeAt Go.RowKit
open Go.ChangeMaps (open_string shut_string)
set_option linter.unusedVariables false

theorem own : ownKnob Try.prog.godebug = none := by kernel_rfl
theorem laidOut : laidOutB Try.prog = true := by kernel_rfl

/-- A slice of integers that came in. -/
def IsRow (k : IntKind) (w : World) (a : Option Addr) (len cap : Nat) (zs : List Int) : Prop :=
  (a = none ∧ len = 0 ∧ cap = 0 ∧ zs = []) ∨
  ∃ x, a = some x ∧ len ≤ cap ∧ cap ≤ maxLen ∧ zs.length = cap ∧ (∀ i, i < zs.length → w.cell? (x.add i) = some (.int k (zs.getD i 0))) ∧ ∀ n ∈ zs, (Lit.int k n).wf = true

theorem code_of {w : World} {a : Option Addr} {len cap : Nat} {zs : List Int} (h : IsRow .u8 w a len cap zs) : len ≤ 9223372036854775807 ∧ Code w w.heap.size a len := by
  rcases h with ⟨rfl, rfl, rfl, rfl⟩ | ⟨x, rfl, hl, hm, hz, hcell, hwz⟩
  · exact ⟨by omega, .inl rfl⟩
  · unfold maxLen at hm
    refine ⟨by omega, ?_⟩
    by_cases h0 : len = 0
    · exact .inl h0
    · obtain ⟨b, off, rfl, hc⟩ := ints_at hcell (by omega)
      refine .inr ⟨b, off, rfl, World.block_lt_of_cell? w _ (hc 0 (by omega)), fun k hk => ?_⟩
      have hb := bounds_u8 (hwz (zs.getD k 0) (by rw [List.getD_eq_getElem?_getD, List.getElem?_eq_getElem (by omega)]; exact List.getElem_mem _))
      exact ⟨zs.getD k 0, hb.1, hb.2, hc k (by omega)⟩

theorem tu_cells {W : World} {B : Nat} {a b c d e : Value} {t : TypeId} (h : Sits W B #[a, b, c, d, e] t) : W.cell? ⟨B, 0, none⟩ = some a ∧ W.cell? ⟨B, 1, none⟩ = some b ∧ W.cell? ⟨B, 2, none⟩ = some c ∧ W.cell? ⟨B, 3, none⟩ = some d ∧ W.cell? ⟨B, 4, none⟩ = some e := ⟨h.cell 0, h.cell 1, h.cell 2, h.cell 3, h.cell 4⟩
theorem hash_no : hashF 0 0 0 0 0 (-1) = -1 := by
  unfold hashF
  rw [if_neg]
  decide
theorem hash_zero : 0 ≤ hashF 0 0 0 0 0 0 := by
  unfold hashF
  rw [if_pos (by decide)]
  exact (mixF_bd _ _ _).1
theorem hash_flow {r : Fr} {m : Nat} (hg : r.good m = true) : 0 ≤ hashF r.proto r.src r.dst r.srcP r.dstP 5 ∧ hashF r.proto r.src r.dst r.srcP r.dstP 5 ≤ 4294967295 := by
  have h : hashOk r.proto r.src r.dst r.srcP r.dstP 5 = true := by
    simp only [Fr.good, flB, Bool.and_eq_true] at hg
    unfold hashOk
    rw [hg.2.2.2.2.1.1, hg.2.2.2.2.1.2.1, hg.2.2.2.2.1.2.2.1, hg.2.2.2.2.1.2.2.2.1, hg.2.2.2.2.1.2.2.2.2]
    decide
  unfold hashF
  rw [if_pos h]
  exact mixF_bd _ _ _
theorem other_good {r : Fr} {m : Nat} (hg : r.good m = true) (k : Int) (k0 : 0 ≤ k) (k1 : k < 65536) : (Fr.mk r.dscp 0 k r.ttl r.proto r.src r.dst r.srcP r.dstP).good 0 = true := by
  simp only [Fr.good, Bool.and_eq_true] at hg ⊢
  exact ⟨hg.1, by decide, okB_in k0 (by simp; omega), hg.2.2.2.1, hg.2.2.2.2.1, by decide⟩

set_option maxHeartbeats 4000000 in
theorem walk (a0 : Option Addr) (len0 cap0 : Nat) (z0 : List Int) (w : World) (w0 : IsRow .u8 w a0 len0 cap0 z0) :
    Calls Try.prog 4 #[.slice a0 len0 cap0] w fun e w' => e = .returned (.bool true) ∧ Below w.heap.size w w' := by
  obtain ⟨hl, hcode⟩ := code_of w0
  clear w0
  go_enter Try.func4, Try.ntmps4
  go_wp2_with fail
  have B := Below.refl w.heap.size w
  refine (drawTupleOf a0 len0 cap0 _ hl hcode).mono ?_
  rintro o w1 ⟨r, x, m, c, rfl, hr, hm, b⟩
  replace B := B.trans (b.mono B.size)
  clear b hcode
  have HI : Hid r.In := hr
  have HM : Hid ((m : Int) ≤ 9223372036854775807) := by show (m : Int) ≤ _; omega
  obtain ⟨ok, hok⟩ : ∃ b, r.good m = b := ⟨_, rfl⟩
  have HG : Hid (r.good m = ok) := hok
  obtain ⟨d, e, i, t, p, s, q, sp, dp⟩ := r
  obtain ⟨hd, he, hi, ht, hp, hs, hq, hsp, hdp⟩ := hr
  dsimp only at hd he hi ht hp hs hq hsp hdp
  clear hm
  go_wp2_with fail
  obtain ⟨V, hV⟩ : ∃ V, w1.heap.size = V := ⟨_, rfl⟩
  obtain ⟨u1, hu⟩ : ∃ uu, w1.alloc (.cells #[.int .i64 d, .int .i64 e, .int .i64 i, .int .i64 t, .int .i64 p, .int .i64 s, .int .i64 q, .int .i64 sp, .int .i64 dp, .slice x m c] 32) = uu := ⟨_, rfl⟩
  have s1 : Sits u1 V #[.int .i64 d, .int .i64 e, .int .i64 i, .int .i64 t, .int .i64 p, .int .i64 s, .int .i64 q, .int .i64 sp, .int .i64 dp, .slice x m c] 32 := by rw [← hu]; exact Sits.new' hV
  have lo : w.heap.size ≤ V := by rw [← hV]; exact B.size
  replace B : Below w.heap.size w u1 := by rw [← hu]; exact B.alloc B.size _
  rw [hu, hV]
  clear hu hV
  refine (itupleOf_any ⟨d, e, i, t, p, s, q, sp, dp⟩ x m c _ HI.out HM.out).mono ?_
  rintro o w2 ⟨rfl, b⟩
  have s2 := s1.below b s1.lt
  replace B := B.trans (b.mono B.size)
  clear s1 b
  cases ok
  case false =>
    have HT : Hid (tuOf ⟨d, e, i, t, p, s, q, sp, dp⟩ m = ⟨0, 0, 0, 0, 0⟩) := by show _ = _; unfold tuOf; rw [if_neg]; rw [hok]; decide
    rw [HT.out, HG.out]
    dsimp only [Tu.val]
    have h1 := hash_no
    have h2 := hash_zero
    obtain ⟨H0, hH0⟩ : ∃ h, hashF 0 0 0 0 0 0 = h := ⟨_, rfl⟩
    rw [hH0] at h2
    have S2 : Hid (Sits w2 V #[.int .i64 d, .int .i64 e, .int .i64 i, .int .i64 t, .int .i64 p, .int .i64 s, .int .i64 q, .int .i64 sp, .int .i64 dp, .slice x m c] 32) := s2
    obtain ⟨p0, p1, p2, p3, p4, p5, p6, p7, p8, p9⟩ := fr_cells' s2
    have lv := s2.lt
    clear s2 hok
    go_wp2_with fail
    refine (sframeOk_any ⟨d, e, i, t, p, s, q, sp, dp⟩ x m c _ HI.out HM.out).mono ?_
    rintro o w3 ⟨rfl, b⟩
    rw [HG.out]
    replace B := (B.alloc B.size _).trans (b.mono (by have := B.size; simp; omega))
    clear b p0 p1 p2 p3 p4 p5 p6 p7 p8 p9
    go_wp2_with fail
    refine (ihash_any 0 0 0 0 0 (-1) _ (by omega) (by omega) (by omega) (by omega) (by omega) (by omega)).mono ?_
    rintro o w4 ⟨rfl, b⟩
    rw [h1]
    replace B := B.trans (b.mono B.size)
    clear b
    go_wp2_with fail
    refine (ihash_any 0 0 0 0 0 0 _ (by omega) (by omega) (by omega) (by omega) (by omega) (by omega)).mono ?_
    rintro o w5 ⟨rfl, b⟩
    rw [hH0]
    replace B := B.trans (b.mono B.size)
    clear b hH0 h1
    go_wp2_with fail
    go_ret
    exact ⟨rfl, B⟩
  case true =>
    have HT : Hid (tuOf ⟨d, e, i, t, p, s, q, sp, dp⟩ m = ⟨p, s, q, sp, dp⟩) := by show _ = _; unfold tuOf; rw [if_pos hok]
    rw [HT.out, HG.out]
    dsimp only [Tu.val]
    obtain ⟨hb0, hb1⟩ := hash_flow hok
    have HO : Hid (∀ k : Int, 0 ≤ k → k < 65536 → (Fr.mk d 0 k t p s q sp dp).good 0 = true) := fun k k0 k1 => other_good (r := ⟨d, e, i, t, p, s, q, sp, dp⟩) hok k k0 k1
    dsimp only at hb0 hb1
    obtain ⟨H, hH⟩ : ∃ h, hashF p s q sp dp 5 = h := ⟨_, rfl⟩
    rw [hH] at hb0 hb1
    have HH : Hid (hashF p s q sp dp 5 = H) := hH
    have id0 : 0 ≤ i ∧ i ≤ 65535 := by
      have := hok
      simp only [Fr.good, Bool.and_eq_true, okB, decide_eq_true_eq] at this
      have h := this.2.2.1
      have e16 : (2 : Int) ^ (16 : Int).toNat = 65536 := by rfl
      rw [e16] at h
      omega
    clear hok hH
    obtain ⟨p0, p1, p2, p3, p4, p5, p6, p7, p8, p9⟩ := fr_cells' s2
    have fz := s2.frozen
    have lv := s2.lt
    have S2 : Hid (Sits w2 V #[.int .i64 d, .int .i64 e, .int .i64 i, .int .i64 t, .int .i64 p, .int .i64 s, .int .i64 q, .int .i64 sp, .int .i64 dp, .slice x m c] 32) := s2
    clear s2
    go_wp2_with fail
    obtain ⟨K, hK⟩ : ∃ k, (i + 1) % 65536 = k := ⟨_, rfl⟩
    have kb : 0 ≤ K ∧ K < 65536 := by omega
    rw [hK]
    clear hK fz p0 p1 p2 p3 p4 p5 p6 p7 p8 p9
    obtain ⟨X, hX⟩ : ∃ V, w2.heap.size = V := ⟨_, rfl⟩
    obtain ⟨u2, hu⟩ : ∃ uu, (w2.alloc (.cells #[.int .i64 p, .int .i64 s, .int .i64 q, .int .i64 sp, .int .i64 dp] 40)).alloc (.cells #[.int .i64 d, .int .i64 0, .int .i64 K, .int .i64 t, .int .i64 p, .int .i64 s, .int .i64 q, .int .i64 sp, .int .i64 dp, .slice none 0 0] 32) = uu := ⟨_, rfl⟩
    have sT : Sits u2 X #[.int .i64 p, .int .i64 s, .int .i64 q, .int .i64 sp, .int .i64 dp] 40 := by rw [← hu]; exact (Sits.new' hX).alloc _
    replace B : Below w.heap.size w u2 := by rw [← hu]; exact (B.alloc B.size _).alloc (by have := B.size; simp; omega) _
    rw [hu]
    try rw [hX]
    clear hu hX S2
    have hgood := HO.out K kb.1 kb.2
    have HT2 : Hid (tuOf ⟨d, 0, K, t, p, s, q, sp, dp⟩ 0 = ⟨p, s, q, sp, dp⟩) := by show _ = _; unfold tuOf; rw [if_pos hgood]
    have HG2 : Hid ((Fr.mk d 0 K t p s q sp dp).good 0 = true) := hgood
    clear hgood
    refine (itupleOf_any ⟨d, 0, K, t, p, s, q, sp, dp⟩ none 0 0 _ (good_in' HG2.out) (by omega)).mono ?_
    rintro o w3 ⟨rfl, b⟩
    rw [HT2.out, HG2.out]
    dsimp only [Tu.val]
    have sT3 := sT.below b sT.lt
    replace B := B.trans (b.mono B.size)
    clear b sT
    obtain ⟨t0, t1, t2, t3, t4⟩ := tu_cells sT3
    have lt := sT3.lt
    go_wp2_with fail
    clear t0 t1 t2 t3 t4 lt
    obtain ⟨Y, hY⟩ : ∃ V, w3.heap.size = V := ⟨_, rfl⟩
    obtain ⟨u3, hu⟩ : ∃ uu, w3.alloc (.cells #[.int .i64 p, .int .i64 s, .int .i64 q, .int .i64 sp, .int .i64 dp] 40) = uu := ⟨_, rfl⟩
    have sT4 : Sits u3 X #[.int .i64 p, .int .i64 s, .int .i64 q, .int .i64 sp, .int .i64 dp] 40 := by rw [← hu]; exact sT3.alloc _
    have sU4 : Sits u3 Y #[.int .i64 p, .int .i64 s, .int .i64 q, .int .i64 sp, .int .i64 dp] 40 := by rw [← hu]; exact Sits.new' hY
    replace B : Below w.heap.size w u3 := by rw [← hu]; exact B.alloc B.size _
    rw [hu]
    try rw [hY]
    clear hu hY sT3
    refine (ihash_any p s q sp dp 5 _ hp hs hq hsp hdp (by omega)).mono ?_
    rintro o w4 ⟨rfl, b⟩
    rw [HH.out]
    have sT5 := sT4.below b sT4.lt
    have sU5 := sU4.below b sU4.lt
    replace B := B.trans (b.mono B.size)
    clear b sT4 sU4
    obtain ⟨t0, t1, t2, t3, t4⟩ := tu_cells sT5
    obtain ⟨u0, u1', u2', u3', u4'⟩ := tu_cells sU5
    clear sT5 sU5
    go_wp2_with fail
    refine (ihash_any p s q sp dp 5 _ hp hs hq hsp hdp (by omega)).mono ?_
    rintro o w5 ⟨rfl, b⟩
    rw [HH.out]
    replace B := B.trans (b.mono B.size)
    clear b
    go_wp2_with fail
    go_ret
    exact ⟨rfl, B⟩

set_option maxRecDepth 100000 in
theorem lifted (os : Os) (started : os.Started) (H : Type) (enc : TypeId × Value → H) :
    ReturnsInHanded {} Try.checked os 4 .any (Rows.fnHashesSpec.pre6 enc Try.prog Try.f4 Rows.fnHashesRow.domain false) (Rows.fnHashesSpec.post enc Try.prog Try.f4 false true false false) := by
  refine returnsInHanded_of_change (C := Try.checked) own started (by kernel_rfl) Try.func4
    (ChangeSpec.witness6 (enc := enc) (C := Try.checked) false ⟨#[], #[.slice none 0 0], []⟩ 8 (by kernel_rfl) (by kernel_rfl) (by kernel_rfl) (by kernel_rfl)) ?_
  intro W base args ds gs before hval0 hW hcnd _
  have hval : ∀ (j : Nat) t v, Try.f4.params[j]? = some t → args[j]? = some v → Value.okWide Try.prog W .any base t v := hval0
  have hW' := hW
  obtain ⟨p, q, hA0, hV, rfl, hfz, hnd⟩ := hW
  have hA : DataW.TrodAll enc Try.prog W 0 (fun _ => true) true Try.f4.params.toList args.toList ds p := hA0
  rw [Try.params4] at hA hval
  obtain ⟨v0, vs0, d0, ds0, p0, q0, hargs, rfl, rfl, h0, r0⟩ := trodAll_cons hA
  obtain ⟨rfl, rfl, rfl⟩ := trodAll_nil r0
  obtain rfl : args = #[v0] := by cases args; simp_all
  obtain ⟨rfl, rfl⟩ := trodVars_none hV
  obtain ⟨a0, len0, cap0, rfl⟩ := okWide_slice Try.underlying22 (hval 0 22 v0 rfl rfl)
  have k0 := h0
  have lt0 : ∀ x ∈ p0, x.block < W.heap.size := by obtain ⟨m, hm⟩ := k0; exact DataW.trod_lt m _ _ _ hm
  obtain ⟨z0, w0⟩ : ∃ zs, IsRow .u8 W a0 len0 cap0 zs := by
    obtain ⟨fuel, hf⟩ := h0
    rcases open_ints Try.underlying22 Try.underlying5 (by kernel_rfl) hf with ⟨hcs, _⟩ | ⟨x, l, c, zs, hcs, _, hl, hm, hz, _, hcell, hwz⟩
    · simp [Value.cells] at hcs
      obtain ⟨rfl, rfl, rfl⟩ := hcs
      exact ⟨[], .inl ⟨rfl, rfl, rfl, rfl⟩⟩
    · simp [Value.cells] at hcs
      obtain ⟨rfl, rfl, rfl⟩ := hcs
      exact ⟨zs, .inr ⟨_, rfl, hl, hm, by simpa using hz, hcell, hwz⟩⟩
  clear hA0 hval0
  refine (walk a0 len0 cap0 z0 W w0).mono fun e W' ⟨he, bel⟩ => ?_
  subst he
  exact ⟨_, rfl, _, _, _, [], _, [], hW', trodAll_mk1 (shut_bool Try.underlying4 _), (trodAll_cons_mk (Below.trod laidOut (by kernel_rfl) (of_decide_eq_true (by kernel_rfl)) k0 bel lt0) trodAll_mk0), rfl, bel.frame _, fun h => by cases h⟩

theorem over : Rows.fnHashesRow.holds Try.pinned (OpenSpec.ofChange Rows.fnHashesSpec) :=
  OpenClaim.holds_of_wide 4 Try.f4 rfl rfl rfl rfl rfl rfl rfl ⟨rfl, rfl, rfl, rfl, rfl⟩ rfl rfl rfl rfl rfl (by kernel_rfl) Try.func4 (by kernel_rfl)
    (of_decide_eq_true (by kernel_rfl)) (by unfold Func.isWrapper; first | (rw [if_pos (by decide +kernel)]; kernel_rfl) | (rw [if_neg (by decide +kernel)]; exact ⟨rfl, rfl⟩))
    (fun os started H enc _ => lifted os started H enc)

theorem proved : Rows.FnHashesSaid := over
end Go.Proofs.Ytboomccnfnaboab.fnHashes
namespace Go.Proofs.Ytboomccnfnaboab
theorem fnHashes_holds : Rows.FnHashesSaid := fnHashes.proved
#print axioms fnHashes_holds
end Go.Proofs.Ytboomccnfnaboab
