/-
  Whatever bytes the law FnRedProbs draws its Red from, it returns true and leaves the bytes as they were; no condition.
-/
import Derived.Test.YtboomccnfnaboabRows
import Derived.WalkKit
import Derived.ProofKit
import Derived.OpenShut
import Derived.Test.YtboomccnfnaboabChance3
import Derived.Test.YtboomccnfnaboabDrawRed2
import Derived.ShutString
import Derived.ChangeOld
import Derived.Below
namespace Go.Proofs.Ytboomccnfnaboab.fnRedProbs
open Go.ChangeShapes Go.WideShapes Go.ChangeAt Go.RowKit
open Go.ChangeMaps (open_string shut_string)
set_option linter.unusedVariables false

theorem own : ownKnob Try.prog.godebug = none := by kernel_rfl
theorem laidOut : laidOutB Try.prog = true := by kernel_rfl

/-- A slice of integers that came in. -/
def IsRow (k : IntKind) (w : World) (a : Option Addr) (len cap : Nat) (zs : List Int) : Prop :=
  (a = none ∧ len = 0 ∧ cap = 0 ∧ zs = []) ∨
  ∃ x, a = some x ∧ len ≤ cap ∧ cap ≤ maxLen ∧ zs.length = cap ∧ (∀ i, i < zs.length → w.cell? (x.add i) = some (.int k (zs.getD i 0))) ∧ ∀ n ∈ zs, (Lit.int k n).wf = true

theorem code_of {w : World} {a : Option Addr} {len cap : Nat} {zs : List Int} (h : IsRow .u8 w a len cap zs) : len ≤ 9223372036854775807 ∧ Code w w.heap.size a len := by
  rcases h with ⟨rfl, rfl, rfl, rfl⟩ | ⟨x, rfl, hl, hm, hz, hcell, hwz⟩
  · exact ⟨by omega, .inl rfl⟩
  · unfold maxLen at hm
    refine ⟨by omega, ?_⟩
    by_cases h0 : len = 0
    · exact .inl h0
    · obtain ⟨b, off, rfl, hc⟩ := ints_at hcell (by omega)
      refine .inr ⟨b, off, rfl, World.block_lt_of_cell? w _ (hc 0 (by omega)), fun k hk => ?_⟩
      have hb := bounds_u8 (hwz (zs.getD k 0) (by rw [List.getD_eq_getElem?_getD, List.getElem?_eq_getElem (by omega)]; exact List.getElem_mem _))
      exact ⟨zs.getD k 0, hb.1, hb.2, hc k (by omega)⟩

theorem new_good : (Rd.mk 1000 5000 6553 0 0).good = true := by decide
/-- The chance is no less the longer ago the last one was hit. -/
theorem grown_mono {r s : Rd} (hm : r.mid) (hs : s = ⟨r.mn, r.mx, r.mp, r.avg, r.cnt + 1⟩) (hc : r.cnt < 1000000) : s.mid ∧ grownF r ≤ grownF s ∧ 0 ≤ grownF r ∧ grownF r ≤ 65536 := by
  obtain ⟨p0, p1⟩ := plainF_bd hm
  have hsm : s.mid := by
    subst hs
    obtain ⟨hg, h1, h2⟩ := hm
    obtain ⟨g1, g2, g3, g4, g5, g6, g7, g8, g9⟩ := r.good_iff.1 hg
    exact ⟨(Rd.good_iff _).2 ⟨g1, g2, g3, g4, g5, g6, g7, by show 0 ≤ r.cnt + 1; omega, by show r.cnt + 1 ≤ 1000000; omega⟩, h1, h2⟩
  have hp : plainF s = plainF r := by subst hs; rfl
  have e1 := (satMul_mid hm).1
  have e2 := (satMul_mid hsm).1
  have hr : restF s = restF r - plainF r := by
    unfold restF
    rw [e1, e2, hp]
    have : s.cnt = r.cnt + 1 := by subst hs; rfl
    rw [this, Int.add_mul]
    omega
  have hb := chanceF_bd hm.1
  have hb' : chanceF r = grownF r := by unfold chanceF; rw [if_neg hm.2.1, if_neg hm.2.2]
  rw [hb'] at hb
  refine ⟨hsm, ?_, hb⟩
  by_cases h : restF r - plainF r ≤ plainF r
  · have : grownF s = 65536 := by unfold grownF; rw [hr, hp, if_pos h]
    omega
  · have h' : ¬ restF r ≤ plainF r := by omega
    have e3 : grownF s = plainF r * 65536 / (restF r - plainF r) := by unfold grownF; rw [hr, hp, if_neg h]
    have e4 : grownF r = plainF r * 65536 / restF r := by unfold grownF; rw [if_neg h']
    rw [e3, e4]
    refine (Int.le_ediv_iff_mul_le (by omega)).2 ?_
    have h1 : plainF r * 65536 / restF r * restF r ≤ plainF r * 65536 := Int.ediv_mul_le _ (by omega)
    have h2 : 0 ≤ plainF r * 65536 / restF r := Int.ediv_nonneg (by omega) (by omega)
    have h3 := Int.mul_le_mul_of_nonneg_left (show restF r - plainF r ≤ restF r by omega) h2
    omega

set_option maxHeartbeats 4000000 in
theorem walk (a0 : Option Addr) (len0 cap0 : Nat) (z0 : List Int) (w : World) (w0 : IsRow .u8 w a0 len0 cap0 z0) :
    Calls Try.prog 8 #[.slice a0 len0 cap0] w fun e w' => e = .returned (.bool true) ∧ Below w.heap.size w w' := by
  obtain ⟨hl, hcode⟩ := code_of w0
  clear w0
  have HC : Hid (Code w w.heap.size a0 len0) := hcode
  clear hcode
  go_enter Try.func8, Try.ntmps8
  go_wp2_with (go_at_call 39; refine (drawRedProb a0 len0 cap0 _ hl HC.out).mono ?_; rintro e w1 ⟨r, rfl, hr, b1⟩)
  obtain ⟨V, hV⟩ : ∃ V, w1.heap.size = V := ⟨_, rfl⟩
  obtain ⟨wv, hwv⟩ : ∃ x, w1.alloc (.cells (rdCells r) 68) = x := ⟨_, rfl⟩
  have s1 : Sits wv V (rdCells r) 68 := by rw [← hwv]; exact Sits.new' hV
  have b2 : Below w.heap.size w wv := by rw [← hwv]; exact b1.alloc b1.size _
  have lV : w.heap.size ≤ V := by rw [← hV]; exact b1.size
  rw [hwv, hV]
  clear hwv hV b1 HC
  obtain ⟨p, hp⟩ : ∃ p, probF r = p := ⟨_, rfl⟩
  refine (iredProb_any r _).mono ?_
  rintro e w2 ⟨rfl, b3⟩
  rw [hp]
  have s2 := s1.below b3 s1.lt
  replace b2 := b2.trans (b3.mono b2.size)
  clear b3 s1
  go_wp2_with fail
  refine (iredNew_any 1000 5000 6553 _).mono ?_
  rintro e w3 ⟨rfl, b3⟩
  rw [new_good, if_pos rfl]
  have s3 := s2.below b3 s2.lt
  replace b2 := b2.trans (b3.mono b2.size)
  clear b3 s2
  have l3 := s3.lt
  have S3 : Hid (Sits w3 V (rdCells r) 68) := s3
  obtain ⟨d0, d1, d2, d3, d4⟩ := rd_cells s3
  have fz := s3.frozen
  clear s3
  obtain ⟨r1, r2, r3, r4, r5⟩ := hr
  have HP : Hid (probF r = p) := hp
  clear hp
  cases hg : r.good
  case false =>
    have p0 : p = 0 := by rw [← HP.out]; unfold probF; simp [hg]
    have p0' : (p == 0) = true := by simpa using p0
    clear p0
    go_wp2_with (go_at_call 41; refine (sredOk_any r _).mono ?_; rintro e w4 ⟨rfl, k4⟩; rw [hg]; have s4 := Sits.kept (Sits.alloc S3.out _) k4; obtain ⟨i0, i1, i2, i3, i4⟩ := rd_cells (Sits.kept (Sits.new w3 (rdCells ⟨1000, 5000, 6553, 0, 0⟩) 68) k4); dsimp only at i0 i1 i2 i3 i4; clear d0 d1 d2 d3 d4 fz; obtain ⟨d0, d1, d2, d3, d4⟩ := rd_cells s4; have fz := s4.frozen; have l4 := s4.lt; have S4 : Hid (Sits w4 V (rdCells r) 68) := s4; clear s4; replace b2 := (b2.alloc b2.size _).trans (k4.1.mono (by have := b2.size; simp; omega)); clear k4)
    go_ret
    exact ⟨rfl, b2⟩
  case true =>
  obtain ⟨g1, g2, g3, g4, g5, g6, g7, g8, g9⟩ := r.good_iff.1 hg
  by_cases h1 : r.avg < r.mn * 65536
  · have p0 : p = 0 := by rw [← HP.out]; unfold probF; simp [hg, h1]
    have p0' : (p == 0) = true := by simpa using p0
    clear p0
    go_wp2_with (go_at_call 41; refine (sredOk_any r _).mono ?_; rintro e w4 ⟨rfl, k4⟩; rw [hg]; have s4 := Sits.kept (Sits.alloc S3.out _) k4; clear d0 d1 d2 d3 d4 fz; obtain ⟨d0, d1, d2, d3, d4⟩ := rd_cells s4; have fz := s4.frozen; have l4 := s4.lt; have S4 : Hid (Sits w4 V (rdCells r) 68) := s4; clear s4; replace b2 := (b2.alloc b2.size _).trans (k4.1.mono (by have := b2.size; simp; omega)); clear k4)
    go_ret
    exact ⟨rfl, b2⟩
  by_cases h2 : r.mx * 65536 ≤ r.avg
  · have p0 : p = 65536 := by rw [← HP.out]; unfold probF; simp [hg, h1, h2]
    have p0' : (p == 65536) = true := by simpa using p0
    clear p0
    go_wp2_with (go_at_call 41; refine (sredOk_any r _).mono ?_; rintro e w4 ⟨rfl, k4⟩; rw [hg]; have s4 := Sits.kept (Sits.alloc S3.out _) k4; clear d0 d1 d2 d3 d4 fz; obtain ⟨d0, d1, d2, d3, d4⟩ := rd_cells s4; have fz := s4.frozen; have l4 := s4.lt; have S4 : Hid (Sits w4 V (rdCells r) 68) := s4; clear s4; replace b2 := (b2.alloc b2.size _).trans (k4.1.mono (by have := b2.size; simp; omega)); clear k4)
    go_ret
    exact ⟨rfl, b2⟩
  have hm : r.mid := ⟨hg, h1, h2⟩
  have hpm : p = grownF r := by rw [← HP.out]; unfold probF; simp [hg, h1, h2]
  have hpb : 0 ≤ p ∧ p ≤ 65536 := by
    have := chanceF_bd hg
    have e : chanceF r = grownF r := by unfold chanceF; rw [if_neg h1, if_neg h2]
    omega
  obtain ⟨pb0, pb1⟩ := hpb
  by_cases h3 : 1000000 ≤ r.cnt
  · clear hpm hm
    go_wp2_with (go_at_call 41; refine (sredOk_any r _).mono ?_; rintro e w4 ⟨rfl, k4⟩; rw [hg]; have s4 := Sits.kept (Sits.alloc S3.out _) k4; clear d0 d1 d2 d3 d4 fz; obtain ⟨d0, d1, d2, d3, d4⟩ := rd_cells s4; have fz := s4.frozen; have l4 := s4.lt; have S4 : Hid (Sits w4 V (rdCells r) 68) := s4; clear s4; replace b2 := (b2.alloc b2.size _).trans (k4.1.mono (by have := b2.size; simp; omega)); clear k4)
    go_ret
    exact ⟨rfl, b2.alloc b2.size _⟩
  · obtain ⟨hsm, hle, _, _⟩ := grown_mono (s := ⟨r.mn, r.mx, r.mp, r.avg, r.cnt + 1⟩) hm rfl (by omega)
    have hps : probF ⟨r.mn, r.mx, r.mp, r.avg, r.cnt + 1⟩ = grownF ⟨r.mn, r.mx, r.mp, r.avg, r.cnt + 1⟩ := by
      obtain ⟨k1, k2, k3⟩ := hsm
      unfold probF
      rw [if_pos k1, if_neg k2, if_neg k3]
    obtain ⟨p2, hp2⟩ : ∃ p2, probF ⟨r.mn, r.mx, r.mp, r.avg, r.cnt + 1⟩ = p2 := ⟨_, rfl⟩
    have hge : p ≤ p2 := by rw [← hp2, hps, hpm]; exact hle
    have HP2 : Hid (probF ⟨r.mn, r.mx, r.mp, r.avg, r.cnt + 1⟩ = p2) := hp2
    clear hpm hm hsm hle hps hp2
    go_wp2_with (first | (go_at_call 41; refine (sredOk_any r _).mono ?_; rintro e w4 ⟨rfl, k4⟩; rw [hg]; have s4 := Sits.kept (Sits.alloc S3.out _) k4; clear d0 d1 d2 d3 d4 fz; obtain ⟨d0, d1, d2, d3, d4⟩ := rd_cells s4; have fz := s4.frozen; have l4 := s4.lt; have S4 : Hid (Sits w4 V (rdCells r) 68) := s4; clear s4; replace b2 := (b2.alloc b2.size _).trans (k4.1.mono (by have := b2.size; simp; omega)); clear k4) | (go_at_call 40; refine (iredProb_any ⟨r.mn, r.mx, r.mp, r.avg, r.cnt + 1⟩ _).mono ?_; rintro e w5 ⟨rfl, b5⟩; rw [HP2.out]))
    go_ret
    exact ⟨rfl, (b2.alloc b2.size _).trans (b5.mono (by have := b2.size; simp; omega))⟩

set_option maxRecDepth 100000 in
theorem lifted (os : Os) (started : os.Started) (H : Type) (enc : TypeId × Value → H) :
    ReturnsInHanded {} Try.checked os 8 .any (Rows.fnRedProbsSpec.pre6 enc Try.prog Try.f8 Rows.fnRedProbsRow.domain false) (Rows.fnRedProbsSpec.post enc Try.prog Try.f8 false true false false) := by
  refine returnsInHanded_of_change (C := Try.checked) own started (by kernel_rfl) Try.func8
    (ChangeSpec.witness6 (enc := enc) (C := Try.checked) false ⟨#[], #[.slice none 0 0], []⟩ 8 (by kernel_rfl) (by kernel_rfl) (by kernel_rfl) (by kernel_rfl)) ?_
  intro W base args ds gs before hval0 hW hcnd _
  have hval : ∀ (j : Nat) t v, Try.f8.params[j]? = some t → args[j]? = some v → Value.okWide Try.prog W .any base t v := hval0
  have hW' := hW
  obtain ⟨p, q, hA0, hV, rfl, hfz, hnd⟩ := hW
  have hA : DataW.TrodAll enc Try.prog W 0 (fun _ => true) true Try.f8.params.toList args.toList ds p := hA0
  rw [Try.params8] at hA hval
  obtain ⟨v0, vs0, d0, ds0, p0, q0, hargs, rfl, rfl, h0, r0⟩ := trodAll_cons hA
  obtain ⟨rfl, rfl, rfl⟩ := trodAll_nil r0
  obtain rfl : args = #[v0] := by cases args; simp_all
  obtain ⟨rfl, rfl⟩ := trodVars_none hV
  obtain ⟨a0, len0, cap0, rfl⟩ := okWide_slice Try.underlying22 (hval 0 22 v0 rfl rfl)
  have k0 := h0
  have lt0 : ∀ x ∈ p0, x.block < W.heap.size := by obtain ⟨m, hm⟩ := k0; exact DataW.trod_lt m _ _ _ hm
  obtain ⟨z0, w0⟩ : ∃ zs, IsRow .u8 W a0 len0 cap0 zs := by
    obtain ⟨fuel, hf⟩ := h0
    rcases open_ints Try.underlying22 Try.underlying5 (by kernel_rfl) hf with ⟨hcs, _⟩ | ⟨x, l, c, zs, hcs, _, hl, hm, hz, _, hcell, hwz⟩
    · simp [Value.cells] at hcs
      obtain ⟨rfl, rfl, rfl⟩ := hcs
      exact ⟨[], .inl ⟨rfl, rfl, rfl, rfl⟩⟩
    · simp [Value.cells] at hcs
      obtain ⟨rfl, rfl, rfl⟩ := hcs
      exact ⟨zs, .inr ⟨_, rfl, hl, hm, by simpa using hz, hcell, hwz⟩⟩
  clear hA0 hval0
  refine (walk a0 len0 cap0 z0 W w0).mono fun e W' ⟨he, bel⟩ => ?_
  subst he
  exact ⟨_, rfl, _, _, _, [], _, [], hW', trodAll_mk1 (shut_bool Try.underlying4 _), (trodAll_cons_mk (Below.trod laidOut (by kernel_rfl) (of_decide_eq_true (by kernel_rfl)) k0 bel lt0) trodAll_mk0), rfl, bel.frame _, fun h => by cases h⟩

theorem over : Rows.fnRedProbsRow.holds Try.pinned (OpenSpec.ofChange Rows.fnRedProbsSpec) :=
  OpenClaim.holds_of_wide 8 Try.f8 rfl rfl rfl rfl rfl rfl rfl ⟨rfl, rfl, rfl, rfl, rfl⟩ rfl rfl rfl rfl rfl (by kernel_rfl) Try.func8 (by kernel_rfl)
    (of_decide_eq_true (by kernel_rfl)) (by unfold Func.isWrapper; first | (rw [if_pos (by decide +kernel)]; kernel_rfl) | (rw [if_neg (by decide +kernel)]; exact ⟨rfl, rfl⟩))
    (fun os started H enc _ => lifted os started H enc)

theorem proved : Rows.FnRedProbsSaid := over
end Go.Proofs.Ytboomccnfnaboab.fnRedProbs
namespace Go.Proofs.Ytboomccnfnaboab
theorem fnRedProbs_holds : Rows.FnRedProbsSaid := fnRedProbs.proved
#print axioms fnRedProbs_holds
end Go.Proofs.Ytboomccnfnaboab
