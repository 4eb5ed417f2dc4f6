/-
  Whatever bytes the law FnPies draws its Pie and its delay from, where the program's table of steps lies in its variable, it returns true and leaves the bytes as they were.
-/
import Derived.Test.YtkeccjomnmpcoacDoorRows
import Derived.WalkKit
import Derived.ProofKit
import Derived.OpenShut
import Derived.Test.YtkeccjomnmpcoacDoorLaid
import Derived.Test.YtkeccjomnmpcoacDoorDrawPie2
import Derived.Deep.Slices
import Derived.ShutString
import Derived.ChangeOld
import Derived.Below
namespace Go.Proofs.YtkeccjomnmpcoacDoor.fnPies
open Go.ChangeShapes Go.WideShapes Go.ChangeAt Go.RowKit
open Go.ChangeMaps (open_string shut_string)
set_option linter.unusedVariables false

theorem own : ownKnob Tryd.prog.godebug = none := by kernel_rfl
theorem laidOut : laidOutB Tryd.prog = true := by kernel_rfl
theorem cellsInt : Tryd.prog.cellsOf 3 = 1 := by kernel_rfl

/-- A slice of integers that came in: nil, or each cell holds its number. -/
def IsRow (k : IntKind) (w : World) (a : Option Addr) (len cap : Nat) (zs : List Int) : Prop :=
  (a = none ∧ len = 0 ∧ cap = 0 ∧ zs = []) ∨ ∃ x, a = some x ∧ len ≤ cap ∧ cap ≤ maxLen ∧ zs.length = cap ∧ (∀ i, i < zs.length → w.cell? (x.add i) = some (.int k (zs.getD i 0))) ∧ ∀ n ∈ zs, (Lit.int k n).wf = true

theorem code_of {w : World} {a : Option Addr} {len cap : Nat} {zs : List Int} (h : IsRow .u8 w a len cap zs) : len ≤ 9223372036854775807 ∧ Code w w.heap.size a len := by
  rcases h with ⟨rfl, rfl, rfl, rfl⟩ | ⟨x, rfl, hl, hm, hz, hcell, hwz⟩
  · exact ⟨by omega, .inl rfl⟩
  · unfold maxLen at hm
    refine ⟨by omega, ?_⟩
    by_cases h0 : len = 0
    · exact .inl h0
    · obtain ⟨b, off, rfl, hc⟩ := ints_at hcell (by omega)
      refine .inr ⟨b, off, rfl, World.block_lt_of_cell? w _ (hc 0 (by omega)), fun k hk => ?_⟩
      have hb := bounds_u8 (hwz (zs.getD k 0) (by rw [List.getD_eq_getElem?_getD, List.getElem?_eq_getElem (by omega)]; exact List.getElem_mem _))
      exact ⟨zs.getD k 0, hb.1, hb.2, hc k (by omega)⟩


theorem tdiv_mono {a b c : Int} (hc : 1 ≤ c) (h : a ≤ b) : a.tdiv c ≤ b.tdiv c := by
  by_cases ha : 0 ≤ a
  · rw [Int.tdiv_eq_ediv_of_nonneg ha, Int.tdiv_eq_ediv_of_nonneg (by omega)]
    exact Int.ediv_le_ediv (by omega) h
  · by_cases hb : 0 ≤ b
    · have h1 : 0 ≤ (-a).tdiv c := by rw [Int.tdiv_eq_ediv_of_nonneg (by omega)]; exact Int.ediv_nonneg (by omega) (by omega)
      have h2 : 0 ≤ b.tdiv c := by rw [Int.tdiv_eq_ediv_of_nonneg hb]; exact Int.ediv_nonneg hb (by omega)
      rw [Int.neg_tdiv] at h1
      omega
    · have h1 : (-b).tdiv c ≤ (-a).tdiv c := by
        rw [Int.tdiv_eq_ediv_of_nonneg (by omega), Int.tdiv_eq_ediv_of_nonneg (by omega)]
        exact Int.ediv_le_ediv (by omega) (by omega)
      rw [Int.neg_tdiv, Int.neg_tdiv] at h1
      omega
/-- A greater delay, above 0, makes no chance that is less. -/
theorem prF_mono (r : Pe) (d : Int) (h : 0 < d) : prF r d ≤ prF r (d + 1) := by
  have hq : quF r d ≤ quF r (d + 1) := by
    have := scaleF_bd r.pr
    exact tdiv_mono (by omega) (by omega)
  have hc : chF r d ≤ chF r (d + 1) := by
    unfold chF
    (repeat' split) <;> omega
  have hp : p0F r d ≤ p0F r (d + 1) := by
    unfold p0F
    rw [if_neg (by omega), if_neg (by omega)]
    omega
  unfold prF clF
  (repeat' split) <;> omega
theorem bu_ends (r : Pe) (d : Int) (hg : r.good = true) : buF r d ≤ r.bu ∨ (prF r d = 0 ∧ d < r.tg.tdiv 2) := by
  obtain ⟨g1, g2, g3, g4, g5, g6, g7, g8⟩ := r.good_iff.1 hg
  by_cases c : prF r d = 0 ∧ d < r.tg.tdiv 2 ∧ r.od < r.tg.tdiv 2
  · exact .inr ⟨c.1, c.2.1⟩
  · refine .inl ?_
    unfold buF
    rw [if_neg c]
    split <;> omega


set_option maxHeartbeats 4000000 in
theorem walk (a0 : Option Addr) (len0 cap0 : Nat) (z0 : List Int) (w : World) (w0 : IsRow .u8 w a0 len0 cap0 z0) (hs : Steps w) :
    Calls Tryd.prog 3 #[.slice a0 len0 cap0] w fun e w' => e = .returned (.bool true) ∧ Below w.heap.size w w' := by
  obtain ⟨hl, hcode⟩ := code_of w0
  clear w0
  have HC : Hid (Code w w.heap.size a0 len0) := hcode
  have HST : Hid (∀ W, Below w.heap.size w W → Steps W) := fun W hb => hs.below hb hs.lt
  clear hcode hs
  have e2048 : scaleB 0 = 2048 := by decide
  have HNG : Hid ((Pe.mk 15000000 0 0 150000000).good = true) := by show _ = _; decide
  go_enter Tryd.func3, Tryd.ntmps3
  go_wp2_with (go_at_call 5; refine (drawPieUpdate a0 len0 cap0 _ hl HC.out).mono ?_; rintro e w1 ⟨r, d, rfl, hr, hd, b1⟩)
  unfold inP64 at hd
  obtain ⟨V, hV⟩ : ∃ V, w1.heap.size = V := ⟨_, rfl⟩
  obtain ⟨wv, hwv⟩ : ∃ x, w1.alloc (.cells (peCells r) 24) = x := ⟨_, rfl⟩
  have s1 : Sits wv V (peCells r) 24 := by rw [← hwv]; exact Sits.new' hV
  have b2 : Below w.heap.size w wv := by rw [← hwv]; exact b1.alloc b1.size _
  rw [hwv, hV]
  clear hwv hV b1 HC
  refine (ipieUpdate_any r d _ (HST.out _ b2)).mono ?_
  rintro e w2 ⟨rfl, b3⟩
  have s2 := s1.below b3 s1.lt
  replace b2 := b2.trans (b3.mono b2.size)
  clear b3 s1
  cases hm : r.may d
  case false =>
    have hu : r.upd d = Pe.zero := by unfold Pe.upd; rw [hm]; rfl
    rw [hu]
    have S2 : Hid (Sits w2 V (peCells r) 24) := s2
    have l2 := s2.lt
    clear s2 hu hm
    have HX : Hid (∀ W, W = w2.alloc (.cells (peCells Pe.zero) 24) → Sits W w2.heap.size (peCells Pe.zero) 24 ∧ Sits W V (peCells r) 24 ∧ Below w.heap.size w W) := by
      rintro W rfl
      exact ⟨Sits.new _ _ _, Sits.alloc S2.out _, b2.alloc b2.size _⟩
    clear S2 b2
    go_wp2_with (first | (go_at_call 7; refine (ipieNew_any 15000000 _).mono ?_; rintro e w3 ⟨rfl, b3⟩; rw [HNG.out, if_pos rfl]; obtain ⟨x2, s2, bb⟩ := HX.out _ rfl; have s3 := s2.below b3 s2.lt; have x3 := x2.below b3 x2.lt; have b4 := bb.trans (b3.mono bb.size); clear x2 s2 bb b3; obtain ⟨q0, q1, q2, q3⟩ := pe_cells s3; obtain ⟨y0, y1, y2, y3⟩ := pe_cells x3; have l3 := s3.lt; have l4 := x3.lt; clear s3 x3; dsimp only [Pe.zero] at y0 y1 y2 y3) | (go_at_call 8; refine (ipieScale_any _ _ (HST.out _ (b4.alloc b4.size _))).mono ?_; rintro e w5 ⟨rfl, b5⟩; have b6 := (b4.alloc b4.size _).trans (b5.mono (by have := b4.size; simp; omega)); clear b5))
    go_ret
    exact ⟨rfl, b6⟩
  case true =>
    obtain ⟨hg, hi⟩ : r.good = true ∧ inB d 0 10000000000 = true := by unfold Pe.may at hm; simpa using hm
    have hdd : 0 ≤ d ∧ d ≤ 10000000000 := by simpa [inB] using hi
    obtain ⟨g1, g2, g3, g4, g5, g6, g7, g8⟩ := r.good_iff.1 hg
    have hu : r.upd d = ⟨r.tg, prF r d, d, buF r d⟩ := by unfold Pe.upd; rw [hm]; rfl
    have hng : Hid ((Pe.mk r.tg (prF r d) d (buF r d)).good = true) := next_good hg hdd.1 hdd.2
    have hu2 : Hid (d < 10000000000 → r.upd (d + 1) = ⟨r.tg, prF r (d + 1), d + 1, buF r (d + 1)⟩ ∧ r.may (d + 1) = true) := fun h => by
      have h2 : r.may (d + 1) = true := by unfold Pe.may inB; rw [hg]; simp; omega
      exact ⟨by unfold Pe.upd; rw [h2]; rfl, h2⟩
    have hmo := prF_mono r d
    have hbe := bu_ends r d hg
    have hpb := prF_bd r d
    have hpb2 := prF_bd r (d + 1)
    have hub := buF_bd (d := d) hg
    rw [hu]
    obtain ⟨P, hP⟩ : ∃ P, prF r d = P := ⟨_, rfl⟩
    obtain ⟨U, hU⟩ : ∃ P, buF r d = P := ⟨_, rfl⟩
    obtain ⟨P2, hP2⟩ : ∃ P, prF r (d + 1) = P := ⟨_, rfl⟩
    obtain ⟨U2, hU2⟩ : ∃ P, buF r (d + 1) = P := ⟨_, rfl⟩
    rw [hP] at hng hmo hbe hpb ⊢
    rw [hU] at hng hbe hub ⊢
    rw [hP2] at hu2 hmo hpb2
    rw [hU2] at hu2
    obtain ⟨T, hT⟩ : ∃ T, r.tg.tdiv 2 = T := ⟨_, rfl⟩
    have hTb : 0 ≤ T ∧ T ≤ 1000000000 := by rw [← hT, Int.tdiv_eq_ediv_of_nonneg (by omega)]; omega
    rw [hT] at hbe
    have S2 : Hid (Sits w2 V (peCells r) 24) := s2
    have l2 := s2.lt
    clear s2 hu hm hg hi hP hU hP2 hU2
    have HX : Hid (∀ W, W = w2.alloc (.cells (peCells ⟨r.tg, P, d, U⟩) 24) → Sits W w2.heap.size (peCells ⟨r.tg, P, d, U⟩) 24 ∧ Sits W V (peCells r) 24 ∧ Below w.heap.size w W) := by
      rintro W rfl
      exact ⟨Sits.new _ _ _, Sits.alloc S2.out _, b2.alloc b2.size _⟩
    clear S2 b2
    have hcs : (¬ d < 10000000000) ∨ (d < 10000000000 ∧ ¬ 0 < d) ∨ (d < 10000000000 ∧ 0 < d ∧ ¬ P2 < P) := by
      by_cases c : d < 10000000000
      · by_cases c2 : 0 < d
        · exact .inr (.inr ⟨c, c2, by have := hmo c2; omega⟩)
        · exact .inr (.inl ⟨c, c2⟩)
      · exact .inl c
    have hc2 : (U ≤ r.bu) ∨ (¬ U ≤ r.bu ∧ (P == 0) = true ∧ d < T) := by
      by_cases c : U ≤ r.bu
      · exact .inl c
      · rcases hbe with h | h
        · exact absurd h c
        · exact .inr ⟨c, by simpa using h.1, h.2⟩
    clear hmo hbe
    rcases hcs with c | ⟨c, c2⟩ | ⟨c, c2, c3⟩ <;> rcases hc2 with k | ⟨k, k2, k3⟩
    case inl.inr => exfalso; omega
    all_goals
      go_wp2_with (first | (go_at_call 7; refine (ipieNew_any 15000000 _).mono ?_; rintro e w3 ⟨rfl, b3⟩; rw [HNG.out, if_pos rfl]; obtain ⟨x2, s2, bb⟩ := HX.out _ rfl; have s3 := s2.below b3 s2.lt; have x3 := x2.below b3 x2.lt; have b4 := bb.trans (b3.mono bb.size); clear x2 s2 bb b3; obtain ⟨q0, q1, q2, q3⟩ := pe_cells s3; obtain ⟨y0, y1, y2, y3⟩ := pe_cells x3; have l3 := s3.lt; have l4 := x3.lt; have S3 : Hid (Sits w3 V (peCells r) 24 ∧ Sits w3 w2.heap.size (peCells ⟨r.tg, P, d, U⟩) 24) := ⟨s3, x3⟩; clear s3 x3) | (go_at_call 9; refine (ipieOk_any ⟨r.tg, P, d, U⟩ _).mono ?_; rintro e w5 ⟨rfl, k5⟩; rw [hng.out]; have s5 := Sits.kept (Sits.alloc S3.out.1 _) k5; have x5 := Sits.kept (Sits.alloc S3.out.2 _) k5; have b5 := (b4.alloc b4.size _).trans (k5.1.mono (by have := b4.size; simp; omega)); clear k5 q0 q1 q2 q3 y0 y1 y2 y3; obtain ⟨q0, q1, q2, q3⟩ := pe_cells s5; obtain ⟨y0, y1, y2, y3⟩ := pe_cells x5; have l5 := s5.lt; have l6 := x5.lt; have S5 : Hid (Sits w5 V (peCells r) 24 ∧ Sits w5 w2.heap.size (peCells ⟨r.tg, P, d, U⟩) 24) := ⟨s5, x5⟩; clear s5 x5) | (go_at_call 6; refine (ipieUpdate_any r (d + 1) _ (HST.out _ b5)).mono ?_; rintro e w6 ⟨rfl, b6⟩; rw [(hu2.out c).1, (hu2.out c).2]; have s6 := Sits.below S5.out.1 b6 l5; have x6 := Sits.below S5.out.2 b6 l6; replace b5 := b5.trans (b6.mono b5.size); clear b6 q0 q1 q2 q3 y0 y1 y2 y3; obtain ⟨q0, q1, q2, q3⟩ := pe_cells s6; obtain ⟨y0, y1, y2, y3⟩ := pe_cells x6; have l7 := s6.lt; have l8 := x6.lt; clear s6 x6))
      go_ret
      first | exact ⟨rfl, b5⟩ | exact ⟨rfl, b5.alloc b5.size _⟩

section
variable {H : Type} {enc : TypeId × Value → H} {W : World} {base : Nat} {sp : Nat → Bool} {held : Bool}

theorem openInt {n : Nat} {c : Value} {y : DataW H × List MemPlace} (h : DataW.trod enc Tryd.prog W base sp held n 3 [c] = some y) : ∃ z : Int, c = .int .i64 z ∧ (-9223372036854775808 ≤ z ∧ z ≤ 9223372036854775807) := by
  obtain ⟨z, h1, _, hw⟩ := DataW.trod_int Tryd.underlying3 h
  simp only [List.cons.injEq, and_true] at h1
  exact ⟨z, h1, bd hw⟩

end

set_option maxRecDepth 100000 in
theorem lifted (os : Os) (started : os.Started) (H : Type) (enc : TypeId × Value → H) :
    ReturnsInHanded {} Tryd.checked os 3 .any (fun w args => (Rows.fnPiesSpec.pre enc Tryd.prog Tryd.f3 [] false w args ∧ laidMetH Tryd.prog Rows.fnPiesRow.laid w) ∧ sizedMet enc Tryd.prog Tryd.f3 (OpenSpec.ofChange Rows.fnPiesSpec) false w args)
      (Rows.fnPiesSpec.post enc Tryd.prog Tryd.f3 false true false false) := by
  refine returnsInHanded_of_change_and (C := Tryd.checked) (X := fun w _ => laidMetH Tryd.prog Rows.fnPiesRow.laid w) (fun _ _ _ hh h => h.of_heap hh) own started (by kernel_rfl) Tryd.func3
    (ChangeSpec.witness_shaped (enc := enc) (C := Tryd.checked) (os := os) (X := fun w _ => laidMetH Tryd.prog Rows.fnPiesRow.laid w) false (World.doorLaid Tryd.prog 400 os) #[.slice none 0 0] 8 rfl (World.shaped_of_RefB (by kernel_rfl) (by kernel_rfl)) (by kernel_rfl) (by kernel_rfl) (by kernel_rfl) (door_met os _)) ?_
  intro W base args ds gs before hval0 hW _ _ hL _
  have hval : ∀ (j : Nat) t v, Tryd.f3.params[j]? = some t → args[j]? = some v → Value.okWide Tryd.prog W .any base t v := hval0
  have hW' := hW
  obtain ⟨p, q, hA0, hV0, rfl, hfz, hnd⟩ := hW
  have hA : DataW.TrodAll enc Tryd.prog W 0 (fun _ => true) true Tryd.f3.params.toList args.toList ds p := hA0
  have hV : DataW.TrodVars enc Tryd.prog W (fun _ => true) ["loop.example/g00453/impl.pieSteps"] gs q := hV0
  have hV1 := hV
  rw [Tryd.params3] at hA hval
  obtain ⟨v0, vs0, d0, ds0, p0, q0, hargs, rfl, rfl, h0, tl0⟩ := trodAll_cons hA
  obtain ⟨rfl, rfl, rfl⟩ := trodAll_nil tl0
  obtain rfl : args = #[v0] := by cases args; simp_all
  obtain ⟨gg, tt, gcs, gfuel, gd, gp, rfl, _⟩ := trodVars_one hV1
  have k0 := h0
  have lt0 : ∀ x ∈ p0, x.block < W.heap.size := by obtain ⟨m, hm⟩ := k0; exact DataW.trod_lt m _ _ _ hm
  obtain ⟨a0, len0, cap0, rfl⟩ := okWide_slice Tryd.underlying22 (hval 0 22 v0 rfl rfl)
  obtain ⟨z0, hin0⟩ : ∃ zs, IsRow .u8 W a0 len0 cap0 zs := by
    obtain ⟨fuel, hf⟩ := h0
    rcases open_ints Tryd.underlying22 Tryd.underlying5 (by kernel_rfl) hf with ⟨hcs, _⟩ | ⟨x, l, c, zs, hcs, _, hl, hm, hz, _, hcell, hwz⟩
    · simp [Value.cells] at hcs
      obtain ⟨rfl, rfl, rfl⟩ := hcs
      exact ⟨[], .inl ⟨rfl, rfl, rfl, rfl⟩⟩
    · simp [Value.cells] at hcs
      obtain ⟨rfl, rfl, rfl⟩ := hcs
      exact ⟨zs, .inr ⟨_, rfl, hl, hm, by simpa using hz, hcell, hwz⟩⟩
  clear hA0 hV0 hval0
  refine (walk a0 len0 cap0 z0 W hin0 (steps_of hL)).mono fun e W' ⟨he, bel⟩ => ?_
  subst he
  exact ⟨_, rfl, _, _, _, [], _, _, hW', trodAll_mk1 (shut_bool Tryd.underlying4 _), (trodAll_cons_mk (Below.trod laidOut (by kernel_rfl) (of_decide_eq_true (by kernel_rfl)) k0 bel lt0) trodAll_mk0), Below.trodVars laidOut bel (by kernel_rfl) hV, bel.frame _, fun h => by cases h⟩

theorem over : Rows.FnPiesSaid :=
  OpenClaim.holds_of_wide 3 Tryd.f3 rfl rfl rfl rfl rfl rfl rfl ⟨rfl, rfl, rfl, rfl, rfl⟩ rfl rfl rfl rfl rfl (by kernel_rfl) Tryd.func3 (by kernel_rfl)
    (of_decide_eq_true (by kernel_rfl)) (by unfold Func.isWrapper; first | (rw [if_pos (by decide +kernel)]; kernel_rfl) | (rw [if_neg (by decide +kernel)]; exact ⟨rfl, rfl⟩))
    (fun os started H enc _ => lifted os started H enc)

theorem plain (f : FuncId) (fn : Func) (hf : Tryd.pinned.checked.prog.funcNamed "loop.example/g00453/laws.FnPies" = some f) (hfn : Tryd.pinned.checked.prog.funcs[f]? = some fn) :
    false = Tryd.pinned.checked.prog.looks [] ∧ ∀ (j : Nat) t, fn.params[j]? = some t → Tryd.pinned.checked.prog.wantsStandIn t = false := by
  obtain rfl : f = 3 := Option.some.inj ((show Tryd.prog.funcNamed "loop.example/g00453/laws.FnPies" = some 3 by kernel_rfl).symm.trans hf) |>.symm
  obtain rfl : fn = Tryd.f3 := (Option.some.inj (Tryd.func3.symm.trans hfn)).symm
  refine ⟨by kernel_rfl, fun j t ht => ?_⟩
  rw [Tryd.params3] at ht
  have hm := Array.mem_of_getElem? ht
  have hall : (Tryd.f3.params.toList.all fun u => !Tryd.prog.wantsStandIn u) = true := by kernel_rfl
  rw [Tryd.params3] at hall
  exact (show Tryd.prog.wantsStandIn t = false by simpa using List.all_eq_true.1 hall t (by simpa using hm))

theorem proved : Rows.FnPiesCardSaid :=
  Claim7.holds_tied_plain_at .later [] _ _ _ _ over (fun _ h => by cases h) (by kernel_rfl) (fun _ h => by cases h) fnPies_row_tie rfl ⟨rfl, rfl⟩ (by kernel_rfl) rfl plain (by kernel_rfl)
end Go.Proofs.YtkeccjomnmpcoacDoor.fnPies
namespace Go.Proofs.YtkeccjomnmpcoacDoor
theorem fnPies_holds : Rows.FnPiesCardSaid := fnPies.proved
#print axioms fnPies_holds
end Go.Proofs.YtkeccjomnmpcoacDoor
