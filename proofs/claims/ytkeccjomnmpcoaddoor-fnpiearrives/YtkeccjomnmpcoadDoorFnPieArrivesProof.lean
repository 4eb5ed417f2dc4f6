/-
  Whatever bytes the law FnPieArrives draws its Pie and its numbers from, where the program's table of steps lies in its variable, it returns true and leaves the bytes as they were.
-/
import Derived.Test.YtkeccjomnmpcoadDoorRows
import Derived.WalkKit
import Derived.ProofKit
import Derived.OpenShut
import Derived.Test.YtkeccjomnmpcoadDoorLaid
import Derived.Test.YtkeccjomnmpcoadDoorDrawPie2
import Derived.Test.YtkeccjomnmpcoadDoorPieArr2
import Derived.Deep.Slices
import Derived.ShutString
import Derived.ChangeOld
import Derived.Below
namespace Go.Proofs.YtkeccjomnmpcoadDoor.fnPieArrives
open Go.ChangeShapes Go.WideShapes Go.ChangeAt Go.RowKit
open Go.ChangeMaps (open_string shut_string)
set_option linter.unusedVariables false

theorem own : ownKnob Tryd.prog.godebug = none := by kernel_rfl
theorem laidOut : laidOutB Tryd.prog = true := by kernel_rfl
theorem cellsInt : Tryd.prog.cellsOf 3 = 1 := by kernel_rfl

/-- A slice of integers that came in: nil, or each cell holds its number. -/
def IsRow (k : IntKind) (w : World) (a : Option Addr) (len cap : Nat) (zs : List Int) : Prop :=
  (a = none ∧ len = 0 ∧ cap = 0 ∧ zs = []) ∨ ∃ x, a = some x ∧ len ≤ cap ∧ cap ≤ maxLen ∧ zs.length = cap ∧ (∀ i, i < zs.length → w.cell? (x.add i) = some (.int k (zs.getD i 0))) ∧ ∀ n ∈ zs, (Lit.int k n).wf = true

theorem code_of {w : World} {a : Option Addr} {len cap : Nat} {zs : List Int} (h : IsRow .u8 w a len cap zs) : len ≤ 9223372036854775807 ∧ Code w w.heap.size a len := by
  rcases h with ⟨rfl, rfl, rfl, rfl⟩ | ⟨x, rfl, hl, hm, hz, hcell, hwz⟩
  · exact ⟨by omega, .inl rfl⟩
  · unfold maxLen at hm
    refine ⟨by omega, ?_⟩
    by_cases h0 : len = 0
    · exact .inl h0
    · obtain ⟨b, off, rfl, hc⟩ := ints_at hcell (by omega)
      refine .inr ⟨b, off, rfl, World.block_lt_of_cell? w _ (hc 0 (by omega)), fun k hk => ?_⟩
      have hb := bounds_u8 (hwz (zs.getD k 0) (by rw [List.getD_eq_getElem?_getD, List.getElem?_eq_getElem (by omega)]; exact List.getElem_mem _))
      exact ⟨zs.getD k 0, hb.1, hb.2, hc k (by omega)⟩



set_option maxHeartbeats 4000000 in
theorem walk (a0 : Option Addr) (len0 cap0 : Nat) (z0 : List Int) (w : World) (w0 : IsRow .u8 w a0 len0 cap0 z0) (hs : Steps w) :
    Calls Tryd.prog 3 #[.slice a0 len0 cap0] w fun e w' => e = .returned (.bool true) ∧ Below w.heap.size w w' := by
  obtain ⟨hl, hcode⟩ := code_of w0
  clear w0
  have HC : Hid (Code w w.heap.size a0 len0) := hcode
  have HST : Hid (Steps w) := hs
  have hlt0 := hs.lt
  clear hcode hs
  have e2048 : scaleB 0 = 2048 := by decide
  go_enter Tryd.func3, Tryd.ntmps3
  go_wp2_with (go_at_call 4; refine (drawPieArrive a0 len0 cap0 _ hl HC.out).mono ?_; rintro e w1 ⟨r, a, n, k, rfl, hr, ha, hn, hk, b1⟩)
  unfold inP64 at ha hn hk
  obtain ⟨V, hV⟩ : ∃ V, w1.heap.size = V := ⟨_, rfl⟩
  obtain ⟨wv, hwv⟩ : ∃ x, w1.alloc (.cells (peCells r) 24) = x := ⟨_, rfl⟩
  have s1 : Sits wv V (peCells r) 24 := by rw [← hwv]; exact Sits.new' hV
  have b2 : Below w.heap.size w wv := by rw [← hwv]; exact b1.alloc b1.size _
  rw [hwv, hV]
  clear hwv hV b1 HC
  obtain ⟨H, hH⟩ : ∃ H, arrF r a n k = H := ⟨_, rfl⟩
  refine (ipieArrive_any r a n k _).mono ?_
  rintro e w2 ⟨rfl, b3⟩
  rw [hH]
  have s2 := s1.below b3 s1.lt
  replace b2 := b2.trans (b3.mono b2.size)
  clear b3 s1
  obtain ⟨q0, q1, q2, q3⟩ := pe_cells s2
  have S2 : Hid (Sits w2 V (peCells r) 24) := s2
  clear s2
  rcases fit_cases r a n k with ⟨hf, hc⟩ | ⟨hf, hg, h1, h2, h3⟩
  case inl =>
    have hE : H = -1 := by rw [← hH]; unfold arrF; rw [hf]; rfl
    subst hE
    have hc' : r.good = false ∨ (r.good = true ∧ a < 0) ∨ (r.good = true ∧ ¬ a < 0 ∧ 2147483648 ≤ a) ∨ (r.good = true ∧ ¬ a < 0 ∧ ¬ 2147483648 ≤ a ∧ n < 0) ∨ (r.good = true ∧ ¬ a < 0 ∧ ¬ 2147483648 ≤ a ∧ ¬ n < 0 ∧ k < 0) ∨ (r.good = true ∧ ¬ a < 0 ∧ ¬ 2147483648 ≤ a ∧ ¬ n < 0 ∧ ¬ k < 0 ∧ 3 < k) := by
      rcases hc with hg | ⟨hg, h1⟩ | ⟨hg, h1, h2⟩ | ⟨hg, h1, h2, h3⟩
      · exact .inl hg
      · simp [inB] at h1; by_cases c : a < 0
        · exact .inr (.inl ⟨hg, c⟩)
        · exact .inr (.inr (.inl ⟨hg, c, by omega⟩))
      · simp [inB] at h1; exact .inr (.inr (.inr (.inl ⟨hg, by omega, by omega, h2⟩)))
      · simp [inB] at h1 h3; by_cases c : k < 0
        · exact .inr (.inr (.inr (.inr (.inl ⟨hg, by omega, by omega, h2, c⟩))))
        · exact .inr (.inr (.inr (.inr (.inr ⟨hg, by omega, by omega, h2, c, by omega⟩))))
    clear hc hf hH
    rcases hc' with hg | ⟨hg, h1⟩ | ⟨hg, h0, h1⟩ | ⟨hg, h0, h1, h2⟩ | ⟨hg, h0, h1, h2, h3⟩ | ⟨hg, h0, h1, h2, h3, h4⟩
    all_goals
      go_wp2_with (first | (go_at_call 6; refine (spieOk_any r _).mono ?_; rintro e w3 ⟨rfl, k3⟩; rw [hg]; have b4 := b2.trans (k3.1.mono b2.size); have s3 := Sits.kept S2.out k3; clear q0 q1 q2 q3; obtain ⟨q0, q1, q2, q3⟩ := pe_cells s3; clear s3) | (go_at_call 7; refine (ipieScale_any _ _ (Steps.below HST.out b4 hlt0)).mono ?_; rintro e w5 ⟨rfl, b5⟩; replace b4 := b4.trans (b5.mono b4.size); clear b5))
      go_ret
      exact ⟨rfl, b4⟩
  case inr =>
    have hE : H = hitsF r a n k := by rw [← hH]; unfold arrF; rw [hf]; rfl
    clear hH hf
    have e1 : ¬ a < 0 ∧ ¬ 2147483648 ≤ a := by simp [inB] at h1; omega
    have e3 : ¬ k < 0 ∧ ¬ 3 < k := by simp [inB] at h3; omega
    obtain ⟨e1, e2⟩ := e1
    obtain ⟨e3, e4⟩ := e3
    clear h1 h3
    obtain ⟨g1, g2, g3, g4, g5, g6, g7, g8⟩ := r.good_iff.1 hg
    cases hsp : spareB r a n
    case true =>
      have hz : H = 0 := by rw [hE]; unfold hitsF; rw [if_pos hsp]
      subst hz
      clear hE
      go_wp2_with (first | (go_at_call 6; refine (spieOk_any r _).mono ?_; rintro e w3 ⟨rfl, k3⟩; rw [hg]; have b4 := b2.trans (k3.1.mono b2.size); have s3 := Sits.kept S2.out k3; clear q0 q1 q2 q3; obtain ⟨q0, q1, q2, q3⟩ := pe_cells s3; clear s3) | (go_at_call 7; refine (ipieScale_any _ _ (Steps.below HST.out b4 hlt0)).mono ?_; rintro e w5 ⟨rfl, b5⟩; replace b4 := b4.trans (b5.mono b4.size); clear b5))
      go_ret
      exact ⟨rfl, b4⟩
    case false =>
      have hns : ¬ (0 < r.bu ∨ (r.od < r.tg.tdiv 2 ∧ r.pr < 429496729) ∨ n ≤ 3000 ∨ r.pr ≤ a) := by unfold spareB at hsp; simpa using hsp
      have f1 : (r.bu == 0) = true := by simp; omega
      have f2 : 3000 < n := by omega
      have f3 : a < r.pr := by omega
      clear hns
      cases hmk : markB r k
      case true =>
        have hz : H = 1 := by rw [hE]; unfold hitsF; rw [if_neg (by simp [hsp]), if_pos hmk]
        have f4 : (k != 0) = true := by unfold markB at hmk; simp at hmk ⊢; exact hmk.1
        subst hz
        clear hE hsp hmk
        go_wp2_with (first | (go_at_call 6; refine (spieOk_any r _).mono ?_; rintro e w3 ⟨rfl, k3⟩; rw [hg]; have b4 := b2.trans (k3.1.mono b2.size); have s3 := Sits.kept S2.out k3; clear q0 q1 q2 q3; obtain ⟨q0, q1, q2, q3⟩ := pe_cells s3; clear s3))
        go_ret
        exact ⟨rfl, b4⟩
      case false =>
        have hz : H = 2 := by rw [hE]; unfold hitsF; rw [if_neg (by simp [hsp]), if_neg (by simp [hmk])]
        subst hz
        clear hE hsp hmk
        go_wp2_with (first | (go_at_call 6; refine (spieOk_any r _).mono ?_; rintro e w3 ⟨rfl, k3⟩; rw [hg]; have b4 := b2.trans (k3.1.mono b2.size); have s3 := Sits.kept S2.out k3; clear q0 q1 q2 q3; obtain ⟨q0, q1, q2, q3⟩ := pe_cells s3; clear s3))
        go_ret
        exact ⟨rfl, b4⟩

section
variable {H : Type} {enc : TypeId × Value → H} {W : World} {base : Nat} {sp : Nat → Bool} {held : Bool}

theorem openInt {n : Nat} {c : Value} {y : DataW H × List MemPlace} (h : DataW.trod enc Tryd.prog W base sp held n 3 [c] = some y) : ∃ z : Int, c = .int .i64 z ∧ (-9223372036854775808 ≤ z ∧ z ≤ 9223372036854775807) := by
  obtain ⟨z, h1, _, hw⟩ := DataW.trod_int Tryd.underlying3 h
  simp only [List.cons.injEq, and_true] at h1
  exact ⟨z, h1, bd hw⟩

end

set_option maxRecDepth 100000 in
theorem lifted (os : Os) (started : os.Started) (H : Type) (enc : TypeId × Value → H) :
    ReturnsInHanded {} Tryd.checked os 3 .any (fun w args => (Rows.fnPieArrivesSpec.pre enc Tryd.prog Tryd.f3 [] false w args ∧ laidMetH Tryd.prog Rows.fnPieArrivesRow.laid w) ∧ sizedMet enc Tryd.prog Tryd.f3 (OpenSpec.ofChange Rows.fnPieArrivesSpec) false w args)
      (Rows.fnPieArrivesSpec.post enc Tryd.prog Tryd.f3 false true false false) := by
  refine returnsInHanded_of_change_and (C := Tryd.checked) (X := fun w _ => laidMetH Tryd.prog Rows.fnPieArrivesRow.laid w) (fun _ _ _ hh h => h.of_heap hh) own started (by kernel_rfl) Tryd.func3
    (ChangeSpec.witness_shaped (enc := enc) (C := Tryd.checked) (os := os) (X := fun w _ => laidMetH Tryd.prog Rows.fnPieArrivesRow.laid w) false (World.doorLaid Tryd.prog 400 os) #[.slice none 0 0] 8 rfl (World.shaped_of_RefB (by kernel_rfl) (by kernel_rfl)) (by kernel_rfl) (by kernel_rfl) (by kernel_rfl) (door_met os _)) ?_
  intro W base args ds gs before hval0 hW _ _ hL _
  have hval : ∀ (j : Nat) t v, Tryd.f3.params[j]? = some t → args[j]? = some v → Value.okWide Tryd.prog W .any base t v := hval0
  have hW' := hW
  obtain ⟨p, q, hA0, hV0, rfl, hfz, hnd⟩ := hW
  have hA : DataW.TrodAll enc Tryd.prog W 0 (fun _ => true) true Tryd.f3.params.toList args.toList ds p := hA0
  have hV : DataW.TrodVars enc Tryd.prog W (fun _ => true) ["loop.example/g00453/impl.pieSteps"] gs q := hV0
  have hV1 := hV
  rw [Tryd.params3] at hA hval
  obtain ⟨v0, vs0, d0, ds0, p0, q0, hargs, rfl, rfl, h0, tl0⟩ := trodAll_cons hA
  obtain ⟨rfl, rfl, rfl⟩ := trodAll_nil tl0
  obtain rfl : args = #[v0] := by cases args; simp_all
  obtain ⟨gg, tt, gcs, gfuel, gd, gp, rfl, _⟩ := trodVars_one hV1
  have k0 := h0
  have lt0 : ∀ x ∈ p0, x.block < W.heap.size := by obtain ⟨m, hm⟩ := k0; exact DataW.trod_lt m _ _ _ hm
  obtain ⟨a0, len0, cap0, rfl⟩ := okWide_slice Tryd.underlying22 (hval 0 22 v0 rfl rfl)
  obtain ⟨z0, hin0⟩ : ∃ zs, IsRow .u8 W a0 len0 cap0 zs := by
    obtain ⟨fuel, hf⟩ := h0
    rcases open_ints Tryd.underlying22 Tryd.underlying5 (by kernel_rfl) hf with ⟨hcs, _⟩ | ⟨x, l, c, zs, hcs, _, hl, hm, hz, _, hcell, hwz⟩
    · simp [Value.cells] at hcs
      obtain ⟨rfl, rfl, rfl⟩ := hcs
      exact ⟨[], .inl ⟨rfl, rfl, rfl, rfl⟩⟩
    · simp [Value.cells] at hcs
      obtain ⟨rfl, rfl, rfl⟩ := hcs
      exact ⟨zs, .inr ⟨_, rfl, hl, hm, by simpa using hz, hcell, hwz⟩⟩
  clear hA0 hV0 hval0
  refine (walk a0 len0 cap0 z0 W hin0 (steps_of hL)).mono fun e W' ⟨he, bel⟩ => ?_
  subst he
  exact ⟨_, rfl, _, _, _, [], _, _, hW', trodAll_mk1 (shut_bool Tryd.underlying4 _), (trodAll_cons_mk (Below.trod laidOut (by kernel_rfl) (of_decide_eq_true (by kernel_rfl)) k0 bel lt0) trodAll_mk0), Below.trodVars laidOut bel (by kernel_rfl) hV, bel.frame _, fun h => by cases h⟩

theorem over : Rows.FnPieArrivesSaid :=
  OpenClaim.holds_of_wide 3 Tryd.f3 rfl rfl rfl rfl rfl rfl rfl ⟨rfl, rfl, rfl, rfl, rfl⟩ rfl rfl rfl rfl rfl (by kernel_rfl) Tryd.func3 (by kernel_rfl)
    (of_decide_eq_true (by kernel_rfl)) (by unfold Func.isWrapper; first | (rw [if_pos (by decide +kernel)]; kernel_rfl) | (rw [if_neg (by decide +kernel)]; exact ⟨rfl, rfl⟩))
    (fun os started H enc _ => lifted os started H enc)

theorem plain (f : FuncId) (fn : Func) (hf : Tryd.pinned.checked.prog.funcNamed "loop.example/g00453/laws.FnPieArrives" = some f) (hfn : Tryd.pinned.checked.prog.funcs[f]? = some fn) :
    false = Tryd.pinned.checked.prog.looks [] ∧ ∀ (j : Nat) t, fn.params[j]? = some t → Tryd.pinned.checked.prog.wantsStandIn t = false := by
  obtain rfl : f = 3 := Option.some.inj ((show Tryd.prog.funcNamed "loop.example/g00453/laws.FnPieArrives" = some 3 by kernel_rfl).symm.trans hf) |>.symm
  obtain rfl : fn = Tryd.f3 := (Option.some.inj (Tryd.func3.symm.trans hfn)).symm
  refine ⟨by kernel_rfl, fun j t ht => ?_⟩
  rw [Tryd.params3] at ht
  have hm := Array.mem_of_getElem? ht
  have hall : (Tryd.f3.params.toList.all fun u => !Tryd.prog.wantsStandIn u) = true := by kernel_rfl
  rw [Tryd.params3] at hall
  exact (show Tryd.prog.wantsStandIn t = false by simpa using List.all_eq_true.1 hall t (by simpa using hm))

theorem proved : Rows.FnPieArrivesCardSaid :=
  Claim7.holds_tied_plain_at .later [] _ _ _ _ over (fun _ h => by cases h) (by kernel_rfl) (fun _ h => by cases h) fnPieArrives_row_tie rfl ⟨rfl, rfl⟩ (by kernel_rfl) rfl plain (by kernel_rfl)
end Go.Proofs.YtkeccjomnmpcoadDoor.fnPieArrives
namespace Go.Proofs.YtkeccjomnmpcoadDoor
theorem fnPieArrives_holds : Rows.FnPieArrivesCardSaid := fnPieArrives.proved
#print axioms fnPieArrives_holds
end Go.Proofs.YtkeccjomnmpcoadDoor
