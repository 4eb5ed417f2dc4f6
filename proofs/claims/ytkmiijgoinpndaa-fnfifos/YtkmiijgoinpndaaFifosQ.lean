/-
  WHAT THE LAWS OF QUEUES ASK BESIDES: sum, fifos; what DrawOfFlow answers.
-/
import Derived.Test.YtkmiijgoinpndaaLastQ
import Derived.Test.YtkmiijgoinpndaaPushI
import Derived.Test.YtkmiijgoinpndaaPopQ
import Derived.Test.YtkmiijgoinpndaaQBytes
import Derived.Test.YtkmiijgoinpndaaFNew
namespace Go.Proofs.Ytkmiijgoinpndaa
open Go.RowKit
set_option linter.unusedVariables false

def P9 : Pk := ⟨1, 0, 0, 9, 0, 0⟩
def f9 : Nat → Pk := fun _ => P9
theorem nine_push : pushN f9 0 2 P9 = 1 ∧ pushL f9 0 2 P9 = 2 ∧ pushB f9 0 2 P9 = true := by refine ⟨?_, ?_, ?_⟩ <;> decide
theorem nine_pop : popN (pushF f9 0 P9) 1 2 = 0 ∧ popB (pushF f9 0 P9) 1 2 = true ∧ popP (pushF f9 0 P9) 1 2 = P9 := by
  have h : popB (pushF f9 0 P9) 1 2 = true := by decide
  refine ⟨by decide, h, ?_⟩
  unfold popP
  rw [if_pos h]
  rfl
theorem nine_bytes : bytesF (pushF f9 0 P9) 1 2 = 9 := by decide

set_option maxRecDepth 100000 in
set_option maxHeartbeats 2000000 in
theorem fifos_any (w : World) : Calls Try.prog 8 #[] w fun e w' => e = .returned (.bool true) ∧ Below w.heap.size w w' := by
  have HNEW : Hid (∀ V, Calls Try.prog 21 #[.int .i64 2] V fun e w' => e = .returned (.tuple #[.agg #[.slice none 0 0, .int .i64 2], .bool true]) ∧ Below V.heap.size V w') := fun V => ififoNew_any 2 V
  have HPUSH : Hid (∀ V, Calls Try.prog 5 #[.agg #[.slice none 0 0, .int .i64 2], .agg #[.int .i64 1, .int .i64 0, .int .i64 0, .int .i64 9, .int .i64 0, .int .i64 0]] V fun e w' => ∃ (x : Option Addr) (cap : Nat), e = .returned (.tuple #[.agg #[.slice x 1 cap, .int .i64 2], .bool true]) ∧ PO V.heap.size w' x 1 cap (pushF f9 0 P9) ∧ Below V.heap.size V w') := fun V => by
    have := ipush_any none 0 0 f9 2 P9 V (by omega) (by omega) (.inl rfl)
    rw [nine_push.1, nine_push.2.1, nine_push.2.2] at this
    exact this
  have HPOP : Hid (∀ V x cap, PR V.heap.size V x 1 (pushF f9 0 P9) → 1 ≤ cap → Calls Try.prog 13 #[.agg #[.slice x 1 cap, .int .i64 2]] V fun e w' => ∃ (y : Option Addr) (c : Nat) (l : Int), e = .returned (.tuple #[.agg #[.slice y 0 c, .int .i64 l], .agg #[.int .i64 1, .int .i64 0, .int .i64 0, .int .i64 9, .int .i64 0, .int .i64 0], .bool true]) ∧ Below V.heap.size V w') := fun V x cap hP hc => by
    have := ipop_any x 1 cap (pushF f9 0 P9) 2 V (by omega) hc hP
    rw [nine_pop.1, nine_pop.2.1, nine_pop.2.2] at this
    refine this.mono ?_
    rintro e w' ⟨y, c, rfl, _, h⟩
    exact ⟨y, c, _, rfl, h⟩
  have HBYTES : Hid (∀ V x cap, PR V.heap.size V x 1 (pushF f9 0 P9) → 1 ≤ cap → Calls Try.prog 11 #[.agg #[.slice x 1 cap, .int .i64 2]] V fun e w' => e = .returned (.int .i64 9) ∧ Below V.heap.size V w') := fun V x cap hP hc => by
    have := ibytes_any x 1 cap (pushF f9 0 P9) 2 V (by omega) hc hP
    rw [nine_bytes] at this
    exact this
  go_enter Try.func8, Try.ntmps8
  go_upto_region 2 with (go_at_call 21; refine (HNEW.out _).mono ?_; rintro e w1 ⟨rfl, b1⟩)
  obtain ⟨V1, hV1⟩ : ∃ V, w1.alloc (.cells #[.slice none 0 0, .int .i64 2] 25) = V := ⟨_, rfl⟩
  have B1 : Below w.heap.size w V1 := by rw [← hV1]; exact b1.alloc b1.size _
  have s1 : Sits V1 w1.heap.size #[.slice none 0 0, .int .i64 2] 25 := by rw [← hV1]; exact Sits.new _ _ _
  have c0 : V1.cell? ⟨w1.heap.size, 0, none⟩ = some (.slice none 0 0) := s1.cell 0
  have c1 : V1.cell? ⟨w1.heap.size, 1, none⟩ = some (.int .i64 2) := s1.cell 1
  rw [hV1]
  clear hV1 b1 s1
  go_upto_region 3 with (go_at_call 5; refine (HPUSH.out _).mono ?_; rintro e w2 ⟨x, cap, rfl, ho, b2⟩)
  obtain ⟨B, hB⟩ : ∃ B, w2.heap.size = B := ⟨_, rfl⟩
  obtain ⟨V2, hV2⟩ : ∃ V, w2.alloc (.cells #[.slice x 1 cap, .int .i64 2] 25) = V := ⟨_, rfl⟩
  have b2' : Below V1.heap.size V1 V2 := by rw [← hV2]; exact b2.alloc b2.size _
  have B2 : Below w.heap.size w V2 := B1.trans (b2'.mono B1.size)
  have s2 : Sits V2 B #[.slice x 1 cap, .int .i64 2] 25 := by rw [← hV2, ← hB]; exact Sits.new _ _ _
  have hcap : 1 ≤ cap := ho.cap
  have HP : Hid (PR V2.heap.size V2 x 1 (pushF f9 0 P9)) := ZI.pr (PO.zi (by rw [← hV2]; exact po_alloc ho _))
  have d0 : V2.cell? ⟨B, 0, none⟩ = some (.slice x 1 cap) := s2.cell 0
  have d1 : V2.cell? ⟨B, 1, none⟩ = some (.int .i64 2) := s2.cell 1
  rw [hV2, hB]
  clear hV2 b2 b2' ho hB c0 c1 B1
  go_upto_region 4 with (go_at_call 13; refine (HPOP.out _ x cap HP.out hcap).mono ?_; rintro e w3 ⟨y, cy, l, rfl, b3⟩)
  obtain ⟨C, hC⟩ : ∃ B, w3.heap.size = B := ⟨_, rfl⟩
  obtain ⟨V3, hV3⟩ : ∃ V, (w3.alloc (.cells #[.slice y 0 cy, .int .i64 l] 25)).alloc (.cells #[.int .i64 1, .int .i64 0, .int .i64 0, .int .i64 9, .int .i64 0, .int .i64 0] 27) = V := ⟨_, rfl⟩
  have b3' : Below V2.heap.size V2 V3 := by rw [← hV3]; exact (b3.alloc b3.size _).alloc (by have := b3.size; simp; omega) _
  have B3 : Below w.heap.size w V3 := B2.trans (b3'.mono B2.size)
  have s3 : Sits V3 (C + 1) #[.int .i64 1, .int .i64 0, .int .i64 0, .int .i64 9, .int .i64 0, .int .i64 0] 27 := by rw [← hV3, ← hC]; exact Sits.new' (by simp)
  have e3 : V3.cell? ⟨C + 1, 3, none⟩ = some (.int .i64 9) := s3.cell 3
  have s2' := s2.below b3' s2.lt
  have HP3 : Hid (PR V3.heap.size V3 x 1 (pushF f9 0 P9)) := (PR.below HP.out b3').mono b3'.size
  have g0 : V3.cell? ⟨B, 0, none⟩ = some (.slice x 1 cap) := s2'.cell 0
  have g1 : V3.cell? ⟨B, 1, none⟩ = some (.int .i64 2) := s2'.cell 1
  rw [hV3, hC]
  clear hV3 b3 b3' hC s3 s2 s2' d0 d1 HP B2
  go_wp2_with (go_at_call 11; refine (HBYTES.out _ x cap HP3.out hcap).mono ?_; rintro e w4 ⟨rfl, b4⟩)
  go_ret
  exact ⟨rfl, B3.trans (b4.mono B3.size)⟩

theorem ret_fz {fn : Func} {tmps : Array Value} {W : World} {i j B : Nat} {v u : Value} {m : Int} {t : TypeId} (hr : fn.results = #[.cell i 25, .tmp j]) (hi : tmps[i]?.getD undef = .pointer (some ⟨B, 0, none⟩)) (hj : tmps[j]?.getD undef = .int .i64 m) (hs : Sits W B #[v, u] t) : (results fn tmps).run Try.prog W = .ok (.tuple #[.agg #[v, u], .int .i64 m]) W := by
  have e0 : W.cell? ⟨B, 0, none⟩ = some v := hs.cell 0
  have e1 : W.cell? ⟨B, 1, none⟩ = some u := hs.cell 1
  simp [results, hr, hi, hj, go_sem, e0, e1]

end Go.Proofs.Ytkmiijgoinpndaa
