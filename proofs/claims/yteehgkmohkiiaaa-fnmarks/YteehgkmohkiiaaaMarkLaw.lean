/-
  WHAT THE LAW FnMarks ASKS: a frame that is marked, by numbers; its calls in one form each; any bytes drawn.
-/
import Derived.Test.YteehgkmohkiiaaaFrameEq
import Derived.Test.YteehgkmohkiiaaaMark2
import Derived.Test.YteehgkmohkiiaaaSpoil
import Derived.Test.YteehgkmohkiiaaaSame
namespace Go.Proofs.Yteehgkmohkiiaaa
open Go.RowKit
set_option linter.unusedVariables false

/-- The bytes of a frame that was read, marked. -/
def ceF (f : Nat → Int) (n : Nat) : Nat → Int := buildF (frOf f).ce (n - 24) (fun i => f (24 + i))
theorem ce_ce (r : Fr) : r.ce.ce = r.ce := rfl
/-- All that is known of a frame that was marked. -/
theorem ce_nums {f : Nat → Int} {n : Nat} (hc : codeF f n = 0) (hf : Byt n f) :
    codeF (ceF f n) n = 0 ∧ frOf (ceF f n) = (frOf f).ce ∧ datN (ceF f n) n = n - 24 ∧ (∀ i, ceF f n (24 + i) = f (24 + i)) ∧ Byt n (ceF f n) ∧ ceF (ceF f n) n = ceF f n := by
  have hg := ce_good f n hc hf
  obtain ⟨h24, h100, _⟩ := codeF_zero hc
  have e1 : codeF (ceF f n) n = 0 := by
    have := code_built (frOf f).ce (n - 24) (fun i => f (24 + i)) hg
    rw [show 24 + (n - 24) = n by omega] at this
    exact this
  have e2 : frOf (ceF f n) = (frOf f).ce := fr_built _ _ _ hg
  have e4 : ∀ i, ceF f n (24 + i) = f (24 + i) := fun i => built_data _ _ _ _
  have e5 : Byt n (ceF f n) := by
    have := buildF_byt (frOf f).ce (n - 24) (fun i => f (24 + i)) (fun i hi => hf (24 + i) (by omega))
    rw [show 24 + (n - 24) = n by omega] at this
    exact this
  refine ⟨e1, e2, by unfold datN; rw [if_pos e1], e4, e5, ?_⟩
  show buildF (frOf (ceF f n)).ce (n - 24) (fun i => ceF f n (24 + i)) = _
  rw [e2, ce_ce, show (fun i => ceF f n (24 + i)) = fun i => f (24 + i) from funext e4]
  rfl

set_option maxRecDepth 100000 in
set_option maxHeartbeats 2000000 in
/-- MarkCe of the program, whatever capacity its bytes have. -/
theorem imark_no (a : Option Addr) (n cap : Nat) (f : Nat → Int) (w : World) (hr : Row .u8 w a n f) (hf : Byt n f) (hn : n ≤ 1048576) (hcap : n ≤ cap) (hm : mkB f n = false) :
    Calls Try.prog 5 #[.slice a n cap] w fun e w' => e = .returned (.tuple #[.slice none 0 0, .bool false]) ∧ Below w.heap.size w w' := by
  have HR : Hid (Row .u8 w a n f) := hr
  have HF : Hid (Byt n f) := hf
  clear hr hf
  obtain ⟨C, hC⟩ : ∃ C, codeF f n = C := ⟨_, rfl⟩
  obtain ⟨E, hE⟩ : ∃ E, (frR f n).ecn = E := ⟨_, rfl⟩
  have hcase : (C != 0) = true ∨ ((C != 0) = false ∧ (E == 0) = true) := by
    unfold mkB at hm
    rw [hC, hE] at hm
    simp at hm
    by_cases h : C = 0
    · exact .inr (by simp [h, hm h])
    · exact .inl (by simp [h])
  obtain ⟨R, hR⟩ : ∃ R, frR f n = R := ⟨_, rfl⟩
  have HC : Hid (codeF f n = C ∧ frR f n = R) := ⟨hC, hR⟩
  rw [hR] at hE
  clear hC hm hR
  obtain ⟨d, e, i, t, p, s, q, sp, dp⟩ := R
  dsimp only at hE
  subst hE
  rcases hcase with h1 | ⟨h1, h2⟩
  all_goals
    go_enter Try.func5, Try.ntmps5
    go_wp2_with (go_at_call 8; refine (iparse_all a n cap f _ HR.out HF.out hn hcap).mono ?_; rintro o w1 ⟨x1, c1, rfl, z1, b1⟩; rw [HC.out.1, HC.out.2]; dsimp only [Fr.val])
    go_ret2
    exact ⟨rfl, b1.alloc b1.size _⟩

set_option maxRecDepth 100000 in
set_option maxHeartbeats 2000000 in
theorem imark_yes (a : Option Addr) (n cap : Nat) (f : Nat → Int) (w : World) (hr : Row .u8 w a n f) (hf : Byt n f) (hn : n ≤ 1048576) (hcap : n ≤ cap) (hm : mkB f n = true) :
    Calls Try.prog 5 #[.slice a n cap] w fun e w' => ∃ (x : Option Addr) (c : Nat), e = .returned (.tuple #[.slice x n c, .bool true]) ∧ n ≤ c ∧ Row .u8 w' x n (ceF f n) ∧ Below w.heap.size w w' := by
  have HR : Hid (Row .u8 w a n f) := hr
  have HF : Hid (Byt n f) := hf
  clear hr hf
  obtain ⟨hc, hfr, he⟩ := mkB_true hm
  obtain ⟨h24, h100, _⟩ := codeF_zero hc
  have hg := ce_good f n hc HF.out
  have hdat : datN f n = n - 24 := by unfold datN; rw [if_pos hc]
  have HX : Hid (ceF f n = buildF (frOf f).ce (n - 24) (fun i => f (24 + i))) := rfl
  obtain ⟨R, hR⟩ : ∃ R, frOf f = R := ⟨_, rfl⟩
  rw [hR] at hg HX
  have HC : Hid (codeF f n = 0 ∧ frR f n = R ∧ datN f n = n - 24) := ⟨hc, hfr.trans hR, hdat⟩
  have HG : Hid (R.ce.good (n - 24) = true) := hg
  have he' : (R.ecn == 0) = false := by rw [hfr, hR] at he; simpa using he
  clear hc hm hfr he hdat hg hR
  obtain ⟨d, e, i, t, p, s, q, sp, dp⟩ := R
  dsimp only at he'
  go_enter Try.func5, Try.ntmps5
  go_wp2_with (first | (go_at_call 8; refine (iparse_all a n cap f _ HR.out HF.out hn hcap).mono ?_; rintro o w1 ⟨x1, c1, rfl, z1, b1⟩; rw [HC.out.2.2] at z1; rw [HC.out.1, HC.out.2.1, HC.out.2.2]; dsimp only [Fr.val]; have zr := z1.row))
  have hnn : 24 + (n - 24) = n := by omega
  refine (ibuild_yes ⟨d, 3, i, t, p, s, q, sp, dp⟩ x1 (n - 24) c1 (fun i => f (24 + i)) _ (good_In HG.out) (by omega) HG.out (Row.below zr ((Below.refl _ _).alloc (Nat.le_refl _) _))).mono ?_
  rintro o w2 ⟨x2, c2, rfl, ho, b2⟩
  rw [hnn] at ho
  rw [hnn]
  go_wp2_with fail
  go_ret2
  refine ⟨x2, c2, rfl, ho.cap, ?_, (b1.alloc b1.size _).trans (b2.mono (by have := b1.size; simp; omega))⟩
  have := (ho.zn').row
  rw [HX.out]
  exact this

/-- Any bytes that are drawn. -/
theorem drawMarkCe (a : Option Addr) (len cap : Nat) (w : World) (hl : len ≤ 9223372036854775807) (hcode : Code w w.heap.size a len) :
    Calls Try.prog 4 #[.slice a len cap] w fun e w' => ∃ (y : Option Addr) (m cy : Nat) (g : Nat → Int), e = .returned (.slice y m cy) ∧ m ≤ 101 ∧ m ≤ cy ∧ Row .u8 w' y m g ∧ Byt m g ∧ Below w.heap.size w w' := by
  go_enter Try.func4, Try.ntmps4
  go_wp2_with (first | (go_at_call 12; refine (new_any a len cap w hl hcode).mono ?_; rintro e w1 ⟨rfl, c1, b1⟩) | (go_at_call 11; refine (l2bytes_any _ a len cap _ c1).mono ?_; rintro e w2 ⟨y, m, cy, g, rfl, h1, h2, h3, h4, c2, o2⟩))
  go_ret
  exact ⟨y, m, cy, g, rfl, h1, h2, h3, h4, b1.trans (o2.below (Nat.le_refl _) b1.size)⟩

theorem row_two (w : World) (t : TypeId) : Row .u8 (w.alloc (.cells #[.int .u8 1, .int .u8 2] t)) (some ⟨w.heap.size, 0, none⟩) 2 (fun i => if i = 0 then 1 else 2) := by
  refine .inr ⟨w.heap.size, 0, rfl, by simp, fun i hi => ?_⟩
  rcases (by omega : i = 0 ∨ i = 1) with rfl | rfl <;> simp [go_sem]
theorem isum_two (w : World) (t : TypeId) : Calls Try.prog 7 #[.slice (some ⟨w.heap.size, 0, none⟩) 2 2] (w.alloc (.cells #[.int .u8 1, .int .u8 2] t)) fun e w' => e = .returned (.int .i64 65277) ∧ w' = w.alloc (.cells #[.int .u8 1, .int .u8 2] t) := by
  have := isum_any (some ⟨w.heap.size, 0, none⟩) 2 2 (fun i => if i = 0 then 1 else 2) _ (row_two w t) (fun i hi => by dsimp only; split <;> omega) (by omega)
  rw [show (65535 : Int) - sumF (fun i => if i = 0 then 1 else 2) 2 = 65277 by decide] at this
  exact this

end Go.Proofs.Yteehgkmohkiiaaa
