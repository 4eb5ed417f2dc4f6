/-
  THE HASH OF A FLOW, ON BOTH SIDES.
-/
import Derived.Test.YtboomccnfnaboabMix
import Derived.Test.YtboomccnfnaboabLine
namespace Go.Proofs.Ytboomccnfnaboab
open Go.RowKit
set_option linter.unusedVariables false

theorem w3_cells {W : World} {B : Nat} {a b c : Value} {t : TypeId} (h : Lies W B #[a, b, c] t) : W.cell? ⟨B, 0, none⟩ = some a ∧ W.cell? ⟨B, 1, none⟩ = some b ∧ W.cell? ⟨B, 2, none⟩ = some c := by
  have h' : W.heap[B]? = some (.cells #[a, b, c] t) := h
  refine ⟨?_, ?_, ?_⟩ <;> simp [World.cell?, h']
theorem w3_frozen {W : World} {B : Nat} {vs : Array Value} {t : TypeId} (h : Lies W B vs t) (o : Nat) : W.frozen? ⟨B, o, none⟩ = false := by simp [World.frozen?, show W.heap[B]? = _ from h]
theorem w3_set0 {W : World} {V : Nat} {a b c : Value} {t : TypeId} (h : Lies W V #[a, b, c] t) (v : Value) : Lies (W.setCell ⟨V, 0, none⟩ v) V #[v, b, c] t := by
  have h' : W.heap[V]? = some (.cells #[a, b, c] t) := h
  show (W.heap.modify V _)[V]? = _
  rw [Array.getElem?_modify]
  simp [h']
theorem w3_set1 {W : World} {V : Nat} {a b c : Value} {t : TypeId} (h : Lies W V #[a, b, c] t) (v : Value) : Lies (W.setCell ⟨V, 1, none⟩ v) V #[a, v, c] t := by
  have h' : W.heap[V]? = some (.cells #[a, b, c] t) := h
  show (W.heap.modify V _)[V]? = _
  rw [Array.getElem?_modify]
  simp [h']
theorem w3_set2 {W : World} {V : Nat} {a b c : Value} {t : TypeId} (h : Lies W V #[a, b, c] t) (v : Value) : Lies (W.setCell ⟨V, 2, none⟩ v) V #[a, b, v] t := by
  have h' : W.heap[V]? = some (.cells #[a, b, c] t) := h
  show (W.heap.modify V _)[V]? = _
  rw [Array.getElem?_modify]
  simp [h']

theorem w3_put0 {W : World} {V : Nat} {b c : Value} {a : Value} {v v' : Int} {t : TypeId} (h : Lies W V #[a, b, c] t) (e : v' = v) : Lies (W.setCell ⟨V, 0, none⟩ (.int .u32 v')) V #[.int .u32 v, b, c] t := e ▸ w3_set0 h _
theorem w3_put1 {W : World} {V : Nat} {b c : Value} {a : Value} {v v' : Int} {t : TypeId} (h : Lies W V #[a, b, c] t) (e : v' = v) : Lies (W.setCell ⟨V, 1, none⟩ (.int .u32 v')) V #[a, .int .u32 v, c] t := e ▸ w3_set1 h _
theorem w3_put2 {W : World} {V : Nat} {b c : Value} {a : Value} {v v' : Int} {t : TypeId} (h : Lies W V #[a, b, c] t) (e : v' = v) : Lies (W.setCell ⟨V, 2, none⟩ (.int .u32 v')) V #[a, b, .int .u32 v] t := e ▸ w3_set2 h _
theorem eA (p q r : Int) : bits .xor .u32 (IntKind.u32.wrap (p - r)) (rotF r 4) = mA p q r := by unfold mA xrF rotF; rw [IntKind.wrap_u32]; simp
theorem eC (p q r : Int) : IntKind.u32.wrap (r + q) = mC p q r := by unfold mC; rw [IntKind.wrap_u32]
theorem eB (p q r : Int) : bits .xor .u32 (IntKind.u32.wrap (q - mA p q r)) (rotF (mA p q r) 6) = mB p q r := by unfold mB xrF rotF; rw [IntKind.wrap_u32]; simp
theorem eA2 (p q r : Int) : IntKind.u32.wrap (mA p q r + mC p q r) = mA2 p q r := by unfold mA2; rw [IntKind.wrap_u32]
theorem eC2 (p q r : Int) : bits .xor .u32 (IntKind.u32.wrap (mC p q r - mB p q r)) (rotF (mB p q r) 8) = mC2 p q r := by
  have h : IntKind.u32.wrap (mC p q r - mB p q r) = (r + q - mB p q r) % 4294967296 := by rw [IntKind.wrap_u32]; unfold mC; omega
  rw [h]; unfold mC2 xrF rotF; simp
theorem eB2 (p q r : Int) : IntKind.u32.wrap (mB p q r + mA2 p q r) = mB2 p q r := by unfold mB2; rw [IntKind.wrap_u32]

set_option maxRecDepth 20000 in
set_option maxHeartbeats 4000000 in
theorem stir_any (B : Nat) (a b c : Int) (t : TypeId) (w : World) (ha : 0 ≤ a ∧ a ≤ 4294967295) (hb : 0 ≤ b ∧ b ≤ 4294967295) (hc : 0 ≤ c ∧ c ≤ 4294967295) (h : Lies w B #[.int .u32 a, .int .u32 b, .int .u32 c] t) :
    Calls Try.prog 72 #[.pointer (some ⟨B, 0, none⟩)] w fun e w' => e = .returned (.tuple #[]) ∧ Lies w' B #[.int .u32 (mixN (a, b, c) 3).1, .int .u32 (mixN (a, b, c) 3).2.1, .int .u32 (mixN (a, b, c) 3).2.2] t ∧ Below B w w' := by
  go_enter Try.func72, Try.ntmps72
  go_wp2
  go_loopw [2] (fun i wr => ∃ (k : Nat) (p q r : Int), k ≤ 3 ∧ i = .int .i64 (k : Int) ∧ Hid (mixN (a, b, c) k = (p, q, r)) ∧ (0 ≤ p ∧ p ≤ 4294967295) ∧ (0 ≤ q ∧ q ≤ 4294967295) ∧ (0 ≤ r ∧ r ≤ 4294967295) ∧ Lies wr B #[.int .u32 p, .int .u32 q, .int .u32 r] t ∧ Below B w wr) (fun i _ => 3 - (intOf i).toNat)
  case atStart => exact ⟨0, a, b, c, by omega, rfl, rfl, ha, hb, hc, h, Below.refl _ _⟩
  case round =>
    obtain ⟨k, p, q, r, hk, rfl, HM, hp, hq, hr, hL, hB⟩ := hrel
    clear ha hb hc
    by_cases hlt : k < 3
    · obtain ⟨A, hAe⟩ : ∃ x, mA p q r = x := ⟨_, rfl⟩
      have HA : Hid (mA p q r = A) := hAe
      have bA : 0 ≤ A ∧ A ≤ 4294967295 := hAe ▸ mA_bd p q r
      clear hAe
      obtain ⟨C, hCe⟩ : ∃ x, mC p q r = x := ⟨_, rfl⟩
      have HC : Hid (mC p q r = C) := hCe
      have bC : 0 ≤ C ∧ C ≤ 4294967295 := hCe ▸ mC_bd p q r
      clear hCe
      obtain ⟨D, hDe⟩ : ∃ x, mB p q r = x := ⟨_, rfl⟩
      have HD : Hid (mB p q r = D) := hDe
      have bD : 0 ≤ D ∧ D ≤ 4294967295 := hDe ▸ mB_bd p q r
      clear hDe
      obtain ⟨A2, hA2e⟩ : ∃ x, mA2 p q r = x := ⟨_, rfl⟩
      have HA2 : Hid (mA2 p q r = A2) := hA2e
      have bA2 : 0 ≤ A2 ∧ A2 ≤ 4294967295 := hA2e ▸ mA2_bd p q r
      clear hA2e
      obtain ⟨C2, hC2e⟩ : ∃ x, mC2 p q r = x := ⟨_, rfl⟩
      have HC2 : Hid (mC2 p q r = C2) := hC2e
      have bC2 : 0 ≤ C2 ∧ C2 ≤ 4294967295 := hC2e ▸ mC2_bd p q r
      clear hC2e
      obtain ⟨D2, hD2e⟩ : ∃ x, mB2 p q r = x := ⟨_, rfl⟩
      have HD2 : Hid (mB2 p q r = D2) := hD2e
      have bD2 : 0 ≤ D2 ∧ D2 ≤ 4294967295 := hD2e ▸ mB2_bd p q r
      clear hD2e
      have E2 : Hid (bits .xor .u32 (IntKind.u32.wrap (p - r)) (rotF r 4) = A) := by show _ = _; exact (eA p q r).trans HA.out
      have E3 : Hid (IntKind.u32.wrap (r + q) = C) := by show _ = _; exact (eC p q r).trans HC.out
      have E4 : Hid (bits .xor .u32 (IntKind.u32.wrap (q - A)) (rotF A 6) = D) := by show _ = _; rw [← HA.out]; exact (eB p q r).trans HD.out
      have E5 : Hid (IntKind.u32.wrap (A + C) = A2) := by show _ = _; rw [← HA.out, ← HC.out]; exact (eA2 p q r).trans HA2.out
      have E6 : Hid (bits .xor .u32 (IntKind.u32.wrap (C - D)) (rotF D 8) = C2) := by show _ = _; rw [← HC.out, ← HD.out]; exact (eC2 p q r).trans HC2.out
      have E7 : Hid (IntKind.u32.wrap (D + A2) = D2) := by show _ = _; rw [← HD.out, ← HA2.out]; exact (eB2 p q r).trans HD2.out
      go_upto_region 2 with fail
      obtain ⟨x0, x1, x2⟩ := w3_cells hL
      have fx := w3_frozen hL
      obtain ⟨y0, y1, y2⟩ := w3_cells (show Lies wr.drew B _ t from hL)
      have fy := w3_frozen (show Lies wr.drew B _ t from hL)
      go_cut [] from 3 (fun wx => Lies wx B #[.int .u32 A, .int .u32 q, .int .u32 r] t ∧ Below B w wx)
      case first =>
        go_region_with (go_at_call 81; refine (rot_any r 4 _ hr.1 hr.2 (.inl rfl)).mono ?_; rintro e w1 ⟨rfl, rfl⟩)
        all_goals
          (go_wp2_with fail)
          go_meet
          case rel => first | exact ⟨w3_put0 (show Lies wr.drew B _ t from hL) E2.out, (Below.drew hB).setCell (Nat.le_refl B) _⟩ | exact ⟨show Lies (wr.setCell ⟨B, 0, none⟩ _) B _ t from w3_put0 hL E2.out, Below.drew (hB.setCell (Nat.le_refl B) _)⟩
      clear hL hB x0 x1 x2 fx y0 y1 y2 fy
      obtain ⟨hL, hB⟩ := hcut
      rename World => u_2
      go_upto_region 3 with fail
      obtain ⟨x0, x1, x2⟩ := w3_cells hL
      have fx := w3_frozen hL
      obtain ⟨y0, y1, y2⟩ := w3_cells (show Lies u_2.drew B _ t from hL)
      have fy := w3_frozen (show Lies u_2.drew B _ t from hL)
      go_cut [] from 3 (fun wx => Lies wx B #[.int .u32 A, .int .u32 q, .int .u32 C] t ∧ Below B w wx)
      case first =>
        go_region
        all_goals
          (go_wp2_with fail)
          go_meet
          case rel => first | exact ⟨w3_put2 (show Lies u_2.drew B _ t from hL) E3.out, (Below.drew hB).setCell (Nat.le_refl B) _⟩ | exact ⟨show Lies (u_2.setCell ⟨B, 2, none⟩ _) B _ t from w3_put2 hL E3.out, Below.drew (hB.setCell (Nat.le_refl B) _)⟩
      clear hL hB x0 x1 x2 fx y0 y1 y2 fy
      obtain ⟨hL, hB⟩ := hcut
      rename World => u_3
      go_upto_region 4 with fail
      obtain ⟨x0, x1, x2⟩ := w3_cells hL
      have fx := w3_frozen hL
      obtain ⟨y0, y1, y2⟩ := w3_cells (show Lies u_3.drew B _ t from hL)
      have fy := w3_frozen (show Lies u_3.drew B _ t from hL)
      go_cut [] from 3 (fun wx => Lies wx B #[.int .u32 A, .int .u32 D, .int .u32 C] t ∧ Below B w wx)
      case first =>
        go_region_with (go_at_call 81; refine (rot_any A 6 _ bA.1 bA.2 (.inr (.inl rfl))).mono ?_; rintro e w1 ⟨rfl, rfl⟩)
        all_goals
          (go_wp2_with fail)
          go_meet
          case rel => first | exact ⟨w3_put1 (show Lies u_3.drew B _ t from hL) E4.out, (Below.drew hB).setCell (Nat.le_refl B) _⟩ | exact ⟨show Lies (u_3.setCell ⟨B, 1, none⟩ _) B _ t from w3_put1 hL E4.out, Below.drew (hB.setCell (Nat.le_refl B) _)⟩
      clear hL hB x0 x1 x2 fx y0 y1 y2 fy
      obtain ⟨hL, hB⟩ := hcut
      rename World => u_4
      go_upto_region 5 with fail
      obtain ⟨x0, x1, x2⟩ := w3_cells hL
      have fx := w3_frozen hL
      obtain ⟨y0, y1, y2⟩ := w3_cells (show Lies u_4.drew B _ t from hL)
      have fy := w3_frozen (show Lies u_4.drew B _ t from hL)
      go_cut [] from 3 (fun wx => Lies wx B #[.int .u32 A2, .int .u32 D, .int .u32 C] t ∧ Below B w wx)
      case first =>
        go_region
        all_goals
          (go_wp2_with fail)
          go_meet
          case rel => first | exact ⟨w3_put0 (show Lies u_4.drew B _ t from hL) E5.out, (Below.drew hB).setCell (Nat.le_refl B) _⟩ | exact ⟨show Lies (u_4.setCell ⟨B, 0, none⟩ _) B _ t from w3_put0 hL E5.out, Below.drew (hB.setCell (Nat.le_refl B) _)⟩
      clear hL hB x0 x1 x2 fx y0 y1 y2 fy
      obtain ⟨hL, hB⟩ := hcut
      rename World => u_5
      go_upto_region 6 with fail
      obtain ⟨x0, x1, x2⟩ := w3_cells hL
      have fx := w3_frozen hL
      obtain ⟨y0, y1, y2⟩ := w3_cells (show Lies u_5.drew B _ t from hL)
      have fy := w3_frozen (show Lies u_5.drew B _ t from hL)
      go_cut [] from 3 (fun wx => Lies wx B #[.int .u32 A2, .int .u32 D, .int .u32 C2] t ∧ Below B w wx)
      case first =>
        go_region_with (go_at_call 81; refine (rot_any D 8 _ bD.1 bD.2 (.inr (.inr rfl))).mono ?_; rintro e w1 ⟨rfl, rfl⟩)
        all_goals
          (go_wp2_with fail)
          go_meet
          case rel => first | exact ⟨w3_put2 (show Lies u_5.drew B _ t from hL) E6.out, (Below.drew hB).setCell (Nat.le_refl B) _⟩ | exact ⟨show Lies (u_5.setCell ⟨B, 2, none⟩ _) B _ t from w3_put2 hL E6.out, Below.drew (hB.setCell (Nat.le_refl B) _)⟩
      clear hL hB x0 x1 x2 fx y0 y1 y2 fy
      obtain ⟨hL, hB⟩ := hcut
      rename World => u_6
      go_upto_region 7 with fail
      obtain ⟨x0, x1, x2⟩ := w3_cells hL
      have fx := w3_frozen hL
      obtain ⟨y0, y1, y2⟩ := w3_cells (show Lies u_6.drew B _ t from hL)
      have fy := w3_frozen (show Lies u_6.drew B _ t from hL)
      go_region
      all_goals
        go_wp2
        go_round
        case rel => first | exact ⟨k + 1, A2, D2, C2, by omega, by go_num, by show mixN (a, b, c) (k + 1) = _; rw [mixN, HM.out, ← HA2.out, ← HD2.out, ← HC2.out]; rfl, bA2, bD2, bC2, w3_put1 (show Lies u_6.drew B _ t from hL) E7.out, (Below.drew hB).setCell (Nat.le_refl B) _⟩ | exact ⟨k + 1, A2, D2, C2, by omega, by go_num, by show mixN (a, b, c) (k + 1) = _; rw [mixN, HM.out, ← HA2.out, ← HD2.out, ← HC2.out]; rfl, bA2, bD2, bC2, show Lies (u_6.setCell ⟨B, 1, none⟩ _) B _ t from w3_put1 hL E7.out, Below.drew (hB.setCell (Nat.le_refl B) _)⟩
        case measure => simp [intOf]; omega
    · have hlt' : 3 ≤ (k : Int) := by omega
      have e3 : k = 3 := by omega
      have HS : Hid (Lies wr B #[.int .u32 (mixN (a, b, c) 3).1, .int .u32 (mixN (a, b, c) 3).2.1, .int .u32 (mixN (a, b, c) 3).2.2] t) := by
        show Lies _ _ _ _
        have hm := HM.out
        rw [e3] at hm
        rw [hm]
        exact hL
      clear e3
      go_wp2
      exact bodyPost_end (v := .tuple #[]) (by simp [results, Try.results72, go_sem]) rfl ⟨rfl, HS.out, hB⟩

end Go.Proofs.Ytboomccnfnaboab
