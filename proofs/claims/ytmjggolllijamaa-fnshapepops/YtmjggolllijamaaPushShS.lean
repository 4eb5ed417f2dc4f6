/-
  A PACKET COMES TO A SHAPER, AS THE SPECIFICATION SAYS: l8last, l8push, ShapePush.
-/
import Derived.Test.YtmjggolllijamaaOwnSh
import Derived.Test.YtmjggolllijamaaShapeB
import Derived.Test.YtmjggolllijamaaFifo
namespace Go.Proofs.Ytmjggolllijamaa
open Go.RowKit
set_option linter.unusedVariables false

/-- A packet is behind all of its host, and none like it is there. -/
def lastP (L : Nat → Ln) (p : Pk) : Prop := ∀ i : Nat, i < 4 → ∀ k, k < (L i).n → ((L i).f k).id ≠ p.id ∧ ((i : Int) = p.host → ((L i).f k).tm ≤ p.tm)
instance (L : Nat → Ln) (p : Pk) : Decidable (lastP L p) := by unfold lastP; infer_instance
def lastB (L : Nat → Ln) (p : Pk) : Bool := decide (lastP L p)
def lastTo (L : Nat → Ln) (p : Pk) (j : Nat) : Prop := ∀ i : Nat, i < j → ∀ k, k < (L i).n → ((L i).f k).id ≠ p.id ∧ ((i : Int) = p.host → ((L i).f k).tm ≤ p.tm)
def lastIn (L : Nat → Ln) (p : Pk) (i m : Nat) : Prop := ∀ k, k < m → ((L i).f k).id ≠ p.id ∧ ((i : Int) = p.host → ((L i).f k).tm ≤ p.tm)

set_option maxRecDepth 100000 in
set_option maxHeartbeats 4000000 in
theorem l8last_any (s : Sh) (a : Option Addr) (ca : Nat) (b : Option Addr) (n c : Nat) (L : Nat → Ln) (p : Pk) (w : World) (hcn : cntF L 4 ≤ 1048576) (hP : LR w.heap.size w a 4 L) :
    Calls Try.prog 101 #[shVal s a 4 ca b n c, p.val] w fun e w' => e = .returned (.bool (lastB L p)) ∧ Below w.heap.size w w' := by
  have HP : Hid (LR w.heap.size w a 4 L) := hP
  have HCN : Hid (cntF L 4 ≤ 1048576) := hcn
  clear hP hcn
  obtain ⟨W0, hW0⟩ : ∃ W, (w.alloc (.cells (shCells s a 4 ca b n c) 29)).alloc (.cells (pkCells p) 31) = W := ⟨_, rfl⟩
  have s0 : Sits W0 w.heap.size (shCells s a 4 ca b n c) 29 := by rw [← hW0]; exact (Sits.new _ _ _).alloc _
  have s1 : Sits W0 (w.heap.size + 1) (pkCells p) 31 := by rw [← hW0]; exact Sits.new' (by simp)
  have b0 : Below w.heap.size w W0 := by rw [← hW0]; exact ((Below.refl _ w).alloc (Nat.le_refl _) _).alloc (by simp) _
  have HW0 : Hid ((w.alloc (.cells (shCells s a 4 ca b n c) 29)).alloc (.cells (pkCells p) 31) = W0) := hW0
  have HB0 : Hid (Below w.heap.size w W0) := b0
  have x5 := s0.cell 5
  have p0 := s1.cell 0
  have p2 := s1.cell 2
  have p4 := s1.cell 4
  have l0 := s0.lt
  have l1 := s1.lt
  clear s0 s1 b0 hW0
  have HBB : Hid (∀ w', Below W0.heap.size W0 w' → Below w.heap.size w w') := fun w' hw' => (HB0.out).trans (hw'.mono (HB0.out).size)
  go_enter Try.func101, Try.ntmps101
  go_upto_region 1 with fail
  rw [HW0.out]
  clear HW0
  go_wp2
  go_loopw [5] (fun i wr => ∃ j : Nat, j ≤ 4 ∧ i = .int .i64 (j : Int) ∧ lastTo L p j ∧ Below W0.heap.size W0 wr) (fun i _ => 4 - (intOf i).toNat)
  case atStart => exact ⟨0, Nat.zero_le _, rfl, fun i hi => absurd hi (Nat.not_lt_zero _), Below.refl _ _⟩
  case round =>
    obtain ⟨j, hj, rfl, hto, hB⟩ := hrel
    have HTO : Hid (lastTo L p j) := hto
    have HB : Hid (Below W0.heap.size W0 wr) := hB
    have z5 := (hB.cell (p := ⟨w.heap.size, 5, none⟩) l0).trans x5
    clear hto
    by_cases hlt : j < 4
    · obtain ⟨b1, off, rfl, hbl, hcs⟩ := LR.at HP.out hlt
      obtain ⟨x, cx, hat, hnc, hpr⟩ := hcs j hlt
      have c0 := (hat.below (HBB.out _ hB) hbl).1
      have HPR : Hid (PR w.heap.size w x (L j).n (L j).f) := hpr
      have hnl : ((L j).n : Int) ≤ 1048576 := by have := cntF_le L hlt; have := HCN.out; omega
      have hlti : (j : Int) < 4 := by omega
      clear hcs hat hpr hnc hB
      go_wp2
      clear z5 c0
      go_loopw [7] (fun i wr2 => ∃ m : Nat, m ≤ (L j).n ∧ i = .int .i64 (m : Int) ∧ lastIn L p j m ∧ Below W0.heap.size W0 wr2) (fun i _ => (L j).n - (intOf i).toNat)
      case atStart => exact ⟨0, Nat.zero_le _, rfl, fun k hk => absurd hk (Nat.not_lt_zero _), HB.out⟩
      case round =>
        clear HB
        obtain ⟨m, hm, rfl, hin, hB⟩ := hrel
        have HIN : Hid (lastIn L p j m) := hin
        have HB : Hid (Below W0.heap.size W0 wr) := hB
        clear hin
        by_cases hml : m < (L j).n
        · obtain ⟨bp, op, rfl, hbp, hps⟩ := PR.at HPR.out hml
          have hp := (hps m hml).below (HBB.out _ hB) hbp
          have q0 := hp.1
          have q4 := hp.2.2.2.2.1
          have hbp' : bp < wr.heap.size := Nat.lt_of_lt_of_le hbp (HBB.out _ hB).size
          have r0 := (hB.cell (p := ⟨w.heap.size + 1, 0, none⟩) l1).trans p0
          have r2 := (hB.cell (p := ⟨w.heap.size + 1, 2, none⟩) l1).trans p2
          have r4 := (hB.cell (p := ⟨w.heap.size + 1, 4, none⟩) l1).trans p4
          have l2 : w.heap.size + 1 < wr.heap.size := Nat.lt_of_lt_of_le l1 hB.size
          have hmli : (m : Int) < ((L j).n : Int) := by omega
          clear hps hp hB
          by_cases h1 : ((L j).f m).id = p.id
          case pos =>
            have h1' : (((L j).f m).id == p.id) = true := by simpa using h1
            have HE : Hid (false = lastB L p) := by show _ = _; symm; unfold lastB; exact decide_eq_false fun h => (h j hlt m hml).1 h1
            go_wp2
            refine wp_region_quiet (C := fun w' => Below wr.heap.size wr w') (by kernel_rfl) (by kernel_rfl) ((Below.refl _ _).drew) ?_
            simp only []
            repeat (first
              | go_big_quiet_skip
              | (go_big_quiet_want
                 unfold Oper.quiet
                 apply Exists.intro
                 refine ⟨fun w' hw' => ?_, ?_⟩
                 (have a0 := (hw'.cell (p := ⟨bp, op + m * 6, none⟩) hbp').trans q0
                  have a4 := (hw'.cell (p := ⟨bp, op + m * 6 + 4, none⟩) hbp').trans q4
                  have e0 := (hw'.cell (p := ⟨w.heap.size + 1, 0, none⟩) l2).trans r0
                  have e2 := (hw'.cell (p := ⟨w.heap.size + 1, 2, none⟩) l2).trans r2
                  have e4 := (hw'.cell (p := ⟨w.heap.size + 1, 4, none⟩) l2).trans r4
                  go_simp
                  first
                    | exact rfl)
                 simp only [Act.put, List.setIfInBounds_toArray, List.set_cons_zero, List.set_cons_succ]
                 go_big_quiet_on))
            refine wpQuiet_nil ?_
            intro w2 hw2
            go_wp2
            go_ret
            exact ⟨ret_bool HE.out, HBB.out _ ((HB.out).trans (hw2.mono (HB.out).size))⟩
          case neg =>
          have h1' : (((L j).f m).id == p.id) = false := by simpa using h1
          by_cases h2 : (j : Int) = p.host
          case neg =>
            have h2' : ((j : Int) == p.host) = false := by simpa using h2
            go_wp2
            refine wp_region_quiet (C := fun w' => Below wr.heap.size wr w') (by kernel_rfl) (by kernel_rfl) ((Below.refl _ _).drew) ?_
            simp only []
            repeat (first
              | go_big_quiet_skip
              | (go_big_quiet_want
                 unfold Oper.quiet
                 apply Exists.intro
                 refine ⟨fun w' hw' => ?_, ?_⟩
                 (have a0 := (hw'.cell (p := ⟨bp, op + m * 6, none⟩) hbp').trans q0
                  have a4 := (hw'.cell (p := ⟨bp, op + m * 6 + 4, none⟩) hbp').trans q4
                  have e0 := (hw'.cell (p := ⟨w.heap.size + 1, 0, none⟩) l2).trans r0
                  have e2 := (hw'.cell (p := ⟨w.heap.size + 1, 2, none⟩) l2).trans r2
                  have e4 := (hw'.cell (p := ⟨w.heap.size + 1, 4, none⟩) l2).trans r4
                  go_simp
                  first
                    | exact rfl)
                 simp only [Act.put, List.setIfInBounds_toArray, List.set_cons_zero, List.set_cons_succ]
                 go_big_quiet_on))
            refine wpQuiet_nil ?_
            intro w2 hw2
            go_wp2
            go_roundw
            case rel => exact ⟨m + 1, by omega, by go_num, fun k hk => by by_cases e : k = m; · rw [e]; exact ⟨h1, fun h => absurd h h2⟩
                                                                          · exact HIN.out k (by omega), (HB.out).trans (hw2.mono (HB.out).size)⟩
            case measure => simp [intOf]; omega
          case pos =>
          have h2' : ((j : Int) == p.host) = true := by simpa using h2
          by_cases h3 : p.tm < ((L j).f m).tm
          case pos =>
            have h3' : decide (p.tm < ((L j).f m).tm) = true := by simpa using h3
            have HE : Hid (false = lastB L p) := by show _ = _; symm; unfold lastB; exact decide_eq_false fun h => by have := (h j hlt m hml).2 h2; omega
            clear h2
            go_wp2
            refine wp_region_quiet (C := fun w' => Below wr.heap.size wr w') (by kernel_rfl) (by kernel_rfl) ((Below.refl _ _).drew) ?_
            simp only []
            repeat (first
              | go_big_quiet_skip
              | (go_big_quiet_want
                 unfold Oper.quiet
                 apply Exists.intro
                 refine ⟨fun w' hw' => ?_, ?_⟩
                 (have a0 := (hw'.cell (p := ⟨bp, op + m * 6, none⟩) hbp').trans q0
                  have a4 := (hw'.cell (p := ⟨bp, op + m * 6 + 4, none⟩) hbp').trans q4
                  have e0 := (hw'.cell (p := ⟨w.heap.size + 1, 0, none⟩) l2).trans r0
                  have e2 := (hw'.cell (p := ⟨w.heap.size + 1, 2, none⟩) l2).trans r2
                  have e4 := (hw'.cell (p := ⟨w.heap.size + 1, 4, none⟩) l2).trans r4
                  go_simp
                  first
                    | exact rfl)
                 simp only [Act.put, List.setIfInBounds_toArray, List.set_cons_zero, List.set_cons_succ]
                 go_big_quiet_on))
            refine wpQuiet_nil ?_
            intro w2 hw2
            go_wp2
            go_ret
            exact ⟨ret_bool HE.out, HBB.out _ ((HB.out).trans (hw2.mono (HB.out).size))⟩
          case neg =>
            have h3' : decide (p.tm < ((L j).f m).tm) = false := by simpa using h3
            clear h2
            go_wp2
            refine wp_region_quiet (C := fun w' => Below wr.heap.size wr w') (by kernel_rfl) (by kernel_rfl) ((Below.refl _ _).drew) ?_
            simp only []
            repeat (first
              | go_big_quiet_skip
              | (go_big_quiet_want
                 unfold Oper.quiet
                 apply Exists.intro
                 refine ⟨fun w' hw' => ?_, ?_⟩
                 (have a0 := (hw'.cell (p := ⟨bp, op + m * 6, none⟩) hbp').trans q0
                  have a4 := (hw'.cell (p := ⟨bp, op + m * 6 + 4, none⟩) hbp').trans q4
                  have e0 := (hw'.cell (p := ⟨w.heap.size + 1, 0, none⟩) l2).trans r0
                  have e2 := (hw'.cell (p := ⟨w.heap.size + 1, 2, none⟩) l2).trans r2
                  have e4 := (hw'.cell (p := ⟨w.heap.size + 1, 4, none⟩) l2).trans r4
                  go_simp
                  first
                    | exact rfl)
                 simp only [Act.put, List.setIfInBounds_toArray, List.set_cons_zero, List.set_cons_succ]
                 go_big_quiet_on))
            refine wpQuiet_nil ?_
            intro w2 hw2
            go_wp2
            go_roundw
            case rel => exact ⟨m + 1, by omega, by go_num, fun k hk => by by_cases e : k = m; · rw [e]; exact ⟨h1, fun _ => by omega⟩
                                                                          · exact HIN.out k (by omega), (HB.out).trans (hw2.mono (HB.out).size)⟩
            case measure => simp [intOf]; omega
        · have hme : m = (L j).n := by omega
          have HIN2 : Hid (lastIn L p j (L j).n) := by show lastIn L p j (L j).n; rw [← hme]; exact HIN.out
          go_wp2
          go_roundw
          case rel => exact ⟨j + 1, by omega, by go_num, fun i hi => by by_cases e : i = j; · rw [e]; exact HIN2.out
                                                                        · exact HTO.out i (by omega), HB.out⟩
          case measure => simp [intOf]; omega
    · obtain rfl : j = 4 := by omega
      have HE : Hid (true = lastB L p) := by show _ = _; symm; unfold lastB; exact decide_eq_true HTO.out
      go_wp2
      go_ret
      exact ⟨ret_bool HE.out, HBB.out _ HB.out⟩

end Go.Proofs.Ytmjggolllijamaa
