/-
  WHO TAKES TURNS, AS THE PROGRAM SAYS: turnOk; shapeNumbersOk.
-/
import Derived.Test.YtehlcekfccjahaaShapeI
namespace Go.Proofs.Ytehlcekfccjahaa
open Go.RowKit
set_option linter.unusedVariables false

theorem field_list (v : Value) (w : World) : (Instr.field 78 (.agg #[v]) 0).run Try.prog w = .ok v w := by kernel_rfl

def turnB (L : Nat → Ln) (ts : List Int) : Bool := decide (turnP L ts)
theorem srt_pairwise {g : Nat → Int} {n : Nat} (h : srt g n) : ((List.range n).map g).Pairwise (· ≤ ·) := by
  rw [List.pairwise_map]
  refine (List.pairwise_lt_range (n := n)).imp_of_mem fun {a b} ha hb hab => ?_
  exact h a b hab (by simpa using hb)
/-- Sorted, Turn is just those that wait. -/
theorem turn_sorted {L : Nat → Ln} {ts : List Int} {g : Nat → Int} {n : Nat} (hp : ((List.range n).map g).Perm ts) (hs : srt g n) : decide ((List.range n).map g = wl L 4) = turnB L ts := by
  unfold turnB turnP
  apply decide_eq_decide.2
  constructor
  · intro h; rw [← h]; exact hp.symm
  · intro h
    exact List.Perm.eq_of_pairwise (le := fun a b => a ≤ b) (fun a b _ _ h1 h2 => by omega) (srt_pairwise hs) ((wl_sorted L 4).1.imp fun {a b} h => by omega) (hp.trans h)
theorem map_join (f : Nat → Int) (m : Nat) (v : Int) : (List.range (m + 1)).map (joinI f m fun _ => v) = (List.range m).map f ++ [v] := by
  rw [List.range_succ, List.map_append]
  congr 1
  · refine List.map_congr_left fun j hj => ?_
    unfold joinI; rw [if_pos (by simpa using hj)]
  · simp [joinI]

set_option maxRecDepth 100000 in
set_option maxHeartbeats 4000000 in
theorem iturnOk_any (s : Sh) (a : Option Addr) (ca : Nat) (b : Option Addr) (n c : Nat) (L : Nat → Ln) (tn : Nat → Int) (w : World)
    (hcn : cntF L 4 ≤ 1048576) (hnn : n ≤ 1048576) (hP : LR w.heap.size w a 4 L) (hb : Row .i64 w b n tn) :
    Calls Try.prog 41 #[shVal s a 4 ca b n c] w fun e w' => e = .returned (.bool (turnB L ((List.range n).map tn))) ∧ Below w.heap.size w w' := by
  have HP : Hid (LR w.heap.size w a 4 L) := hP
  have HRB : Hid (Row .i64 w b n tn) := hb
  have HCN : Hid (cntF L 4 ≤ 1048576) := hcn
  have HNN : Hid (n ≤ 1048576) := hnn
  have hni : (n : Int) ≤ 1048576 := by omega
  clear hP hb hcn hnn
  obtain ⟨W0, hW0⟩ : ∃ W, w.alloc (.cells (shCells s a 4 ca b n c) 31) = W := ⟨_, rfl⟩
  have s0 : Sits W0 w.heap.size (shCells s a 4 ca b n c) 31 := by rw [← hW0]; exact Sits.new _ _ _
  have b0 : Below w.heap.size w W0 := by rw [← hW0]; exact (Below.refl _ w).alloc (Nat.le_refl _) _
  have z0 : W0.heap.size = w.heap.size + 1 := by rw [← hW0]; simp
  have HW0 : Hid (w.alloc (.cells (shCells s a 4 ca b n c) 31) = W0) := hW0
  have HS0 : Hid (Sits _ _ _ _) := s0
  have HB0 : Hid (Below w.heap.size w W0) := b0
  have HZ0 : Hid (W0.heap.size = w.heap.size + 1) := z0
  have x5 := s0.cell 5
  have l0 := s0.lt
  clear s0 b0 hW0 z0
  have HBB : Hid (∀ w', Below W0.heap.size W0 w' → Below w.heap.size w w') := fun w' hw' => (HB0.out).trans (hw'.mono (HB0.out).size)
  go_enter Try.func41, Try.ntmps41
  go_upto_region 1 with fail
  rw [HW0.out]
  clear HW0
  go_wp2
  go_loopw [3, 10] (fun v i wr => ∃ (k : Nat) (x : Option Addr) (m cap : Nat) (f : Nat → Int), k ≤ 4 ∧ i = .int .i64 (k : Int) ∧ v = .slice x m cap ∧ JO W0.heap.size wr x m cap f ∧ (List.range m).map f = wl L k ∧ Below W0.heap.size W0 wr) (fun _ i _ => 4 - (intOf i).toNat)
  case atStart => exact ⟨0, none, 0, 0, fun _ => 0, Nat.zero_le _, rfl, rfl, JO.nil _ _ _, rfl, Below.refl _ _⟩
  case round =>
    obtain ⟨k, x, m, cap, f, hk, rfl, rfl, hjo, hwl, hB⟩ := hrel
    have HJ : Hid (JO W0.heap.size wr x m cap f) := hjo
    have HWL : Hid ((List.range m).map f = wl L k) := hwl
    have HB : Hid (Below W0.heap.size W0 wr) := hB
    have hm : m ≤ 4 := by have h1 := congrArg List.length hwl; have h2 := wl_len L k; simp at h1; omega
    have HM : Hid (m ≤ 4) := hm
    have hmi : (m : Int) ≤ 4 := by omega
    clear hjo hwl hm
    by_cases hlt : k < 4
    · obtain ⟨b1, off, rfl, hbl, hcs⟩ := LR.at HP.out hlt
      obtain ⟨y, cy, hat, hnc, hpr⟩ := hcs k hlt
      obtain ⟨c0, c1, c2, c3, c4, c5, c6, c7, c8⟩ := hat.below (HBB.out _ hB) hbl
      have hnk : (L k).n ≤ 1048576 := Nat.le_trans (cntF_le L hlt) HCN.out
      have hlti : (k : Int) < 4 := by omega
      clear hcs hat hpr hnc x5
      by_cases hz : (L k).n = 0
      · have hz' : decide ((0 : Int) < ((L k).n : Int)) = false := decide_eq_false (by omega)
        have HWN : Hid (wl L (k + 1) = wl L k) := by show _ = _; rw [wl_succ, if_pos hz]
        have hz2 : ¬ 0 < (L k).n := by omega
        clear hz
        go_wp2
        go_roundw
        case rel => exact ⟨k + 1, x, m, cap, f, by omega, by go_num, rfl, JO.alloc HJ.out _, by rw [HWN.out]; exact HWL.out, hB.alloc hB.size _⟩
        case measure => simp [intOf]; omega
      · have hz' : decide ((0 : Int) < ((L k).n : Int)) = true := decide_eq_true (by omega)
        have HWN : Hid (wl L (k + 1) = wl L k ++ [(k : Int)]) := by show _ = _; rw [wl_succ, if_neg hz]
        have hz2 : 0 < (L k).n := by omega
        clear hz
        obtain ⟨V, hV⟩ : ∃ V, (wr.alloc (.cells (lnCells y cy (L k)) 54)).alloc (.cells #[.int .i64 (k : Int)] 3) = V := ⟨_, rfl⟩
        have sV : Sits V (wr.heap.size + 1) #[.int .i64 (k : Int)] 3 := by rw [← hV]; exact Sits.new' (by simp)
        have bV : Below W0.heap.size W0 V := by rw [← hV]; exact (hB.alloc hB.size _).alloc (by simp; have := hB.size; omega) _
        have jV : JO W0.heap.size V x m cap f := by rw [← hV]; exact JO.alloc (JO.alloc HJ.out _) _
        have HV : Hid ((wr.alloc (.cells (lnCells y cy (L k)) 54)).alloc (.cells #[.int .i64 (k : Int)] 3) = V) := hV
        have HBV : Hid (Below W0.heap.size W0 V) := bV
        have HJV : Hid (JO W0.heap.size V x m cap f) := jV
        have HRV : Hid (Row .i64 V (some ⟨wr.heap.size + 1, 0, none⟩) 1 (fun _ => (k : Int))) := .inr ⟨wr.heap.size + 1, 0, rfl, sV.lt, fun i hi => by have e : i = 0 := (by omega); subst e; exact sV.cell 0⟩
        clear hV sV bV jV HJ
        go_wp2_with (at_builtin; rw [HV.out]; refine wpList_append_inN rfl _ _ rfl W0.heap.size x m cap f rfl HJV.out (some ⟨wr.heap.size + 1, 0, none⟩) 1 1 (fun _ => (k : Int)) rfl HRV.out (by have := HM.out; omega) (HBV.out).size ?_; intro x2 cap2 w2 hjo2 hgr2)
        have HB2 : Hid (Below W0.heap.size W0 w2) := Below.grown (B := W0.heap.size) (a := W0) HBV.out hgr2 (HBV.out).size (fun j e => (JO.own_lt HJV.out j e).1)
        go_roundw
        case rel => exact ⟨k + 1, x2, m + 1, cap2, joinI f m (fun _ => (k : Int)), by omega, by go_num, rfl, hjo2, by rw [HWN.out, map_join, HWL.out], HB2.out⟩
        case measure => simp [intOf]; omega
    · obtain rfl : k = 4 := by omega
      have s1 := Sits.below HS0.out hB l0
      have x6 := s1.cell 6
      clear s1 x5
      by_cases hnm : n = m
      case neg =>
        have hnm' : ((n : Int) != (m : Int)) = true := by simp; omega
        have HE : Hid (false = turnB L ((List.range n).map tn)) := by
          show _ = _; symm; unfold turnB; rw [decide_eq_false_iff_not]; intro h
          have h1 := h.length_eq
          rw [← HWL.out] at h1
          simp at h1
          exact hnm h1
        go_wp2
        go_ret
        exact ⟨ret_bool HE.out, HBB.out _ hB⟩
      case pos =>
      have HMN : Hid (n = m) := hnm
      subst hnm
      have hfl := field_list
      have HRB1 : Hid (Row .i64 wr b n tn) := Row.below HRB.out (HBB.out _ hB)
      by_cases hn0 : n = 0
      · subst hn0
        have HE : Hid (true = turnB L ((List.range 0).map tn)) := by
          show _ = _; symm; unfold turnB; exact decide_eq_true (show List.Perm _ _ by rw [← HWL.out]; exact List.Perm.refl _)
        go_wp2_with (first
          | (go_at_call 44; refine (ilistOf_any b 0 c tn _ HNN.out HRB1.out).mono ?_; rintro e w1 ⟨y, cy, rfl, hj1, hb1⟩)
          | (go_at_call 54; refine (isort_zero y cy _).mono ?_; rintro e w2 ⟨rfl, rfl⟩)
          | (go_at_call 55; refine (iequal_any y 0 cy tn x 0 cap f _ HNN.out HNN.out (.inl rfl) (.inl rfl)).mono ?_; rintro e w3 ⟨rfl, hb3⟩))
        go_ret
        refine ⟨ret_bool ?_, HBB.out _ ((HB.out).trans ((hb1.trans (hb3.mono hb1.size)).mono (HB.out).size))⟩
        rw [← HE.out]; simp [eqlB]
      · go_wp2_with (first
          | (go_at_call 44; refine (ilistOf_any b n c tn _ HNN.out HRB1.out).mono ?_; rintro e w1 ⟨y, cy, rfl, hj1, hb1⟩; obtain ⟨g0, hg0, hge, how⟩ : ∃ g, y = some ⟨g, 0, none⟩ ∧ wr.heap.size ≤ g ∧ Own .i64 w1 g n tn := (by rcases hj1.own with e | h; exact absurd e hn0; exact h); subst hg0; have HOW : Hid (Own .i64 w1 g0 n tn) := how; have HB1 : Hid (Below wr.heap.size wr w1) := hb1; have HGE : Hid (wr.heap.size ≤ g0) := hge; clear how hb1 hj1 hge)
          | (go_at_call 54; refine (isort_any g0 n cy tn _ (by have := HM.out; omega) HOW.out).mono ?_; rintro e w2 ⟨rfl, g, hog, hpm, hsr, hch⟩; have HB2 : Hid (Below wr.heap.size wr w2) := (show Below wr.heap.size wr w2 from Chg.bel hch HB1.out HGE.out); have HOG : Hid (Own .i64 w2 g0 n g) := hog; have HPM : Hid (((List.range n).map g).Perm ((List.range n).map tn)) := hpm; have HSR : Hid (srt g n) := hsr; clear hog hpm hsr hch)
          | (go_at_call 55; refine (iequal_any (some ⟨g0, 0, none⟩) n cy g x n cap f _ HNN.out HNN.out (.inr ⟨g0, 0, rfl, (HOG.out).1, fun i hi => by rw [Nat.zero_add]; exact ((HOG.out).2 i hi).1⟩) (Row.below (JO.row HJ.out) HB2.out)).mono ?_; rintro e w3 ⟨rfl, hb3⟩))
        go_ret
        refine ⟨ret_bool ?_, HBB.out _ ((HB.out).trans (((HB2.out).trans (hb3.mono (HB2.out).size)).mono (HB.out).size))⟩
        unfold eqlB
        rw [HWL.out]
        exact turn_sorted HPM.out HSR.out

def numB (s : Sh) : Bool := decide (numP s)

set_option maxHeartbeats 2000000 in
theorem inumOk_any (s : Sh) (a : Option Addr) (N ca : Nat) (b : Option Addr) (n c : Nat) (w : World) :
    Calls Try.prog 40 #[shVal s a N ca b n c] w fun e w' => e = .returned (.bool (numB s)) ∧ Below w.heap.size w w' := by
  obtain ⟨rt, ov, nx, qt, lim⟩ := s
  have s0 := Sits.new w (shCells ⟨rt, ov, nx, qt, lim⟩ a N ca b n c) 31
  have b0 : Below w.heap.size w (w.alloc (.cells (shCells ⟨rt, ov, nx, qt, lim⟩ a N ca b n c) 31)) := (Below.refl _ w).alloc (Nat.le_refl _) _
  have HB0 : Hid (Below _ _ _) := b0
  have HN : Hid (numB ⟨rt, ov, nx, qt, lim⟩ = (inB rt 1000 1000000000000 && inB ov 0 200 && inB nx 0 4000000000000 && inB qt 1 10000 && inB lim 1 40)) := by
    show _ = _
    unfold numB inB
    rw [Bool.eq_iff_iff]
    simp only [numP, Bool.and_eq_true, decide_eq_true_eq, and_assoc]
  have HC : inB rt 1000 1000000000000 = false ∨ (inB rt 1000 1000000000000 = true ∧ inB ov 0 200 = false) ∨ (inB rt 1000 1000000000000 = true ∧ inB ov 0 200 = true ∧ inB nx 0 4000000000000 = false) ∨ (inB rt 1000 1000000000000 = true ∧ inB ov 0 200 = true ∧ inB nx 0 4000000000000 = true ∧ inB qt 1 10000 = false) ∨ (inB rt 1000 1000000000000 = true ∧ inB ov 0 200 = true ∧ inB nx 0 4000000000000 = true ∧ inB qt 1 10000 = true) := by
    cases inB rt 1000 1000000000000 <;> cases inB ov 0 200 <;> cases inB nx 0 4000000000000 <;> cases inB qt 1 10000 <;> simp
  clear s0 b0
  rcases HC with h1 | ⟨h1, h2⟩ | ⟨h1, h2, h3⟩ | ⟨h1, h2, h3, h4⟩ | ⟨h1, h2, h3, h4⟩
  all_goals
    go_enter Try.func40, Try.ntmps40
    go_wp2_with (go_at_call 43; refine (within_any _ _ _ _).mono ?_; rintro e w' ⟨rfl, rfl⟩)
    all_goals
      go_ret
      refine ⟨ret_bool ?_, HB0.out⟩
      rw [HN.out]
      simp [*]

end Go.Proofs.Ytehlcekfccjahaa
