/-
  A LINE OF THE TEXT, AS THE PROGRAM WRITES IT: withLine.
-/
import Derived.Test.YtcfkmkkgeoaaeaaDoorTextN
import Derived.Test.YtcfkmkkgeoaaeaaDoorItoaI
import Derived.Lib.AppendIntMem
import Derived.Lib.ItoaLen
import Derived.Deep.Cut
namespace Go.Proofs.YtcfkmkkgeoaaeaaDoor
open Go.RowKit
set_option linter.unusedVariables false

theorem u8_dig {k : Nat} (h : k < 10) : ((UInt8.ofNat (48 + k)).toNat : Int) = 48 + (k : Int) := by
  have : (UInt8.ofNat (48 + k)).toNat = 48 + k := by
    rw [UInt8.toNat_ofNat']
    omega
  rw [this]
  omega
theorem dig_str : ∀ (m u : Nat), u < m → (Lib.decDigits u).map (fun b => (b.toNat : Int)) = (List.range (digN u)).map (digF u) := by
  intro m
  induction m with
  | zero => intro u h; omega
  | succ m ih =>
    intro u hu
    by_cases h : u < 10
    · rw [Lib.decDigits_one h, digN_lo h]
      simp only [List.map_cons, List.map_nil, List.range_one]
      rw [u8_dig h, digF_lo h]
    · rw [Lib.decDigits, dif_neg h, List.map_append, ih (u / 10) (by omega), digN_hi h, List.range_succ, List.map_append]
      congr 1
      · refine List.map_congr_left fun i hi => ?_
        have := List.mem_range.1 hi
        rw [digF_hi h, if_neg (by omega)]
      · simp only [List.map_cons, List.map_nil]
        rw [u8_dig (Nat.mod_lt _ (by omega)), digF_hi h, if_pos rfl]
theorem itoa_str {n : Int} (h : 0 ≤ n) : strL ⟨(Lib.itoa n).toArray⟩ = dgL n := by
  obtain ⟨u, rfl⟩ := Int.eq_ofNat_of_zero_le h
  unfold strL dgL
  rw [Lib.itoa_nonneg]
  simpa using dig_str (u + 1) u (by omega)

/-- The numbers of a line. -/
def numsL (f : Nat → Int) (k : Nat) : List Int := (List.range k).flatMap fun j => 32 :: dgL (f j)
theorem numsL_succ (f : Nat → Int) (k : Nat) : numsL f (k + 1) = numsL f k ++ [32] ++ dgL (f k) := by simp [numsL, List.range_succ]
theorem row_at {w : World} {a : Option Addr} {n : Nat} {f : Nat → Int} (h : Row .i64 w a n f) {j : Nat} (hj : j < n) : ∃ b off : Nat, a = some ⟨b, off, none⟩ ∧ b < w.heap.size ∧ w.cell? ⟨b, off + j, none⟩ = some (.int .i64 (f j)) := by
  obtain ⟨b, off, ha, hb, hc⟩ := Row.at h hj
  exact ⟨b, off, ha, hb, hc j hj⟩

set_option maxRecDepth 100000 in
set_option maxHeartbeats 4000000 in
theorem iwithLine_any (wd : ByteArray) (hwd : wd.size ≤ 5) (base : Nat) (y : Option Addr) (cap : Nat) (l : List Int) (m : Nat) (hm : l.length = m) (ad : Option Addr) (n c : Nat) (f : Nat → Int) (w : World) (hown : OB base w y cap l) (hr : Row .i64 w ad n f) (hn : n ≤ 3) (hf : ∀ j, j < n → 0 ≤ f j ∧ f j ≤ 9223372036854775807) (hl : m ≤ 1000000) (hbase : base ≤ w.heap.size)
    (hap : ∀ b off, ad = some ⟨b, off, none⟩ → some b ≠ (Value.slice y m cap).ownBlock) (hT : Lib.TabBelow Tryd.prog base w "internal/strconv.uint64pow10" .u64 Lib.pow10Tab) :
    Calls Tryd.prog 20 #[.slice y m cap, .string wd, .slice ad n c] w fun e w' => ∃ (x : Option Addr) (cx N : Nat), e = .returned (.slice x N cx) ∧ (l ++ strL wd ++ numsL f n ++ [10]).length = N ∧ OB base w' x cx (l ++ strL wd ++ numsL f n ++ [10]) ∧ Gr w w' (.slice y m cap) (.slice x N cx) := by
  have HO : Hid (OB base w y cap l) := hown
  have HR : Hid (Row .i64 w ad n f) := hr
  have HF : Hid (∀ j, j < n → 0 ≤ f j ∧ f j ≤ 9223372036854775807) := hf
  have HT : Hid (∀ U, Below base w U → Lib.TabIs Tryd.prog U "internal/strconv.uint64pow10" .u64 Lib.pow10Tab) := fun U h => hT U h
  have HAP : Hid (∀ b off, ad = some ⟨b, off, none⟩ → some b ≠ (Value.slice y m cap).ownBlock) := hap
  have HM : Hid (l.length = m) := hm
  have HOW : Hid (∀ k, (Value.slice y m cap).ownBlock = some k → base ≤ k) := fun k e => (OB.own hown k (by rw [hm]; exact e)).1
  have hni : (n : Int) ≤ 3 := by omega
  clear hown hr hf hap hT hm
  go_enter Tryd.func20, Tryd.ntmps20
  go_upto_region 2 with (at_builtin; refine wpList_plain rfl fun _ hK => wp_append_obS _ _ rfl base y cap l m HM.out rfl HO.out wd rfl (by omega) hbase ?_; intro x1 c1 w1 ho1 hg1; refine hK _ _ ?_)
  obtain ⟨N1, hN1⟩ : ∃ N, m + wd.size = N := ⟨_, rfl⟩
  have HO1 : Hid (OB base w1 x1 c1 (l ++ strL wd)) := ho1
  rw [hN1] at hg1 ⊢
  have HG1 : Hid (Gr w w1 (.slice y m cap) (.slice x1 N1 c1)) := hg1
  have HN1 : Hid ((l ++ strL wd).length = N1) := by show _ = _; rw [List.length_append, strL_len, HM.out]; exact hN1
  have hN1b : N1 ≤ m + 5 := by omega
  clear ho1 hg1 hN1
  go_wp2
  go_loopw [0, 14] (fun t i wr => ∃ (k : Nat) (x : Option Addr) (cx N : Nat), k ≤ n ∧ i = .int .i64 k ∧ t = .slice x N cx ∧ (l ++ strL wd ++ numsL f k).length = N ∧ N ≤ m + 5 + 20 * k ∧ OB base wr x cx (l ++ strL wd ++ numsL f k) ∧ Gr w wr (.slice y m cap) (.slice x N cx)) (fun _ i _ => n - (intOf i).toNat)
  case atStart => exact ⟨0, x1, c1, N1, Nat.zero_le _, rfl, rfl, by simpa [numsL] using HN1.out, by omega, by simpa [numsL] using HO1.out, HG1.out⟩
  case round =>
    obtain ⟨k, x, cx, N, hk, rfl, rfl, hlen, hNb, ho, hg⟩ := hrel
    obtain ⟨M, hM⟩ : ∃ M, l ++ strL wd ++ numsL f k = M := ⟨_, rfl⟩
    rw [hM] at hlen ho
    have HL : Hid (M.length = N) := hlen
    have HOR : Hid (OB base wr x cx M) := ho
    have HG : Hid (Gr w wr (.slice y m cap) (.slice x N cx)) := hg
    have HMM : Hid (l ++ strL wd ++ numsL f k = M) := hM
    have hbr : base ≤ wr.heap.size := Nat.le_trans hbase hg.size
    have HBW : Hid (Below base w wr) := hg.kept HOW.out hbase
    clear hlen ho hg hM HO1 HG1 HN1
    by_cases hlt : k < n
    · obtain ⟨b, off, hbe, hbl, hbc⟩ := row_at HR.out hlt
      have hc' : wr.cell? ⟨b, off + k, none⟩ = some (.int .i64 (f k)) := (World.cell?_of_block (w := w) (a := ⟨b, off + k, none⟩) ((HG.out).1.block b hbl (HAP.out b off hbe))).trans hbc
      obtain ⟨f0, f1⟩ := HF.out k hlt
      subst hbe
      obtain ⟨v, hv⟩ : ∃ v, f k = v := ⟨_, rfl⟩
      rw [hv] at hc' f0 f1
      have HV : Hid (f k = v) := hv
      have hki : (k : Int) < (n : Int) := by omega
      have hk0 : ¬ (k : Int) < 0 := by omega
      have hdl := dgL_len f1
      have hsz : (⟨(Lib.itoa v).toArray⟩ : ByteArray).size = (dgL v).length := by rw [← itoa_str f0, strL_len]
      obtain ⟨D, hD⟩ : ∃ D, (dgL v).length = D := ⟨_, rfl⟩
      rw [hD] at hdl hsz
      have HSZ : Hid ((⟨(Lib.itoa v).toArray⟩ : ByteArray).size = D) := hsz
      have HDL : Hid ((dgL v).length = D) := hD
      have HSZ2 : Hid ((Lib.itoa v).length = D) := by
        show _ = _
        rw [← hD, ← itoa_str f0]
        simp [strL]
      clear hsz hbc hD hv
      go_upto_region 6 with (at_builtin; refine wpList_plain rfl fun _ hK => wp_append_obN _ _ rfl base x cx M N HL.out rfl (OB.below HOR.out ((Below.refl _ _).alloc (Nat.le_refl _) _)) (some ⟨wr.heap.size, 0, none⟩) 1 1 (fun _ => 32) rfl (row_one wr 32 _) (by omega) (by simp; omega) ?_; intro x2 c2 w2 ho2 hg2; refine hK _ _ ?_)
      rw [range_one] at ho2
      have HO2 : Hid (OB base w2 x2 c2 (M ++ [32])) := ho2
      have HG2 : Hid (Gr w w2 (.slice y m cap) (.slice x2 (N + 1) c2)) := ((HG.out).alloc _).trans hg2
      have HL2 : Hid ((M ++ [32]).length = N + 1) := by show _ = _; rw [List.length_append, HL.out]; rfl
      have HBW2 : Hid (Below base w w2) := (HG2.out).kept HOW.out hbase
      clear ho2 hg2 hc'
      go_upto_region 7 with (first | (go_at_call 31; refine (itoa_laid v (by omega) f1 _ (HT.out _ HBW2.out)).mono ?_; rintro e w3 ⟨rfl, kk, os, hw3⟩; have b23 : Below w2.heap.size w2 w3 := by { rw [hw3]; exact Lib.below_grow _ _ (Nat.le_refl _) _ _ }; clear hw3; have ho3 := OB.below HO2.out b23; have HO3 : Hid (OB base w3 x2 c2 (M ++ [32])) := ho3; have HG3 : Hid (Gr w w3 (.slice y m cap) (.slice x2 (N + 1) c2)) := (HG2.out).below b23; clear b23 ho3) | (at_builtin; refine wpList_plain rfl fun _ hK => wp_append_obS _ _ rfl base x2 c2 (M ++ [32]) (N + 1) HL2.out rfl HO3.out ⟨(Lib.itoa v).toArray⟩ rfl (by rw [HSZ.out]; omega) (Nat.le_trans hbase (HG3.out).size) ?_; intro x4 c4 w4 ho4 hg4; refine hK _ _ ?_))
      rw [itoa_str f0] at ho4
      rw [HSZ.out] at hg4
      rw [HSZ2.out]
      have HO4 : Hid (OB base w4 x4 c4 (M ++ [32] ++ dgL v)) := ho4
      have HG4 : Hid (Gr w w4 (.slice y m cap) (.slice x4 (N + 1 + D) c4)) := (HG3.out).trans hg4
      clear ho4 hg4
      have hms : l ++ strL wd ++ numsL f (k + 1) = M ++ [32] ++ dgL v := by rw [numsL_succ, HV.out, ← HMM.out]; simp
      have HMS : Hid (l ++ strL wd ++ numsL f (k + 1) = M ++ [32] ++ dgL v) := hms
      clear hms
      go_wp2
      go_roundw
      case rel => exact ⟨k + 1, x4, c4, N + 1 + D, by omega, by go_num, rfl, by rw [HMS.out, List.length_append, HL2.out, HDL.out], by omega, by rw [HMS.out]; exact HO4.out, HG4.out⟩
      case measure => simp [intOf]; omega
    · obtain rfl : k = n := by omega
      go_wp2_with (at_builtin; refine wpList_plain rfl fun _ hK => wp_append_obN _ _ rfl base x cx M N HL.out rfl (OB.below HOR.out ((Below.refl _ _).alloc (Nat.le_refl _) _)) (some ⟨wr.heap.size, 0, none⟩) 1 1 (fun _ => 10) rfl (row_one wr 10 _) (by omega) (by simp; omega) ?_; intro x2 c2 w2 ho2 hg2; refine hK _ _ ?_)
      rw [range_one] at ho2
      go_ret
      exact ⟨x2, c2, N + 1, rfl, by rw [HMM.out, List.length_append, HL.out]; rfl, by rw [HMM.out]; exact ho2, ((HG.out).alloc _).trans hg2⟩

end Go.Proofs.YtcfkmkkgeoaaeaaDoor
