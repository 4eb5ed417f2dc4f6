/-
  WHICH SHAPES ARE WELL: the numbers alone; those that wait; a Codel held against the zero one; the specification's l8count.
-/
import Derived.Test.YtmjggolllijamaaShape0
import Derived.Test.YtmjggolllijamaaFairB
import Derived.Laws.StructEq
namespace Go.Proofs.Ytmjggolllijamaa
open Go.RowKit
set_option linter.unusedVariables false

/-- The numbers of the first N lines that have packets, in order. -/
def wl (L : Nat → Ln) (N : Nat) : List Int := ((List.range N).filter fun i => decide ((L i).n ≠ 0)).map fun (i : Nat) => (i : Int)
theorem wl_succ (L : Nat → Ln) (N : Nat) : wl L (N + 1) = if (L N).n = 0 then wl L N else wl L N ++ [(N : Int)] := by
  unfold wl
  rw [List.range_succ, List.filter_append, List.map_append]
  by_cases h : (L N).n = 0
  · rw [if_pos h]; simp [h]
  · rw [if_neg h]; simp [h]
theorem mem_wl {L : Nat → Ln} {N : Nat} {v : Int} : v ∈ wl L N ↔ ∃ i : Nat, i < N ∧ (L i).n ≠ 0 ∧ (i : Int) = v := by
  unfold wl
  simp only [List.mem_map, List.mem_filter, List.mem_range, decide_eq_true_eq]
  constructor
  · rintro ⟨i, ⟨h1, h2⟩, h3⟩; exact ⟨i, h1, h2, h3⟩
  · rintro ⟨i, h1, h2, h3⟩; exact ⟨i, ⟨h1, h2⟩, h3⟩
theorem wl_nodup (L : Nat → Ln) (N : Nat) : (wl L N).Nodup := by
  unfold wl
  refine List.pairwise_map.2 ((List.Pairwise.filter _ List.nodup_range).imp fun {a b} h e => h ?_)
  exact Int.ofNat.inj e
theorem wl_sorted (L : Nat → Ln) : ∀ N, (wl L N).Pairwise (· < ·) ∧ ∀ v ∈ wl L N, v < (N : Int)
  | 0 => ⟨by simp [wl], by simp [wl]⟩
  | N + 1 => by
    obtain ⟨h1, h2⟩ := wl_sorted L N
    rw [wl_succ]
    split
    · exact ⟨h1, fun v hv => by have := h2 v hv; omega⟩
    · refine ⟨List.pairwise_append.2 ⟨h1, by simp, fun a ha b hb => ?_⟩, fun v hv => ?_⟩
      · simp at hb; subst hb; exact h2 a ha
      · rcases List.mem_append.1 hv with h | h
        · have := h2 v h; omega
        · simp at h; omega
theorem wl_len (L : Nat → Ln) (N : Nat) : (wl L N).length ≤ N := by
  unfold wl
  rw [List.length_map]
  exact Nat.le_trans (List.length_filter_le _ _) (by simp)

/-- A Codel that is zero. -/
def cdzB (c : Cd) : Bool := decide (c.tg = 0 ∧ c.iv = 0 ∧ c.fi = 0 ∧ c.nx = 0 ∧ c.ct = 0 ∧ c.la = 0 ∧ c.dr = false)
def hlnP (i : Int) (l : Ln) : Prop := cdzB l.cd = true ∧ (-2000 ≤ l.sh ∧ l.sh ≤ 12000) ∧ fifoB l.f l.n 40 = true ∧ ∀ k, k < l.n → (l.f k).host = i
instance (i : Int) (l : Ln) : Decidable (hlnP i l) := by unfold hlnP; infer_instance
def numP (s : Sh) : Prop := (1000 ≤ s.rt ∧ s.rt ≤ 1000000000000) ∧ (0 ≤ s.ov ∧ s.ov ≤ 200) ∧ (0 ≤ s.nx ∧ s.nx ≤ 4000000000000) ∧ (1 ≤ s.qt ∧ s.qt ≤ 10000) ∧ (1 ≤ s.lim ∧ s.lim ≤ 40)
instance (s : Sh) : Decidable (numP s) := by unfold numP; infer_instance
def turnP (L : Nat → Ln) (ts : List Int) : Prop := ts.Perm (wl L 4)
instance (L : Nat → Ln) (ts : List Int) : Decidable (turnP L ts) := by unfold turnP; infer_instance
def shP (s : Sh) (N : Nat) (L : Nat → Ln) (ts : List Int) : Prop := numP s ∧ N = 4 ∧ (cntF L N : Int) ≤ s.lim ∧ turnP L ts ∧ ∀ i : Nat, i < 4 → hlnP (i : Int) (L i)
instance (s : Sh) (N : Nat) (L : Nat → Ln) (ts : List Int) : Decidable (shP s N L ts) := by unfold shP; infer_instance
def shB (s : Sh) (N : Nat) (L : Nat → Ln) (ts : List Int) : Bool := decide (shP s N L ts)
theorem sh_no {s : Sh} {N : Nat} {L : Nat → Ln} {ts : List Int} (h : ¬ shP s N L ts) : false = shB s N L ts := by unfold shB; simp [h]
theorem sh_yes {s : Sh} {N : Nat} {L : Nat → Ln} {ts : List Int} (h : shP s N L ts) : true = shB s N L ts := by unfold shB; simp [h]
/-- Turns as the specification says them. -/
theorem turn_iff {L : Nat → Ln} {ts : List Int} : turnP L ts ↔ okL ts ∧ (∀ v ∈ ts, v < 4) ∧ ∀ i : Nat, i < 4 → ((L i).n ≠ 0 ↔ (i : Int) ∈ ts) := by
  unfold turnP
  constructor
  · intro h
    have hm : ∀ v, v ∈ ts ↔ v ∈ wl L 4 := fun v => h.mem_iff
    refine ⟨⟨fun v hv => ?_, h.nodup_iff.2 (wl_nodup L 4)⟩, fun v hv => ?_, fun i hi => ?_⟩
    · obtain ⟨i, h1, _, h3⟩ := mem_wl.1 ((hm v).1 hv); omega
    · obtain ⟨i, h1, _, h3⟩ := mem_wl.1 ((hm v).1 hv); omega
    · rw [hm, mem_wl]
      constructor
      · intro h; exact ⟨i, hi, h, rfl⟩
      · rintro ⟨j, _, h2, h3⟩; have : j = i := by omega
        subst this; exact h2
  · rintro ⟨⟨h1, h2⟩, h3, h4⟩
    refine (List.perm_ext_iff_of_nodup h2 (wl_nodup L 4)).2 fun v => ?_
    rw [mem_wl]
    constructor
    · intro hv
      have a := (h1 v hv).1
      have b := h3 v hv
      refine ⟨v.toNat, by omega, ?_, by omega⟩
      rw [h4 v.toNat (by omega)]
      rw [show ((v.toNat : Nat) : Int) = v by omega]
      exact hv
    · rintro ⟨i, hi, hn, rfl⟩
      exact (h4 i hi).1 hn

theorem equalIn_cd (c : Cd) (w : World) :
    (Op.equalIn 10000 51 (.agg #[.int .i64 c.tg, .int .i64 c.iv, .int .i64 c.fi, .int .i64 c.nx, .int .i64 c.ct, .int .i64 c.la, .bool c.dr]) (.agg #[.int .i64 0, .int .i64 0, .int .i64 0, .int .i64 0, .int .i64 0, .int .i64 0, .bool false])).run Try.prog w = .ok (cdzB c) w := by
  have hS : Try.prog.underlying 51 = some (.struct (Try.prog.fieldsOf 51)) := by kernel_rfl
  have hp : Try.prog.stoodInHeld 51 = false := by kernel_rfl
  have u3 := Try.underlying3
  have a3 := Try.isAgg3
  have z3 := Try.sizeOf3
  have u4 := Try.underlying4
  have a4 := Try.isAgg4
  have z4 := Try.sizeOf4
  rw [show (10000 : Nat) = 9999 + 1 from rfl, run_equalIn_struct w 9999 51 _ _ hS hp]
  simp only [Program.fieldsOf, Try.underlying51]
  go_simp
  obtain ⟨a, b, c, d, e, f, g⟩ := c
  unfold cdzB
  by_cases h1 : a = 0 <;> by_cases h2 : b = 0 <;> by_cases h3 : c = 0 <;> by_cases h4 : d = 0 <;> by_cases h5 : e = 0 <;> by_cases h6 : f = 0 <;> cases g <;> simp [h1, h2, h3, h4, h5, h6]

theorem l8count_any (s : Sh) (a : Option Addr) (N ca : Nat) (b : Option Addr) (n c : Nat) (L : Nat → Ln) (w : World) (hN : N ≤ 1048576) (hcn : cntF L N ≤ 1048576) (hP : LR w.heap.size w a N L) :
    Calls Try.prog 52 #[shVal s a N ca b n c] w fun e w' => e = .returned (.int .i64 (cntF L N : Int)) ∧ Below w.heap.size w w' := by
  have HP : Hid (LR w.heap.size w a N L) := hP
  have hN' : (N : Int) ≤ 1048576 := by omega
  have HC : Hid (cntF L N ≤ 1048576) := hcn
  clear hP hN hcn
  have s0 := Sits.new w (shCells s a N ca b n c) 29
  have b0 : Below w.heap.size w (w.alloc (.cells (shCells s a N ca b n c) 29)) := (Below.refl _ w).alloc (Nat.le_refl _) _
  have x5 := s0.cell 5
  have HP0 : Hid (LR _ _ a N L) := LR.go HP.out b0 b0.size
  have HB0 : Hid (Below _ _ _) := b0
  clear s0 b0
  go_enter Try.func52, Try.ntmps52
  go_wp2
  go_loop [3, 4] (fun s i => ∃ k : Nat, k ≤ N ∧ i = .int .i64 k ∧ s = .int .i64 (cntF L k : Int)) (fun _ i => N - (intOf i).toNat)
  case atStart => exact ⟨0, Nat.zero_le _, rfl, rfl⟩
  case round =>
    obtain ⟨k, hk, rfl, rfl⟩ := hrel
    by_cases hlt : k < N
    · obtain ⟨b1, off, rfl, hbl, hcs⟩ := LR.at HP0.out hlt
      obtain ⟨x, c', hat, hnc, hpr⟩ := hcs k hlt
      have c0 := hat.1
      have hm := cntF_mono L (show k + 1 ≤ N from hlt)
      have HS : Hid (cntF L (k + 1) = cntF L k + (L k).n) := cntF_succ L k
      have hb1 : (cntF L k : Int) + ((L k).n : Int) ≤ 1048576 := by have := HS.out; have := HC.out; omega
      clear hcs hat hpr hm
      go_wp2
      go_round
      case rel => exact ⟨k + 1, by omega, by go_num, by rw [HS.out]; go_num⟩
      case measure => simp [intOf]; omega
    · obtain rfl : k = N := by omega
      go_wp2
      go_ret
      exact ⟨rfl, HB0.out⟩

end Go.Proofs.Ytmjggolllijamaa
