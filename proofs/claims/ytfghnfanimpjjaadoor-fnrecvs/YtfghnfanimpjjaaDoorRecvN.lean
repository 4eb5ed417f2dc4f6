/-
  WHAT THE LAW FnRecvs ASKS OF NUMBERS: what is had behind a segment, what lacks; and l11seg of the specification in one sentence.
-/
import Derived.Test.YtfghnfanimpjjaaDoorOrdN
import Derived.Test.YtfghnfanimpjjaaDoorSegV
namespace Go.Proofs.YtfghnfanimpjjaaDoor
open Go.RowKit
set_option linter.unusedVariables false

theorem chain_spL {nx : Int} {f : Nat → Sp} {n : Nat} (h : okS nx f n) : chain nx (spL f n) := by
  have key : ∀ m k, k + m = n → chain (endF nx f k) ((List.range m).map fun i => f (k + i)) := by
    intro m
    induction m with
    | zero => intro k hk; simp [chain]
    | succ m ih =>
      intro k hk
      have h1 := ih (k + 1) (by omega)
      rw [endF_succ] at h1
      have e : (List.range (m + 1)).map (fun i => f (k + i)) = f k :: (List.range m).map (fun i => f (k + 1 + i)) := by
        rw [List.range_succ_eq_map, List.map_cons, List.map_map]
        congr 1
        refine List.map_congr_left fun i hi => ?_
        show f (k + (i + 1)) = f (k + 1 + i)
        congr 1
        omega
      rw [e]
      obtain ⟨a, b, c⟩ := h k (by omega)
      exact ⟨a, b, c, h1⟩
  have := key n 0 (by omega)
  simpa [endF, spL] using this
theorem rv_of {nx : Int} {f : Nat → Sp} {n : Nat} (h : recvP nx f n) : Rv nx (spL f n) := ⟨h.1, h.2.1, chain_spL h.2.2.2⟩
theorem recvP_lf {nx : Int} {L : List Sp} (h : Rv nx L) (h8 : L.length ≤ 8) : recvP nx (lf L) L.length := ⟨h.lo, h.hi, h8, okS_of h.ch⟩
theorem hasP_in {nx : Int} {f : Nat → Sp} {n : Nat} {t : Int} : hasP nx f n t ↔ inL' (pcs nx (spL f n)) t := by
  unfold pcs
  rw [← pcL_spL]
  constructor
  · rintro ⟨k, hk, hi⟩
    exact ⟨pieceF nx f k, by unfold pcL; exact List.mem_map.2 ⟨k, List.mem_range.2 hk, rfl⟩, hi⟩
  · rintro ⟨p, hp, hi⟩
    unfold pcL at hp
    obtain ⟨k, hk, rfl⟩ := List.mem_map.1 hp
    exact ⟨k, List.mem_range.1 hk, hi⟩

/-- A segment that may be put in: all pieces behind it. -/
theorem seg_all {nx fr to : Int} {f : Nat → Sp} {n : Nat} (h : segP nx f n fr to) :
    ∃ N M, segA nx f n fr to = pcs N M ∧ Rv N M ∧ ∀ t, inL' (pcs N M) t ↔ inL' (pcs nx (spL f n)) t ∨ (fr ≤ t ∧ t < to) := by
  obtain ⟨hr, h0, h1, h2⟩ := h
  obtain ⟨N, M, e1, e2, _, e4⟩ := seg_rv (rv_of hr) h0 h1 h2
  refine ⟨N, M, ?_, e2, e4⟩
  unfold segA segI
  rw [pcL_spL]
  exact e1
/-- It was put in: what is had then. -/
theorem seg_out {nx fr to : Int} {f : Nat → Sp} {n : Nat} (h : segK nx f n fr to = true) :
    ∃ N M, outN nx f n fr to = N ∧ outL nx f n fr to = M ∧ outM nx f n fr to = N - nx ∧ Rv N M ∧ M.length ≤ 8 ∧ ∀ t, hasP N (lf M) M.length t ↔ hasP nx f n t ∨ (fr ≤ t ∧ t < to) := by
  have h' := h
  unfold segK at h'
  simp only [Bool.and_eq_true, decide_eq_true_eq] at h'
  obtain ⟨hP, hl⟩ := h'
  obtain ⟨N, M, eA, hR, hT⟩ := seg_all hP
  rw [eA] at hl
  have hl' : M.length ≤ 8 := hl
  refine ⟨N, M, ?_, ?_, ?_, hR, hl', fun t => ?_⟩
  · unfold outN; rw [if_pos hP, eA, if_pos (show (pcs N M).tail.length ≤ 8 from hl')]; rfl
  · unfold outL; rw [if_pos hP, eA, if_pos (show (pcs N M).tail.length ≤ 8 from hl')]; rfl
  · unfold outM; rw [if_pos h, eA]; rfl
  · rw [hasP_in, hasP_in]
    have e : spL (lf M) M.length = M := spL_of M
    rw [e]
    exact hT t
/-- It was well, and was not put in. -/
theorem seg_no {nx fr to : Int} {f : Nat → Sp} {n : Nat} (hP : segP nx f n fr to) (h : segK nx f n fr to = false) :
    outN nx f n fr to = nx ∧ outL nx f n fr to = spL f n ∧ outM nx f n fr to = 0 := by
  have hl : ¬ (segA nx f n fr to).tail.length ≤ 8 := fun hl => by
    unfold segK at h
    rw [decide_eq_true hP, decide_eq_true hl] at h
    exact absurd h (by decide)
  refine ⟨?_, ?_, ?_⟩
  · unfold outN; rw [if_pos hP, if_neg hl]
  · unfold outL; rw [if_pos hP, if_neg hl]
  · unfold outM; rw [h]; rfl
/-- It was not as is wanted. -/
theorem seg_bad {nx fr to : Int} {f : Nat → Sp} {n : Nat} (hP : ¬ segP nx f n fr to) :
    segK nx f n fr to = false ∧ outN nx f n fr to = 0 ∧ outL nx f n fr to = [] ∧ outM nx f n fr to = 0 := by
  have hk : segK nx f n fr to = false := by unfold segK; rw [decide_eq_false hP]; rfl
  refine ⟨hk, ?_, ?_, ?_⟩
  · unfold outN; rw [if_neg hP]
  · unfold outL; rw [if_neg hP]
  · unfold outM; rw [hk]; rfl

/-- What lacks between two spans. -/
theorem end_up {nx : Int} {f : Nat → Sp} {n : Nat} (h : okS nx f n) : ∀ j k, j ≤ k → k ≤ n → endF nx f j ≤ endF nx f k := by
  intro j k hjk
  induction k with
  | zero => intro _; obtain rfl : j = 0 := by omega
            exact Int.le_refl _
  | succ k ih =>
    intro hk
    by_cases e : j = k + 1
    · subst e; exact Int.le_refl _
    · have h1 := ih (by omega) (by omega)
      have h2 := h k (by omega)
      rw [endF_succ]
      omega
theorem piece_to {nx : Int} {f : Nat → Sp} (k : Nat) : (pieceF nx f k).to = endF nx f k := by
  unfold pieceF endF
  by_cases e : k = 0 <;> simp [e]
theorem gap_no {nx : Int} {f : Nat → Sp} {n : Nat} (h : okS nx f n) {i : Nat} (hi : i < n) {t : Int} (h0 : endF nx f i ≤ t) (h1 : t < (f i).fr) : ¬ hasP nx f n t := by
  rintro ⟨k, hk, hp1, hp2⟩
  rw [piece_to] at hp2
  by_cases e : k ≤ i
  · have := end_up h k i e (by omega); omega
  · obtain ⟨m, rfl⟩ : ∃ m, k = m + 1 := ⟨k - 1, by omega⟩
    rw [pieceF_succ] at hp1
    have h2 := h m (by omega)
    have h3 := end_up h i m (by omega) (by omega)
    by_cases e2 : m = i
    · subst e2; omega
    · have h4 := end_up h (i + 1) m (by omega) (by omega)
      rw [endF_succ] at h4
      have h5 := h i hi
      omega
theorem next_no {nx : Int} {f : Nat → Sp} {n : Nat} (h : okS nx f n) : ¬ hasP nx f n nx := by
  by_cases e : n = 0
  · rintro ⟨k, hk, _, hp2⟩
    obtain rfl : k = 0 := by omega
    rw [piece_to] at hp2
    simp [endF] at hp2
  · have h0 := h 0 (by omega)
    exact gap_no h (i := 0) (by omega) (by simp [endF]) (by simpa [endF] using h0.1)
theorem from_has {nx : Int} {f : Nat → Sp} {n : Nat} (h : okS nx f n) {i : Nat} (hi : i < n) : hasP nx f n (f i).fr :=
  ⟨i + 1, by omega, by unfold inPc; rw [pieceF_succ]; exact ⟨Int.le_refl _, (h i hi).2.1⟩⟩

/-- l11seg, at a receiver that is well. -/
theorem l11seg_in (X : Nat) (nx fr to : Int) (x : Option Addr) (c : Nat) (L : List Sp) (base : Nat) (w : World) (hS : Sits w X (rcCells nx x L.length c) 25) (hO : OS base w x c L) (hb : base ≤ w.heap.size) (hR : Rv nx L) (h8 : L.length ≤ 8) (h0 : 0 ≤ fr) (h1 : fr < to) (h2 : to ≤ 1000000000000) :
    Calls Tryd.prog 25 #[.pointer (some ⟨X, 0, none⟩), .int .i64 fr, .int .i64 to] w fun e w' => ∃ (m : Int) (ok : Bool), e = .returned (.tuple #[.int .i64 m, .bool ok]) ∧ Only X w w' ∧ (ok = true → ∃ (N : Int) (M : List Sp) (y : Option Addr) (cy : Nat), Sits w' X (rcCells N y M.length cy) 25 ∧ OS base w' y cy M ∧ Rv N M ∧ M.length ≤ 8 ∧ ∀ t, inL' (pcs N M) t → inL' (pcs nx L) t ∨ t < to) := by
  have hP : segP nx (lf L) L.length fr to := ⟨recvP_lf hR h8, h0, h1, h2⟩
  obtain ⟨N', M', eA, hR', hT'⟩ := seg_all hP
  have eL : spL (lf L) L.length = L := spL_of L
  rw [eL] at hT'
  have hSR : SR w.heap.size w x L.length (lf L) := ZS.sr hO.zs
  rcases seg_ways hP with ⟨hlo, _⟩ | ⟨hhi, q, r, N, L', e1, e2, e3, n0, n1⟩
  · refine (l11seg_low X nx fr to x L.length c w hS hlo).mono ?_
    rintro e w' ⟨rfl, rfl⟩
    exact ⟨0, true, rfl, Only.refl _ _, fun _ => ⟨nx, L, x, c, hS, hO, hR, h8, fun t ht => .inl ht⟩⟩
  · refine (l11seg_high X nx fr to x L.length c (lf L) w hS hSR h8 hhi q r e1 N L' e3 hR.lo hR.hi n0 n1).mono ?_
    rintro e w' ⟨ho, ⟨_, rfl⟩ | ⟨hl, rfl, y, cy, hs, hos⟩⟩
    · exact ⟨0, false, rfl, ho, fun h => absurd h (by decide)⟩
    · have e5 : pcs N' M' = pcs N L' := eA.symm.trans e2
      have e6 : N' = N ∧ M' = L' := by
        unfold pcs at e5
        simp only [List.cons.injEq, Sp.mk.injEq, true_and] at e5
        exact e5
      obtain ⟨rfl, rfl⟩ := e6
      exact ⟨_, true, rfl, ho, fun _ => ⟨N', M', y, cy, hs, OS.mono hos hb, hR', hl, fun t ht => ((hT' t).1 ht).imp id fun h => h.2⟩⟩

end Go.Proofs.YtfghnfanimpjjaaDoor
