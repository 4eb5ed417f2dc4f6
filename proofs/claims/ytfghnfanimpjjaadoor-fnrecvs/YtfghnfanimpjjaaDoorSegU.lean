/-
  RecvSeg, by numbers, and RecvSeg OF THE SPECIFICATION.
-/
import Derived.Test.YtfghnfanimpjjaaDoorSegT
namespace Go.Proofs.YtfghnfanimpjjaaDoor
open Go.RowKit
set_option linter.unusedVariables false

/-- May it be put in? -/
def segP (nx : Int) (f : Nat → Sp) (n : Nat) (fr to : Int) : Prop := recvP nx f n ∧ 0 ≤ fr ∧ fr < to ∧ to ≤ 1000000000000
instance (nx : Int) (f : Nat → Sp) (n : Nat) (fr to : Int) : Decidable (segP nx f n fr to) := by unfold segP; infer_instance
/-- All pieces behind it. -/
def segA (nx : Int) (f : Nat → Sp) (n : Nat) (fr to : Int) : List Sp := (segI nx f (n + 1) ⟨fr, to⟩).all
def segK (nx : Int) (f : Nat → Sp) (n : Nat) (fr to : Int) : Bool := decide (segP nx f n fr to) && decide ((segA nx f n fr to).tail.length ≤ 8)
def outN (nx : Int) (f : Nat → Sp) (n : Nat) (fr to : Int) : Int := if segP nx f n fr to then (if (segA nx f n fr to).tail.length ≤ 8 then ((segA nx f n fr to).headD default).to else nx) else 0
def outL (nx : Int) (f : Nat → Sp) (n : Nat) (fr to : Int) : List Sp := if segP nx f n fr to then (if (segA nx f n fr to).tail.length ≤ 8 then (segA nx f n fr to).tail else spL f n) else []
def outM (nx : Int) (f : Nat → Sp) (n : Nat) (fr to : Int) : Int := if segK nx f n fr to then ((segA nx f n fr to).headD default).to - nx else 0

theorem segI_bd {nx fr to : Int} {f : Nat → Sp} {n : Nat} (h : recvP nx f n) (h0 : 0 ≤ fr) (h1 : fr < to) (h2 : to ≤ 1000000000000) : ∀ k, k ≤ n + 1 → ∀ p ∈ (segI nx f k ⟨fr, to⟩).all, 0 ≤ p.to ∧ p.to ≤ 1000000000000 := by
  intro k
  induction k with
  | zero =>
    intro _ p hp
    have : p = ⟨fr, to⟩ := by simpa [segI, pcL, SegI.all] using hp
    subst this
    exact ⟨by show 0 ≤ to; omega, h2⟩
  | succ k ih =>
    intro hk p hp
    have hb := piece_bd h (show k < n + 1 by omega)
    have ih' := ih (by omega)
    rw [segI_succ] at hp
    unfold SegI.step at hp
    split at hp
    · simp only [SegI.all, List.mem_append, List.mem_singleton] at hp ih'
      rcases hp with ((hp | hp) | hp) | hp
      · exact ih' p (.inl (.inl hp))
      · subst hp; exact hb
      · exact ih' p (.inl (.inr hp))
      · exact ih' p (.inr hp)
    · split at hp
      · simp only [SegI.all, List.mem_append, List.mem_singleton] at hp ih'
        rcases hp with (hp | hp) | (hp | hp)
        · exact ih' p (.inl (.inl hp))
        · exact ih' p (.inl (.inr hp))
        · exact ih' p (.inr hp)
        · subst hp; exact hb
      · simp only [SegI.all, List.mem_append, List.mem_singleton] at hp ih'
        rcases hp with (hp | hp) | hp
        · exact ih' p (.inl (.inl hp))
        · subst hp
          have hc := ih' (segI nx f k ⟨fr, to⟩).ca (.inl (.inr rfl))
          have := smax_bd (pieceF nx f k).to (segI nx f k ⟨fr, to⟩).ca.to
          dsimp only
          omega
        · exact ih' p (.inr hp)
/-- The three ways of a segment that may be put in. -/
theorem seg_ways {nx fr to : Int} {f : Nat → Sp} {n : Nat} (h : segP nx f n fr to) :
    (to ≤ nx ∧ segA nx f n fr to = ⟨0, nx⟩ :: spL f n) ∨
    (nx < to ∧ ∃ q r N L, (segS f n ⟨smax fr nx, to⟩).all = q :: r ∧ segA nx f n fr to = ⟨0, N⟩ :: L ∧ ((q.fr = nx ∧ N = q.to ∧ L = r) ∨ (q.fr ≠ nx ∧ N = nx ∧ L = q :: r)) ∧ 0 ≤ N ∧ N ≤ 1000000000000) := by
  obtain ⟨hr, h0, h1, h2⟩ := h
  by_cases c : to ≤ nx
  · exact .inl ⟨c, seg_low hr h0 h1 c⟩
  · refine .inr ⟨by omega, ?_⟩
    obtain ⟨q, r, e1, e2⟩ := seg_high hr h0 h1 (show nx < to by omega)
    rcases e2 with ⟨e2, e3⟩ | ⟨e2, e3⟩
    · have hb := segI_bd hr h0 h1 h2 (n + 1) (Nat.le_refl _) ⟨0, q.to⟩ (by rw [e3]; simp)
      exact ⟨q, r, q.to, r, e1, e3, .inl ⟨e2, rfl, rfl⟩, hb.1, hb.2⟩
    · exact ⟨q, r, nx, q :: r, e1, e3, .inr ⟨e2, rfl, rfl⟩, hr.1, hr.2.1⟩

theorem ret_rc3 {fn : Func} {tmps : Array Value} {W : World} {i j l B : Nat} {nx m : Int} {b : Bool} {x : Option Addr} {n c : Nat} {t : TypeId} (hr : fn.results = #[.cell i 25, .tmp j, .tmp l]) (hi : tmps[i]?.getD undef = .pointer (some ⟨B, 0, none⟩)) (hj : tmps[j]?.getD undef = .int .i64 m) (hl : tmps[l]?.getD undef = .bool b) (hs : Sits W B (rcCells nx x n c) t) : (results fn tmps).run Tryd.prog W = .ok (.tuple #[rcVal nx x n c, .int .i64 m, .bool b]) W := by
  obtain ⟨c0, c1⟩ := rc_cells hs
  simp [results, hr, hi, hj, hl, go_sem, c0, c1]

end Go.Proofs.YtfghnfanimpjjaaDoor
