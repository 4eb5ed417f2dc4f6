/-
  A VISIT: what is done next: fromCalm, fromDropping, fromDone, turned.
-/
import Derived.Test.YtlhiadehohikdaaVisit
import Derived.Laws.EntriesVeiled
namespace Go.Proofs.Ytlhiadehohikdaa
open Go.RowKit
set_option linter.unusedVariables false

/-- A method of the visit, as a value. -/
@[reducible] def meth (k V : Nat) : Value := .func (.func k) #[.pointer (some ⟨V, 0, none⟩)] #[]
theorem ret_val {a b : Value} (h : a = b) : Ending.returned a = .returned b := by rw [h]

theorem fromDone_visit (V : Nat) (w : World) :
    Calls Try.prog 44 #[.pointer (some ⟨V, 0, none⟩)] w fun e w' => e = .returned .nilFunc ∧ w' = w := by
  go_enter Try.func44, Try.ntmps44
  go_wp2
  go_ret
  exact ⟨rfl, rfl⟩

theorem fromCalm_visit (s : Vs) (V : Nat) (w : World) (hs : Sits w V (vsCells s) 59) :
    Calls Try.prog 42 #[.pointer (some ⟨V, 0, none⟩)] w fun e w' => e = .returned (if s.lt then meth 50 V else .nilFunc) ∧ w' = w := by
  obtain ⟨c, a, n, cap, lim, now, st, lt, mq, x, m, cp⟩ := s
  have c11 := (vs_cells hs).2.2.2.2.1
  clear hs
  dsimp only at *
  cases lt
  all_goals
    go_enter Try.func42, Try.ntmps42
    go_wp2
    go_ret
    exact ⟨rfl, rfl⟩

set_option maxHeartbeats 1000000 in
theorem fromDropping_visit (s : Vs) (V : Nat) (w : World) (hs : Sits w V (vsCells s) 59) :
    Calls Try.prog 43 #[.pointer (some ⟨V, 0, none⟩)] w fun e w' => e = .returned (if s.lt = false then meth 51 V else if s.mq = true ∨ s.now < s.c.nx then .nilFunc else meth 52 V) ∧ Below w.heap.size w w' := by
  obtain ⟨c, a, n, cap, lim, now, st, lt, mq, x, m, cp⟩ := s
  obtain ⟨⟨c0, c1, c2, c3, c4, c5, c6⟩, ⟨x0, x1⟩, c9, c10, c11, c12, c13⟩ := vs_cells hs
  clear hs
  dsimp only at *
  cases lt
  case false =>
    go_enter Try.func43, Try.ntmps43
    go_wp2
    go_ret
    exact ⟨rfl, Below.refl _ _⟩
  case true =>
  cases mq
  case true =>
    go_enter Try.func43, Try.ntmps43
    go_wp2
    go_quiet (fail)
    go_wp2
    go_ret
    exact ⟨rfl, below_drewN (Below.refl _ _) _⟩
  case false =>
  by_cases h : now < c.nx
  · go_enter Try.func43, Try.ntmps43
    go_wp2
    go_quiet (fail)
    go_wp2
    go_ret
    exact ⟨rfl, below_drewN (Below.refl _ _) _⟩
  · have h' : decide (now < c.nx) = false := by simpa using h
    go_enter Try.func43, Try.ntmps43
    go_wp2
    go_quiet (fail)
    go_wp2
    go_ret
    exact ⟨rfl, below_drewN (Below.refl _ _) _⟩

/-- What is done next. -/
def turnV (s : Vs) (V : Nat) : Value := if s.st = 0 then (if s.lt then meth 50 V else .nilFunc) else if s.st = 1 then (if s.lt = false then meth 51 V else if s.mq = true ∨ s.now < s.c.nx then .nilFunc else meth 52 V) else .nilFunc

set_option maxHeartbeats 1000000 in
theorem turned_visit (s : Vs) (V : Nat) (w : World) (hs : Sits w V (vsCells s) 59) (hst : s.st = 0 ∨ s.st = 1 ∨ s.st = 2) :
    Calls Try.prog 37 #[.pointer (some ⟨V, 0, none⟩)] w fun e w' => e = .returned (turnV s V) ∧ Below w.heap.size w w' := by
  have HS : Hid (Sits w V (vsCells s) 59) := hs
  have hVl := hs.lt
  have c10 := (vs_cells hs).2.2.2.1
  clear hs
  have hne : ¬ w.heap.size = V := by omega
  rcases hst with h | h | h
  · rw [h] at c10
    have HE : Hid ((if s.lt then meth 50 V else .nilFunc) = turnV s V) := by show _ = _; unfold turnV; rw [if_pos h]
    obtain ⟨v, hv⟩ : ∃ v, turnV s V = v := ⟨_, rfl⟩
    have HV : Hid (turnV s V = v) := hv
    rw [hv]
    clear hv h
    go_enter Try.func37, Try.ntmps37
    go_wp2_with (go_at_call 42; refine (fromCalm_visit s V _ (Sits.alloc HS.out _)).mono ?_; rintro e w' ⟨rfl, hb⟩; rw [HE.out, HV.out])
    go_ret
    exact ⟨rfl, (Below.refl _ _).alloc (Nat.le_refl _) _⟩
  · rw [h] at c10
    have HE : Hid ((if s.lt = false then meth 51 V else if s.mq = true ∨ s.now < s.c.nx then .nilFunc else meth 52 V) = turnV s V) := by show _ = _; unfold turnV; rw [if_neg (show ¬ s.st = 0 by rw [h]; decide), if_pos h]
    obtain ⟨v, hv⟩ : ∃ v, turnV s V = v := ⟨_, rfl⟩
    have HV : Hid (turnV s V = v) := hv
    rw [hv]
    clear hv h
    go_enter Try.func37, Try.ntmps37
    go_wp2_with (go_at_call 43; refine (fromDropping_visit s V _ (Sits.alloc HS.out _)).mono ?_; rintro e w' ⟨rfl, hb⟩; rw [HE.out, HV.out])
    go_ret
    exact ⟨rfl, ((Below.refl _ w).alloc (Nat.le_refl _) _).trans (hb.mono (by simp))⟩
  · rw [h] at c10
    have HE : Hid (.nilFunc = turnV s V) := by show _ = _; unfold turnV; rw [if_neg (show ¬ s.st = 0 by rw [h]; decide), if_neg (show ¬ s.st = 1 by rw [h]; decide)]
    obtain ⟨v, hv⟩ : ∃ v, turnV s V = v := ⟨_, rfl⟩
    have HV : Hid (turnV s V = v) := hv
    rw [hv]
    clear hv h
    go_enter Try.func37, Try.ntmps37
    go_wp2_with (go_at_call 44; refine (fromDone_visit V _).mono ?_; rintro e w' ⟨rfl, hb⟩; rw [HE.out, HV.out])
    go_ret
    exact ⟨rfl, (Below.refl _ _).alloc (Nat.le_refl _) _⟩

end Go.Proofs.Ytlhiadehohikdaa
