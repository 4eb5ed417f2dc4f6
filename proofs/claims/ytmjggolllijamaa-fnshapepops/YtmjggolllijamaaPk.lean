/-
  PACKETS: a packet's six numbers; which packets are well: PktOk OF BOTH SIDES; the laws' toPkt and eqPkt.
-/
import Derived.Test.YtmjggolllijamaaBase
namespace Go.Proofs.Ytmjggolllijamaa
open Go.RowKit
set_option linter.unusedVariables false

/-- A packet's numbers. -/
structure Pk where
  id : Int
  flow : Int
  host : Int
  size : Int
  tm : Int
  ecn : Int
instance : Inhabited Pk := ⟨⟨0, 0, 0, 0, 0, 0⟩⟩
@[reducible] def Pk.val (p : Pk) : Value := .agg #[.int .i64 p.id, .int .i64 p.flow, .int .i64 p.host, .int .i64 p.size, .int .i64 p.tm, .int .i64 p.ecn]
@[reducible] def pkCells (p : Pk) : Array Value := #[.int .i64 p.id, .int .i64 p.flow, .int .i64 p.host, .int .i64 p.size, .int .i64 p.tm, .int .i64 p.ecn]
/-- The numbers lie in an int. -/
def Pk.In (p : Pk) : Prop := (-9223372036854775808 ≤ p.id ∧ p.id ≤ 9223372036854775807) ∧ (-9223372036854775808 ≤ p.flow ∧ p.flow ≤ 9223372036854775807) ∧ (-9223372036854775808 ≤ p.host ∧ p.host ≤ 9223372036854775807) ∧ (-9223372036854775808 ≤ p.size ∧ p.size ≤ 9223372036854775807) ∧ (-9223372036854775808 ≤ p.tm ∧ p.tm ≤ 9223372036854775807) ∧ (-9223372036854775808 ≤ p.ecn ∧ p.ecn ≤ 9223372036854775807)

/-- v lies in l .. h. -/
def inB (v l h : Int) : Bool := decide (l ≤ v ∧ v ≤ h)
/-- Is it a packet? -/
def Pk.good (p : Pk) : Bool := inB p.id 0 1000000000000 && (inB p.tm 0 1000000000000 && (inB p.flow 0 15 && (inB p.host 0 3 && (inB p.size 1 2000 && inB p.ecn 0 3))))

theorem within_any (v l h : Int) (w : World) :
    Calls Try.prog 31 #[.int .i64 v, .int .i64 l, .int .i64 h] w fun e w' => e = .returned (.bool (inB v l h)) ∧ w' = w := by
  by_cases hn : l ≤ v
  · go_enter Try.func31, Try.ntmps31
    go_wp2
    go_ret
    exact ⟨ret_bool (by rw [Bool.eq_iff_iff]; simp [inB]; omega), rfl⟩
  · have HE : Hid (false = inB v l h) := by show _ = _; unfold inB; simp; omega
    have hn' : decide (l ≤ v) = false := by simp; omega
    go_enter Try.func31, Try.ntmps31
    go_wp2
    go_ret
    exact ⟨ret_bool HE.out, rfl⟩

set_option maxHeartbeats 1000000 in
theorem ipktOk_any (p : Pk) (w : World) :
    Calls Try.prog 47 #[p.val] w fun e w' => e = .returned (.bool p.good) ∧ Kept w w' := by
  obtain ⟨a, b, c, d, t, g⟩ := p
  simp only [Pk.val, Pk.good]
  cases h1 : inB a 0 1000000000000
  case false =>
    go_enter Try.func47, Try.ntmps47
    go_wp2_with (go_at_call 31; refine (within_any _ _ _ _).mono ?_; rintro e w' ⟨rfl, rfl⟩)
    go_ret
    exact ⟨ret_bool (by simp), by constructor <;> go_grown⟩
  case true =>
  cases h2 : inB t 0 1000000000000
  case false =>
    go_enter Try.func47, Try.ntmps47
    go_wp2_with (go_at_call 31; refine (within_any _ _ _ _).mono ?_; rintro e w' ⟨rfl, rfl⟩)
    go_ret
    exact ⟨ret_bool (by simp), by constructor <;> go_grown⟩
  case true =>
  cases h3 : inB b 0 15
  case false =>
    go_enter Try.func47, Try.ntmps47
    go_wp2_with (go_at_call 31; refine (within_any _ _ _ _).mono ?_; rintro e w' ⟨rfl, rfl⟩)
    go_ret
    exact ⟨ret_bool (by simp), by constructor <;> go_grown⟩
  case true =>
  cases h4 : inB c 0 3
  case false =>
    go_enter Try.func47, Try.ntmps47
    go_wp2_with (go_at_call 31; refine (within_any _ _ _ _).mono ?_; rintro e w' ⟨rfl, rfl⟩)
    go_ret
    exact ⟨ret_bool (by simp), by constructor <;> go_grown⟩
  case true =>
  cases h5 : inB d 1 2000
  case false =>
    go_enter Try.func47, Try.ntmps47
    go_wp2_with (go_at_call 31; refine (within_any _ _ _ _).mono ?_; rintro e w' ⟨rfl, rfl⟩)
    go_ret
    exact ⟨ret_bool (by simp), by constructor <;> go_grown⟩
  case true =>
  go_enter Try.func47, Try.ntmps47
  go_wp2_with (go_at_call 31; refine (within_any _ _ _ _).mono ?_; rintro e w' ⟨rfl, rfl⟩)
  go_ret
  exact ⟨ret_bool (by simp), by constructor <;> go_grown⟩

set_option maxHeartbeats 1000000 in
theorem spktOk_ex (p : Pk) (w : World) :
    Calls Try.prog 17 #[p.val] w fun e w' => e = .returned (.bool p.good) ∧ w' = w.alloc (.cells (pkCells p) 31) := by
  obtain ⟨a, b, c, d, t, g⟩ := p
  simp only [Pk.val, Pk.good]
  go_enter Try.func17, Try.ntmps17
  go_wp2
  all_goals
    go_ret
    exact ⟨ret_bool (by rw [Bool.eq_iff_iff]; simp [inB]; omega), rfl⟩

theorem spktOk_any (p : Pk) (w : World) :
    Calls Try.prog 17 #[p.val] w fun e w' => e = .returned (.bool p.good) ∧ Kept w w' := by
  refine (spktOk_ex p w).mono ?_
  rintro e w' ⟨rfl, rfl⟩
  exact ⟨rfl, Kept.alloc _ _ _⟩

theorem toPkt_any (p : Pk) (w : World) :
    Calls Try.prog 96 #[p.val] w fun o w' => o = .returned p.val ∧ Kept w w' := by
  obtain ⟨a, b, c, d, t, g⟩ := p
  simp only [Pk.val]
  go_enter Try.func96, Try.ntmps96
  go_wp2
  exact bodyPost_ret (v := .agg #[.int .i64 a, .int .i64 b, .int .i64 c, .int .i64 d, .int .i64 t, .int .i64 g]) (by simp [results, Try.results96, go_sem]) rfl ⟨rfl, by constructor <;> go_grown⟩

theorem eqPkt_yes (p : Pk) (w : World) :
    Calls Try.prog 11 #[p.val, p.val] w fun o w' => o = .returned (.bool true) ∧ Kept w w' := by
  obtain ⟨a, b, c, d, t, g⟩ := p
  simp only [Pk.val]
  go_enter Try.func11, Try.ntmps11
  go_wp2
  go_ret
  exact ⟨rfl, by constructor <;> go_grown⟩

end Go.Proofs.Ytmjggolllijamaa
