/-
  EVENTS: an event's seven numbers; which events are well: EventOk OF BOTH SIDES; the laws' toEvent.
-/
import Derived.Test.YtcmjnanejeekiaaPk
import Derived.Test.YtcmjnanejeekiaaSits
namespace Go.Proofs.Ytcmjnanejeekiaa
open Go.RowKit
set_option linter.unusedVariables false

/-- An event's numbers. -/
structure Ev where
  kd : Int
  gp : Int
  fw : Int
  hs : Int
  sz : Int
  ec : Int
  dr : Int
@[reducible] def Ev.val (p : Ev) : Value := .agg #[.int .i64 p.kd, .int .i64 p.gp, .int .i64 p.fw, .int .i64 p.hs, .int .i64 p.sz, .int .i64 p.ec, .int .i64 p.dr]
@[reducible] def evCells (p : Ev) : Array Value := #[.int .i64 p.kd, .int .i64 p.gp, .int .i64 p.fw, .int .i64 p.hs, .int .i64 p.sz, .int .i64 p.ec, .int .i64 p.dr]
/-- The numbers lie in an int. -/
def Ev.In (p : Ev) : Prop := (-9223372036854775808 ≤ p.kd ∧ p.kd ≤ 9223372036854775807) ∧ (-9223372036854775808 ≤ p.gp ∧ p.gp ≤ 9223372036854775807) ∧ (-9223372036854775808 ≤ p.fw ∧ p.fw ≤ 9223372036854775807) ∧ (-9223372036854775808 ≤ p.hs ∧ p.hs ≤ 9223372036854775807) ∧ (-9223372036854775808 ≤ p.sz ∧ p.sz ≤ 9223372036854775807) ∧ (-9223372036854775808 ≤ p.ec ∧ p.ec ≤ 9223372036854775807) ∧ (-9223372036854775808 ≤ p.dr ∧ p.dr ≤ 9223372036854775807)
/-- The packet that comes with it, but for its Id. -/
def Ev.pk (e : Ev) (now : Int) : Pk := ⟨0, e.fw, e.hs, e.sz, now, e.ec⟩
/-- No other number than its kind and its gap. -/
def Ev.bare (e : Ev) : Bool := (e.fw == 0) && ((e.hs == 0) && ((e.sz == 0) && ((e.ec == 0) && (e.dr == 0))))
def Ev.ok (e : Ev) : Prop := (0 ≤ e.gp ∧ e.gp ≤ 1000000000) ∧ ((e.kd = 0 ∧ (0 ≤ e.fw ∧ e.fw ≤ 15) ∧ (0 ≤ e.hs ∧ e.hs ≤ 3) ∧ (1 ≤ e.sz ∧ e.sz ≤ 2000) ∧ (0 ≤ e.ec ∧ e.ec ≤ 3) ∧ (0 ≤ e.dr ∧ e.dr ≤ 2147483647)) ∨ ((e.kd = 1 ∨ e.kd = 2) ∧ e.fw = 0 ∧ e.hs = 0 ∧ e.sz = 0 ∧ e.ec = 0 ∧ e.dr = 0))
instance (e : Ev) : Decidable e.ok := by unfold Ev.ok; infer_instance
def Ev.good (e : Ev) : Bool := decide e.ok

theorem toEvent_any (p : Ev) (w : World) :
    Calls Try.prog 7 #[p.val] w fun o w' => o = .returned p.val ∧ Kept w w' := by
  obtain ⟨k, g, f, h, s, c, d⟩ := p
  simp only [Ev.val]
  go_enter Try.func7, Try.ntmps7
  go_wp2
  exact bodyPost_ret (v := .agg #[.int .i64 k, .int .i64 g, .int .i64 f, .int .i64 h, .int .i64 s, .int .i64 c, .int .i64 d]) (by simp [results, Try.results7, go_sem]) rfl ⟨rfl, by constructor <;> go_grown⟩

theorem packetOf_any (p : Ev) (now : Int) (w : World) :
    Calls Try.prog 22 #[p.val, .int .i64 now] w fun o w' => o = .returned (p.pk now).val ∧ Kept w w' := by
  obtain ⟨k, g, f, h, s, c, d⟩ := p
  simp only [Ev.val, Ev.pk]
  go_enter Try.func22, Try.ntmps22
  go_wp2
  exact bodyPost_ret (v := .agg #[.int .i64 0, .int .i64 f, .int .i64 h, .int .i64 s, .int .i64 now, .int .i64 c]) (by simp [results, Try.results22, go_sem]) rfl ⟨rfl, by constructor <;> go_grown⟩

--HALF
set_option maxRecDepth 100000 in
set_option maxHeartbeats 4000000 in
theorem sEventOk_any (p : Ev) (w : World) :
    Calls Try.prog 6 #[p.val] w fun e w' => e = .returned (.bool p.good) ∧ Kept w w' := by
  obtain ⟨k, g, f, h, s, c, d⟩ := p
  simp only [Ev.val]
  have HE : Hid (∀ b : Bool, (b = true ↔ Ev.ok ⟨k, g, f, h, s, c, d⟩) → b = Ev.good ⟨k, g, f, h, s, c, d⟩) := fun b hb => by
    rw [Bool.eq_iff_iff, hb]; unfold Ev.good; simp
  by_cases k0 : k = 0
  · subst k0
    go_enter Try.func6, Try.ntmps6
    go_wp2
    all_goals
      go_ret
      exact ⟨ret_bool (HE.out _ (by simp [Ev.ok] <;> omega)), by constructor <;> go_grown⟩
  have k0' : (k == 0) = false := by simpa using k0
  by_cases k12 : k = 1 ∨ k = 2
  · have kf : ¬ k < 0 := by omega
    rcases k12 with rfl | rfl
    · by_cases f0 : f = 0
      case neg =>
        have z : (f == 0) = false := by simpa using f0
        go_enter Try.func6, Try.ntmps6
        go_wp2
        all_goals
          go_ret
          exact ⟨ret_bool (HE.out _ (by simp [Ev.ok, f0] <;> omega)), by constructor <;> go_grown⟩
      case pos =>
      subst f0
      by_cases h0 : h = 0
      case neg =>
        have z : (h == 0) = false := by simpa using h0
        go_enter Try.func6, Try.ntmps6
        go_wp2
        all_goals
          go_ret
          exact ⟨ret_bool (HE.out _ (by simp [Ev.ok, h0] <;> omega)), by constructor <;> go_grown⟩
      case pos =>
      subst h0
      by_cases s0 : s = 0
      case neg =>
        have z : (s == 0) = false := by simpa using s0
        go_enter Try.func6, Try.ntmps6
        go_wp2
        all_goals
          go_ret
          exact ⟨ret_bool (HE.out _ (by simp [Ev.ok, s0] <;> omega)), by constructor <;> go_grown⟩
      case pos =>
      subst s0
      by_cases c0 : c = 0
      case neg =>
        have z : (c == 0) = false := by simpa using c0
        go_enter Try.func6, Try.ntmps6
        go_wp2
        all_goals
          go_ret
          exact ⟨ret_bool (HE.out _ (by simp [Ev.ok, c0] <;> omega)), by constructor <;> go_grown⟩
      case pos =>
      subst c0
      by_cases d0 : d = 0
      case neg =>
        have z : (d == 0) = false := by simpa using d0
        go_enter Try.func6, Try.ntmps6
        go_wp2
        all_goals
          go_ret
          exact ⟨ret_bool (HE.out _ (by simp [Ev.ok, d0] <;> omega)), by constructor <;> go_grown⟩
      case pos =>
      subst d0
      go_enter Try.func6, Try.ntmps6
      go_wp2
      all_goals
        go_ret
        exact ⟨ret_bool (HE.out _ (by simp [Ev.ok] <;> omega)), by constructor <;> go_grown⟩
    · by_cases f0 : f = 0
      case neg =>
        have z : (f == 0) = false := by simpa using f0
        go_enter Try.func6, Try.ntmps6
        go_wp2
        all_goals
          go_ret
          exact ⟨ret_bool (HE.out _ (by simp [Ev.ok, f0] <;> omega)), by constructor <;> go_grown⟩
      case pos =>
      subst f0
      by_cases h0 : h = 0
      case neg =>
        have z : (h == 0) = false := by simpa using h0
        go_enter Try.func6, Try.ntmps6
        go_wp2
        all_goals
          go_ret
          exact ⟨ret_bool (HE.out _ (by simp [Ev.ok, h0] <;> omega)), by constructor <;> go_grown⟩
      case pos =>
      subst h0
      by_cases s0 : s = 0
      case neg =>
        have z : (s == 0) = false := by simpa using s0
        go_enter Try.func6, Try.ntmps6
        go_wp2
        all_goals
          go_ret
          exact ⟨ret_bool (HE.out _ (by simp [Ev.ok, s0] <;> omega)), by constructor <;> go_grown⟩
      case pos =>
      subst s0
      by_cases c0 : c = 0
      case neg =>
        have z : (c == 0) = false := by simpa using c0
        go_enter Try.func6, Try.ntmps6
        go_wp2
        all_goals
          go_ret
          exact ⟨ret_bool (HE.out _ (by simp [Ev.ok, c0] <;> omega)), by constructor <;> go_grown⟩
      case pos =>
      subst c0
      by_cases d0 : d = 0
      case neg =>
        have z : (d == 0) = false := by simpa using d0
        go_enter Try.func6, Try.ntmps6
        go_wp2
        all_goals
          go_ret
          exact ⟨ret_bool (HE.out _ (by simp [Ev.ok, d0] <;> omega)), by constructor <;> go_grown⟩
      case pos =>
      subst d0
      go_enter Try.func6, Try.ntmps6
      go_wp2
      all_goals
        go_ret
        exact ⟨ret_bool (HE.out _ (by simp [Ev.ok] <;> omega)), by constructor <;> go_grown⟩
  · have k1 : ¬ k = 1 := by omega
    have k2 : ¬ k = 2 := by omega
    have k1' : (k == 1) = false := by simpa using k1
    have k2' : (k == 2) = false := by simpa using k2
    go_enter Try.func6, Try.ntmps6
    go_wp2
    all_goals
      go_ret
      exact ⟨ret_bool (HE.out _ (by simp [Ev.ok, k0, k1, k2] <;> omega)), by constructor <;> go_grown⟩

theorem equalIn_ev (e : Ev) (w : World) :
    (Op.equalIn 10000 25 (.agg #[.int .i64 e.kd, .int .i64 e.gp, .int .i64 e.fw, .int .i64 e.hs, .int .i64 e.sz, .int .i64 e.ec, .int .i64 e.dr]) (.agg #[.int .i64 e.kd, .int .i64 e.gp, .int .i64 0, .int .i64 0, .int .i64 0, .int .i64 0, .int .i64 0])).run Try.prog w = .ok e.bare w := by
  have hS : Try.prog.underlying 25 = some (.struct (Try.prog.fieldsOf 25)) := by kernel_rfl
  have hp : Try.prog.stoodInHeld 25 = false := by kernel_rfl
  have u3 := Try.underlying3
  have a3 := Try.isAgg3
  have z3 := Try.sizeOf3
  rw [show (10000 : Nat) = 9999 + 1 from rfl, run_equalIn_struct w 9999 25 _ _ hS hp]
  simp only [Program.fieldsOf, Try.underlying25]
  go_simp
  obtain ⟨k, g, a, b, c, d, e⟩ := e
  unfold Ev.bare
  by_cases h1 : a = 0 <;> by_cases h2 : b = 0 <;> by_cases h3 : c = 0 <;> by_cases h4 : d = 0 <;> by_cases h5 : e = 0 <;> simp [h1, h2, h3, h4, h5]

set_option maxRecDepth 100000 in
set_option maxHeartbeats 4000000 in
theorem iEventOk_any (p : Ev) (w : World) :
    Calls Try.prog 8 #[p.val] w fun e w' => e = .returned (.bool p.good) ∧ Kept w w' := by
  obtain ⟨k, g, f, h, s, c, d⟩ := p
  simp only [Ev.val]
  have HE : Hid (∀ b : Bool, (b = true ↔ Ev.ok ⟨k, g, f, h, s, c, d⟩) → b = Ev.good ⟨k, g, f, h, s, c, d⟩) := fun b hb => by
    rw [Bool.eq_iff_iff, hb]; unfold Ev.good; simp
  cases hg : inB g 0 1000000000
  case false =>
    have hn : ¬ (0 ≤ g ∧ g ≤ 1000000000) := by simpa [inB] using hg
    go_enter Try.func8, Try.ntmps8
    go_wp2_with (first | (go_at_call 20; refine (within_any _ _ _ _).mono ?_; rintro e w' ⟨rfl, rfl⟩))
    go_ret
    exact ⟨ret_bool (HE.out _ (by exact ⟨fun hh => Bool.noConfusion hh, fun hh => absurd hh.1 hn⟩)), by constructor <;> go_grown⟩
  case true =>
  have hn : 0 ≤ g ∧ g ≤ 1000000000 := by simpa [inB] using hg
  have HN : Hid (0 ≤ g ∧ g ≤ 1000000000) := hn
  clear hn
  by_cases k0 : k = 0
  · subst k0
    obtain ⟨v, hv⟩ : ∃ v, (Ev.pk ⟨0, g, f, h, s, c, d⟩ 0).good = v := ⟨_, rfl⟩
    obtain ⟨u, hu⟩ : ∃ u, inB d 0 2147483647 = u := ⟨_, rfl⟩
    have HV : Hid ((Ev.pk ⟨0, g, f, h, s, c, d⟩ 0).good = v) := hv
    have HU : Hid (inB d 0 2147483647 = u) := hu
    have HX : Hid ((v && u) = true ↔ Ev.ok ⟨0, g, f, h, s, c, d⟩) := by
      show _ ↔ _
      rw [← hv, ← hu]
      have := HN.out
      unfold Ev.ok Ev.pk Pk.good inB
      constructor
      · intro hh
        simp only [Bool.and_eq_true, decide_eq_true_eq] at hh
        exact ⟨this, .inl ⟨rfl, hh.1.2.2.1, hh.1.2.2.2.1, hh.1.2.2.2.2.1, hh.1.2.2.2.2.2, hh.2⟩⟩
      · rintro ⟨_, ⟨_, h1, h2, h3, h4, h5⟩ | ⟨h1, _⟩⟩
        · simp only [Bool.and_eq_true, decide_eq_true_eq]
          exact ⟨⟨by omega, by omega, h1, h2, h3, h4⟩, h5⟩
        · dsimp only at h1; omega
    clear hv
    cases v
    · go_enter Try.func8, Try.ntmps8
      go_wp2_with (first | (go_at_call 20; refine (within_any _ _ _ _).mono ?_; rintro e w' ⟨rfl, rfl⟩) | (go_at_call 22; refine (packetOf_any ⟨0, g, f, h, s, c, d⟩ 0 _).mono ?_; rintro e w1 ⟨rfl, h1⟩) | (go_at_call 21; refine (ipktOk_any _ _).mono ?_; rintro e w2 ⟨rfl, h2⟩; rw [HV.out]))
      go_ret
      exact ⟨ret_bool (HE.out _ HX.out), ((Kept.alloc _ _ _).trans h1).trans h2⟩
    · go_enter Try.func8, Try.ntmps8
      go_wp2_with (first | (go_at_call 20; refine (within_any _ _ _ _).mono ?_; rintro e w' ⟨rfl, rfl⟩) | (go_at_call 22; refine (packetOf_any ⟨0, g, f, h, s, c, d⟩ 0 _).mono ?_; rintro e w1 ⟨rfl, h1⟩) | (go_at_call 21; refine (ipktOk_any _ _).mono ?_; rintro e w2 ⟨rfl, h2⟩; rw [HV.out]; have sE := Sits.kept (Sits.kept (Sits.new w (evCells ⟨0, g, f, h, s, c, d⟩) 25) h1) h2; have c6 : w2.cell? ⟨w.heap.size, 6, none⟩ = some (.int .i64 d) := sE.cell 6; clear sE))
      go_ret
      exact ⟨ret_bool (HE.out _ HX.out), ((Kept.alloc _ _ _).trans h1).trans h2⟩
  have k0' : (k == 0) = false := by simpa using k0
  obtain ⟨b, hb⟩ : ∃ b, Ev.bare ⟨k, g, f, h, s, c, d⟩ = b := ⟨_, rfl⟩
  have heq := equalIn_ev ⟨k, g, f, h, s, c, d⟩
  rw [hb] at heq
  dsimp only at heq
  have HX : Hid ((k = 1 ∨ k = 2) → (b = true ↔ Ev.ok ⟨k, g, f, h, s, c, d⟩)) := fun hk => by
    rw [← hb]
    have := HN.out
    simp [Ev.ok, Ev.bare, k0, hk]
    omega
  clear hb
  by_cases k1 : k = 1
  · subst k1
    have HY : Hid (b = true ↔ Ev.ok ⟨1, g, f, h, s, c, d⟩) := (HX.out) (.inl rfl)
    clear HX
    go_enter Try.func8, Try.ntmps8
    go_wp2_with (first | (go_at_call 20; refine (within_any _ _ _ _).mono ?_; rintro e w' ⟨rfl, rfl⟩))
    go_ret
    exact ⟨ret_bool (HE.out _ HY.out), by constructor <;> go_grown⟩
  have k1' : (k == 1) = false := by simpa using k1
  by_cases k2 : k = 2
  · subst k2
    have HY : Hid (b = true ↔ Ev.ok ⟨2, g, f, h, s, c, d⟩) := (HX.out) (.inr rfl)
    clear HX
    go_enter Try.func8, Try.ntmps8
    go_wp2_with (first | (go_at_call 20; refine (within_any _ _ _ _).mono ?_; rintro e w' ⟨rfl, rfl⟩))
    go_ret
    exact ⟨ret_bool (HE.out _ HY.out), by constructor <;> go_grown⟩
  have k2' : (k == 2) = false := by simpa using k2
  go_enter Try.func8, Try.ntmps8
  go_wp2_with (first | (go_at_call 20; refine (within_any _ _ _ _).mono ?_; rintro e w' ⟨rfl, rfl⟩))
  go_ret
  exact ⟨ret_bool (HE.out _ (by simp [Ev.ok, k0, k1, k2])), by constructor <;> go_grown⟩

end Go.Proofs.Ytcmjnanejeekiaa
