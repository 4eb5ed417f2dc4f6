/-
  WHICH FRAMES ARE WELL: FrameOk OF BOTH SIDES, flowOf, flowOk, TupleOf.
-/
import Derived.Test.YtkhfcemjmnjkdaaFr
namespace Go.Proofs.Ytkhfcemjmnjkdaa
open Go.RowKit
set_option linter.unusedVariables false

/-- n is a number of k bits. -/
def okB (n k : Int) : Bool := decide (0 ≤ n ∧ n < 2 ^ k.toNat)
def Wide5 (k : Int) : Prop := k = 2 ∨ k = 6 ∨ k = 8 ∨ k = 16 ∨ k = 32

theorem l2bits_any (n k : Int) (w : World) (h0 : -9223372036854775808 ≤ n) (h1 : n ≤ 9223372036854775807) (hk : Wide5 k) :
    Calls Try.prog 16 #[.int .i64 n, .int .i64 k] w fun e w' => e = .returned (.bool (okB n k)) ∧ w' = w := by
  by_cases hn : 0 ≤ n
  · rcases hk with rfl | rfl | rfl | rfl | rfl
    all_goals
      go_enter Try.func16, Try.ntmps16
      go_wp2
      go_ret
      exact ⟨ret_bool (by rw [Bool.eq_iff_iff]; simp [okB]; omega), rfl⟩
  · have HE : Hid (false = okB n k) := by show _ = _; unfold okB; simp; omega
    have hn' : decide (0 ≤ n) = false := by simp; omega
    go_enter Try.func16, Try.ntmps16
    go_wp2
    go_ret
    exact ⟨ret_bool HE.out, rfl⟩

theorem hasBits_any (n k : Int) (w : World) (h0 : -9223372036854775808 ≤ n) (h1 : n ≤ 9223372036854775807) (hk : Wide5 k) :
    Calls Try.prog 17 #[.int .i64 n, .int .i64 k] w fun e w' => e = .returned (.bool (okB n k)) ∧ w' = w := by
  by_cases hn : 0 ≤ n
  · rcases hk with rfl | rfl | rfl | rfl | rfl
    all_goals
      go_enter Try.func17, Try.ntmps17
      go_wp2
      go_ret
      exact ⟨ret_bool (by rw [Bool.eq_iff_iff]; simp [okB]; omega), rfl⟩
  · have HE : Hid (false = okB n k) := by show _ = _; unfold okB; simp; omega
    have hn' : decide (0 ≤ n) = false := by simp; omega
    go_enter Try.func17, Try.ntmps17
    go_wp2
    go_ret
    exact ⟨ret_bool HE.out, rfl⟩

/-- The numbers lie in an int. -/
def Fr.In (r : Fr) : Prop := (-9223372036854775808 ≤ r.dscp ∧ r.dscp ≤ 9223372036854775807) ∧ (-9223372036854775808 ≤ r.ecn ∧ r.ecn ≤ 9223372036854775807) ∧ (-9223372036854775808 ≤ r.id ∧ r.id ≤ 9223372036854775807) ∧ (-9223372036854775808 ≤ r.ttl ∧ r.ttl ≤ 9223372036854775807) ∧ (-9223372036854775808 ≤ r.proto ∧ r.proto ≤ 9223372036854775807) ∧ (-9223372036854775808 ≤ r.src ∧ r.src ≤ 9223372036854775807) ∧ (-9223372036854775808 ≤ r.dst ∧ r.dst ≤ 9223372036854775807) ∧ (-9223372036854775808 ≤ r.srcP ∧ r.srcP ≤ 9223372036854775807) ∧ (-9223372036854775808 ≤ r.dstP ∧ r.dstP ≤ 9223372036854775807)
/-- What a flow's five numbers must be. -/
def flB (p s d sp dp : Int) : Bool := okB p 8 && (okB s 32 && (okB d 32 && (okB sp 16 && okB dp 16)))
/-- Is it a frame? -/
def Fr.good (r : Fr) (n : Nat) : Bool := okB r.dscp 6 && (okB r.ecn 2 && (okB r.id 16 && (okB r.ttl 8 && (flB r.proto r.src r.dst r.srcP r.dstP && decide ((n : Int) ≤ 76)))))

set_option maxHeartbeats 1000000 in
theorem flowOk_any (p s d sp dp : Int) (w : World) (hp : -9223372036854775808 ≤ p ∧ p ≤ 9223372036854775807) (hs : -9223372036854775808 ≤ s ∧ s ≤ 9223372036854775807) (hd : -9223372036854775808 ≤ d ∧ d ≤ 9223372036854775807) (hsp : -9223372036854775808 ≤ sp ∧ sp ≤ 9223372036854775807) (hdp : -9223372036854775808 ≤ dp ∧ dp ≤ 9223372036854775807) :
    Calls Try.prog 18 #[.agg #[.int .i64 p, .int .i64 s, .int .i64 d, .int .i64 sp, .int .i64 dp]] w fun e w' => e = .returned (.bool (flB p s d sp dp)) ∧ Below w.heap.size w w' := by
  cases h1 : okB p 8
  case false =>
    have HE : Hid (false = flB p s d sp dp) := by show _ = _; simp [flB, *]
    go_enter Try.func18, Try.ntmps18
    go_wp2_with (first | (go_at_call 17; refine (hasBits_any _ _ _ (by omega) (by omega) (by unfold Wide5; omega)).mono ?_; rintro e w' ⟨rfl, rfl⟩))
    go_ret
    exact ⟨ret_bool HE.out, by go_grown⟩
  case true =>
    cases h2 : okB s 32
    case false =>
      have HE : Hid (false = flB p s d sp dp) := by show _ = _; simp [flB, *]
      go_enter Try.func18, Try.ntmps18
      go_wp2_with (first | (go_at_call 17; refine (hasBits_any _ _ _ (by omega) (by omega) (by unfold Wide5; omega)).mono ?_; rintro e w' ⟨rfl, rfl⟩))
      go_ret
      exact ⟨ret_bool HE.out, by go_grown⟩
    case true =>
      cases h3 : okB d 32
      case false =>
        have HE : Hid (false = flB p s d sp dp) := by show _ = _; simp [flB, *]
        go_enter Try.func18, Try.ntmps18
        go_wp2_with (first | (go_at_call 17; refine (hasBits_any _ _ _ (by omega) (by omega) (by unfold Wide5; omega)).mono ?_; rintro e w' ⟨rfl, rfl⟩))
        go_ret
        exact ⟨ret_bool HE.out, by go_grown⟩
      case true =>
        cases h4 : okB sp 16
        case false =>
          have HE : Hid (false = flB p s d sp dp) := by show _ = _; simp [flB, *]
          go_enter Try.func18, Try.ntmps18
          go_wp2_with (first | (go_at_call 17; refine (hasBits_any _ _ _ (by omega) (by omega) (by unfold Wide5; omega)).mono ?_; rintro e w' ⟨rfl, rfl⟩))
          go_ret
          exact ⟨ret_bool HE.out, by go_grown⟩
        case true =>
          cases h5 : okB dp 16
          case false =>
            have HE : Hid (false = flB p s d sp dp) := by show _ = _; simp [flB, *]
            go_enter Try.func18, Try.ntmps18
            go_wp2_with (first | (go_at_call 17; refine (hasBits_any _ _ _ (by omega) (by omega) (by unfold Wide5; omega)).mono ?_; rintro e w' ⟨rfl, rfl⟩))
            go_ret
            exact ⟨ret_bool HE.out, by go_grown⟩
          case true =>
            have HE : Hid (true = flB p s d sp dp) := by show _ = _; simp [flB, *]
            go_enter Try.func18, Try.ntmps18
            go_wp2_with (first | (go_at_call 17; refine (hasBits_any _ _ _ (by omega) (by omega) (by unfold Wide5; omega)).mono ?_; rintro e w' ⟨rfl, rfl⟩))
            go_ret
            exact ⟨ret_bool HE.out, by go_grown⟩

theorem flowOf_any (d e i t p s q sp dp : Int) (a : Option Addr) (n c : Nat) (w : World) :
    Calls Try.prog 19 #[.agg #[.int .i64 d, .int .i64 e, .int .i64 i, .int .i64 t, .int .i64 p, .int .i64 s, .int .i64 q, .int .i64 sp, .int .i64 dp, .slice a n c]] w fun o w' => o = .returned (.agg #[.int .i64 p, .int .i64 s, .int .i64 q, .int .i64 sp, .int .i64 dp]) ∧ Below w.heap.size w w' := by
  go_enter Try.func19, Try.ntmps19
  go_wp2
  exact bodyPost_ret (v := .agg #[.int .i64 p, .int .i64 s, .int .i64 q, .int .i64 sp, .int .i64 dp]) (by simp [results, Try.results19, go_sem]) rfl ⟨rfl, by go_grown⟩

set_option maxHeartbeats 2000000 in
theorem iframeOk_any (r : Fr) (a : Option Addr) (n c : Nat) (w : World) (hr : r.In) (hn : (n : Int) ≤ 9223372036854775807) :
    Calls Try.prog 7 #[r.val a n c] w fun e w' => e = .returned (.bool (r.good n)) ∧ Below w.heap.size w w' := by
  obtain ⟨d, e, i, t, p, s, q, sp, dp⟩ := r
  obtain ⟨hd, he, hi, ht, hp, hs, hq, hsp, hdp⟩ := hr
  dsimp only at hd he hi ht hp hs hq hsp hdp
  simp only [Fr.val, Fr.good]
  cases h1 : okB d 6
  case false =>
    go_enter Try.func7, Try.ntmps7
    go_wp2_with (first | (go_at_call 17; refine (hasBits_any _ _ _ (by omega) (by omega) (by unfold Wide5; omega)).mono ?_; rintro o w' ⟨rfl, rfl⟩) | (go_at_call 19; refine (flowOf_any d e i t p s q sp dp a n c _).mono ?_; rintro o w1 ⟨rfl, hb1⟩; have q9 : w1.cell? ⟨w.heap.size, 9, none⟩ = some (.slice a n c) := (hb1.cell (p := ⟨w.heap.size, 9, none⟩) (by simp)).trans (by simp [go_sem])) | (go_at_call 18; refine (flowOk_any _ _ _ _ _ _ ⟨by omega, by omega⟩ ⟨by omega, by omega⟩ ⟨by omega, by omega⟩ ⟨by omega, by omega⟩ ⟨by omega, by omega⟩).mono ?_; rintro o w2 ⟨rfl, hb2⟩; have q9' : w2.cell? ⟨w.heap.size, 9, none⟩ = some (.slice a n c) := (hb2.cell (p := ⟨w.heap.size, 9, none⟩) (by have := hb1.size; simp at this; show w.heap.size < _; omega)).trans q9))
    go_ret
    exact ⟨ret_bool (by simp <;> omega), by first | (go_grown; done) | (have k1 := (Below.refl w.heap.size w).alloc (Nat.le_refl _) (.cells #[.int .i64 d, .int .i64 e, .int .i64 i, .int .i64 t, .int .i64 p, .int .i64 s, .int .i64 q, .int .i64 sp, .int .i64 dp, .slice a n c] 26); exact (k1.trans (hb1.mono k1.size)).trans (hb2.mono (Nat.le_trans k1.size hb1.size)))⟩
  case true =>
    cases h2 : okB e 2
    case false =>
      go_enter Try.func7, Try.ntmps7
      go_wp2_with (first | (go_at_call 17; refine (hasBits_any _ _ _ (by omega) (by omega) (by unfold Wide5; omega)).mono ?_; rintro o w' ⟨rfl, rfl⟩) | (go_at_call 19; refine (flowOf_any d e i t p s q sp dp a n c _).mono ?_; rintro o w1 ⟨rfl, hb1⟩; have q9 : w1.cell? ⟨w.heap.size, 9, none⟩ = some (.slice a n c) := (hb1.cell (p := ⟨w.heap.size, 9, none⟩) (by simp)).trans (by simp [go_sem])) | (go_at_call 18; refine (flowOk_any _ _ _ _ _ _ ⟨by omega, by omega⟩ ⟨by omega, by omega⟩ ⟨by omega, by omega⟩ ⟨by omega, by omega⟩ ⟨by omega, by omega⟩).mono ?_; rintro o w2 ⟨rfl, hb2⟩; have q9' : w2.cell? ⟨w.heap.size, 9, none⟩ = some (.slice a n c) := (hb2.cell (p := ⟨w.heap.size, 9, none⟩) (by have := hb1.size; simp at this; show w.heap.size < _; omega)).trans q9))
      go_ret
      exact ⟨ret_bool (by simp <;> omega), by first | (go_grown; done) | (have k1 := (Below.refl w.heap.size w).alloc (Nat.le_refl _) (.cells #[.int .i64 d, .int .i64 e, .int .i64 i, .int .i64 t, .int .i64 p, .int .i64 s, .int .i64 q, .int .i64 sp, .int .i64 dp, .slice a n c] 26); exact (k1.trans (hb1.mono k1.size)).trans (hb2.mono (Nat.le_trans k1.size hb1.size)))⟩
    case true =>
      cases h3 : okB i 16
      case false =>
        go_enter Try.func7, Try.ntmps7
        go_wp2_with (first | (go_at_call 17; refine (hasBits_any _ _ _ (by omega) (by omega) (by unfold Wide5; omega)).mono ?_; rintro o w' ⟨rfl, rfl⟩) | (go_at_call 19; refine (flowOf_any d e i t p s q sp dp a n c _).mono ?_; rintro o w1 ⟨rfl, hb1⟩; have q9 : w1.cell? ⟨w.heap.size, 9, none⟩ = some (.slice a n c) := (hb1.cell (p := ⟨w.heap.size, 9, none⟩) (by simp)).trans (by simp [go_sem])) | (go_at_call 18; refine (flowOk_any _ _ _ _ _ _ ⟨by omega, by omega⟩ ⟨by omega, by omega⟩ ⟨by omega, by omega⟩ ⟨by omega, by omega⟩ ⟨by omega, by omega⟩).mono ?_; rintro o w2 ⟨rfl, hb2⟩; have q9' : w2.cell? ⟨w.heap.size, 9, none⟩ = some (.slice a n c) := (hb2.cell (p := ⟨w.heap.size, 9, none⟩) (by have := hb1.size; simp at this; show w.heap.size < _; omega)).trans q9))
        go_ret
        exact ⟨ret_bool (by simp <;> omega), by first | (go_grown; done) | (have k1 := (Below.refl w.heap.size w).alloc (Nat.le_refl _) (.cells #[.int .i64 d, .int .i64 e, .int .i64 i, .int .i64 t, .int .i64 p, .int .i64 s, .int .i64 q, .int .i64 sp, .int .i64 dp, .slice a n c] 26); exact (k1.trans (hb1.mono k1.size)).trans (hb2.mono (Nat.le_trans k1.size hb1.size)))⟩
      case true =>
        cases h4 : okB t 8
        case false =>
          go_enter Try.func7, Try.ntmps7
          go_wp2_with (first | (go_at_call 17; refine (hasBits_any _ _ _ (by omega) (by omega) (by unfold Wide5; omega)).mono ?_; rintro o w' ⟨rfl, rfl⟩) | (go_at_call 19; refine (flowOf_any d e i t p s q sp dp a n c _).mono ?_; rintro o w1 ⟨rfl, hb1⟩; have q9 : w1.cell? ⟨w.heap.size, 9, none⟩ = some (.slice a n c) := (hb1.cell (p := ⟨w.heap.size, 9, none⟩) (by simp)).trans (by simp [go_sem])) | (go_at_call 18; refine (flowOk_any _ _ _ _ _ _ ⟨by omega, by omega⟩ ⟨by omega, by omega⟩ ⟨by omega, by omega⟩ ⟨by omega, by omega⟩ ⟨by omega, by omega⟩).mono ?_; rintro o w2 ⟨rfl, hb2⟩; have q9' : w2.cell? ⟨w.heap.size, 9, none⟩ = some (.slice a n c) := (hb2.cell (p := ⟨w.heap.size, 9, none⟩) (by have := hb1.size; simp at this; show w.heap.size < _; omega)).trans q9))
          go_ret
          exact ⟨ret_bool (by simp <;> omega), by first | (go_grown; done) | (have k1 := (Below.refl w.heap.size w).alloc (Nat.le_refl _) (.cells #[.int .i64 d, .int .i64 e, .int .i64 i, .int .i64 t, .int .i64 p, .int .i64 s, .int .i64 q, .int .i64 sp, .int .i64 dp, .slice a n c] 26); exact (k1.trans (hb1.mono k1.size)).trans (hb2.mono (Nat.le_trans k1.size hb1.size)))⟩
        case true =>
          cases h5 : flB p s q sp dp
          case false =>
            go_enter Try.func7, Try.ntmps7
            go_wp2_with (first | (go_at_call 17; refine (hasBits_any _ _ _ (by omega) (by omega) (by unfold Wide5; omega)).mono ?_; rintro o w' ⟨rfl, rfl⟩) | (go_at_call 19; refine (flowOf_any d e i t p s q sp dp a n c _).mono ?_; rintro o w1 ⟨rfl, hb1⟩; have q9 : w1.cell? ⟨w.heap.size, 9, none⟩ = some (.slice a n c) := (hb1.cell (p := ⟨w.heap.size, 9, none⟩) (by simp)).trans (by simp [go_sem])) | (go_at_call 18; refine (flowOk_any _ _ _ _ _ _ ⟨by omega, by omega⟩ ⟨by omega, by omega⟩ ⟨by omega, by omega⟩ ⟨by omega, by omega⟩ ⟨by omega, by omega⟩).mono ?_; rintro o w2 ⟨rfl, hb2⟩; have q9' : w2.cell? ⟨w.heap.size, 9, none⟩ = some (.slice a n c) := (hb2.cell (p := ⟨w.heap.size, 9, none⟩) (by have := hb1.size; simp at this; show w.heap.size < _; omega)).trans q9))
            go_ret
            exact ⟨ret_bool (by simp <;> omega), by first | (go_grown; done) | (have k1 := (Below.refl w.heap.size w).alloc (Nat.le_refl _) (.cells #[.int .i64 d, .int .i64 e, .int .i64 i, .int .i64 t, .int .i64 p, .int .i64 s, .int .i64 q, .int .i64 sp, .int .i64 dp, .slice a n c] 26); exact (k1.trans (hb1.mono k1.size)).trans (hb2.mono (Nat.le_trans k1.size hb1.size)))⟩
          case true =>
            by_cases hL : (n : Int) ≤ 76
            · have hL' : decide ((n : Int) ≤ 76) = true := by simpa using hL
              go_enter Try.func7, Try.ntmps7
              go_wp2_with (first | (go_at_call 17; refine (hasBits_any _ _ _ (by omega) (by omega) (by unfold Wide5; omega)).mono ?_; rintro o w' ⟨rfl, rfl⟩) | (go_at_call 19; refine (flowOf_any d e i t p s q sp dp a n c _).mono ?_; rintro o w1 ⟨rfl, hb1⟩; have q9 : w1.cell? ⟨w.heap.size, 9, none⟩ = some (.slice a n c) := (hb1.cell (p := ⟨w.heap.size, 9, none⟩) (by simp)).trans (by simp [go_sem])) | (go_at_call 18; refine (flowOk_any _ _ _ _ _ _ ⟨by omega, by omega⟩ ⟨by omega, by omega⟩ ⟨by omega, by omega⟩ ⟨by omega, by omega⟩ ⟨by omega, by omega⟩).mono ?_; rintro o w2 ⟨rfl, hb2⟩; have q9' : w2.cell? ⟨w.heap.size, 9, none⟩ = some (.slice a n c) := (hb2.cell (p := ⟨w.heap.size, 9, none⟩) (by have := hb1.size; simp at this; show w.heap.size < _; omega)).trans q9))
              go_ret
              exact ⟨ret_bool (by simp <;> omega), by first | (go_grown; done) | (have k1 := (Below.refl w.heap.size w).alloc (Nat.le_refl _) (.cells #[.int .i64 d, .int .i64 e, .int .i64 i, .int .i64 t, .int .i64 p, .int .i64 s, .int .i64 q, .int .i64 sp, .int .i64 dp, .slice a n c] 26); exact (k1.trans (hb1.mono k1.size)).trans (hb2.mono (Nat.le_trans k1.size hb1.size)))⟩
            · have hL' : decide ((n : Int) ≤ 76) = false := by simpa using hL
              go_enter Try.func7, Try.ntmps7
              go_wp2_with (first | (go_at_call 17; refine (hasBits_any _ _ _ (by omega) (by omega) (by unfold Wide5; omega)).mono ?_; rintro o w' ⟨rfl, rfl⟩) | (go_at_call 19; refine (flowOf_any d e i t p s q sp dp a n c _).mono ?_; rintro o w1 ⟨rfl, hb1⟩; have q9 : w1.cell? ⟨w.heap.size, 9, none⟩ = some (.slice a n c) := (hb1.cell (p := ⟨w.heap.size, 9, none⟩) (by simp)).trans (by simp [go_sem])) | (go_at_call 18; refine (flowOk_any _ _ _ _ _ _ ⟨by omega, by omega⟩ ⟨by omega, by omega⟩ ⟨by omega, by omega⟩ ⟨by omega, by omega⟩ ⟨by omega, by omega⟩).mono ?_; rintro o w2 ⟨rfl, hb2⟩; have q9' : w2.cell? ⟨w.heap.size, 9, none⟩ = some (.slice a n c) := (hb2.cell (p := ⟨w.heap.size, 9, none⟩) (by have := hb1.size; simp at this; show w.heap.size < _; omega)).trans q9))
              go_ret
              exact ⟨ret_bool (by simp <;> omega), by first | (go_grown; done) | (have k1 := (Below.refl w.heap.size w).alloc (Nat.le_refl _) (.cells #[.int .i64 d, .int .i64 e, .int .i64 i, .int .i64 t, .int .i64 p, .int .i64 s, .int .i64 q, .int .i64 sp, .int .i64 dp, .slice a n c] 26); exact (k1.trans (hb1.mono k1.size)).trans (hb2.mono (Nat.le_trans k1.size hb1.size)))⟩

set_option maxHeartbeats 2000000 in
theorem sframeOk_any (r : Fr) (a : Option Addr) (n c : Nat) (w : World) (hr : r.In) (hn : (n : Int) ≤ 9223372036854775807) :
    Calls Try.prog 6 #[r.val a n c] w fun e w' => e = .returned (.bool (r.good n)) ∧ Below w.heap.size w w' := by
  obtain ⟨d, e, i, t, p, s, q, sp, dp⟩ := r
  obtain ⟨hd, he, hi, ht, hp, hs, hq, hsp, hdp⟩ := hr
  dsimp only at hd he hi ht hp hs hq hsp hdp
  simp only [Fr.val, Fr.good]
  cases h1 : okB d 6
  case false =>
    go_enter Try.func6, Try.ntmps6
    go_wp2_with (first | (go_at_call 16; refine (l2bits_any _ _ _ (by omega) (by omega) (by unfold Wide5; omega)).mono ?_; rintro o w' ⟨rfl, rfl⟩))
    go_ret
    exact ⟨ret_bool (by simp [flB, *]), by go_grown⟩
  case true =>
    cases h2 : okB e 2
    case false =>
      go_enter Try.func6, Try.ntmps6
      go_wp2_with (first | (go_at_call 16; refine (l2bits_any _ _ _ (by omega) (by omega) (by unfold Wide5; omega)).mono ?_; rintro o w' ⟨rfl, rfl⟩))
      go_ret
      exact ⟨ret_bool (by simp [flB, *]), by go_grown⟩
    case true =>
      cases h3 : okB i 16
      case false =>
        go_enter Try.func6, Try.ntmps6
        go_wp2_with (first | (go_at_call 16; refine (l2bits_any _ _ _ (by omega) (by omega) (by unfold Wide5; omega)).mono ?_; rintro o w' ⟨rfl, rfl⟩))
        go_ret
        exact ⟨ret_bool (by simp [flB, *]), by go_grown⟩
      case true =>
        cases h4 : okB t 8
        case false =>
          go_enter Try.func6, Try.ntmps6
          go_wp2_with (first | (go_at_call 16; refine (l2bits_any _ _ _ (by omega) (by omega) (by unfold Wide5; omega)).mono ?_; rintro o w' ⟨rfl, rfl⟩))
          go_ret
          exact ⟨ret_bool (by simp [flB, *]), by go_grown⟩
        case true =>
          cases h5 : okB p 8
          case false =>
            go_enter Try.func6, Try.ntmps6
            go_wp2_with (first | (go_at_call 16; refine (l2bits_any _ _ _ (by omega) (by omega) (by unfold Wide5; omega)).mono ?_; rintro o w' ⟨rfl, rfl⟩))
            go_ret
            exact ⟨ret_bool (by simp [flB, *]), by go_grown⟩
          case true =>
            cases h6 : okB s 32
            case false =>
              go_enter Try.func6, Try.ntmps6
              go_wp2_with (first | (go_at_call 16; refine (l2bits_any _ _ _ (by omega) (by omega) (by unfold Wide5; omega)).mono ?_; rintro o w' ⟨rfl, rfl⟩))
              go_ret
              exact ⟨ret_bool (by simp [flB, *]), by go_grown⟩
            case true =>
              cases h7 : okB q 32
              case false =>
                go_enter Try.func6, Try.ntmps6
                go_wp2_with (first | (go_at_call 16; refine (l2bits_any _ _ _ (by omega) (by omega) (by unfold Wide5; omega)).mono ?_; rintro o w' ⟨rfl, rfl⟩))
                go_ret
                exact ⟨ret_bool (by simp [flB, *]), by go_grown⟩
              case true =>
                cases h8 : okB sp 16
                case false =>
                  go_enter Try.func6, Try.ntmps6
                  go_wp2_with (first | (go_at_call 16; refine (l2bits_any _ _ _ (by omega) (by omega) (by unfold Wide5; omega)).mono ?_; rintro o w' ⟨rfl, rfl⟩))
                  go_ret
                  exact ⟨ret_bool (by simp [flB, *]), by go_grown⟩
                case true =>
                  cases h9 : okB dp 16
                  case false =>
                    go_enter Try.func6, Try.ntmps6
                    go_wp2_with (first | (go_at_call 16; refine (l2bits_any _ _ _ (by omega) (by omega) (by unfold Wide5; omega)).mono ?_; rintro o w' ⟨rfl, rfl⟩))
                    go_ret
                    exact ⟨ret_bool (by simp [flB, *]), by go_grown⟩
                  case true =>
                    by_cases hL : (n : Int) ≤ 76
                    · have hL' : decide ((n : Int) ≤ 76) = true := by simpa using hL
                      go_enter Try.func6, Try.ntmps6
                      go_wp2_with (first | (go_at_call 16; refine (l2bits_any _ _ _ (by omega) (by omega) (by unfold Wide5; omega)).mono ?_; rintro o w' ⟨rfl, rfl⟩))
                      go_ret
                      exact ⟨ret_bool (by simp [flB, *]), by go_grown⟩
                    · have hL' : decide ((n : Int) ≤ 76) = false := by simpa using hL
                      go_enter Try.func6, Try.ntmps6
                      go_wp2_with (first | (go_at_call 16; refine (l2bits_any _ _ _ (by omega) (by omega) (by unfold Wide5; omega)).mono ?_; rintro o w' ⟨rfl, rfl⟩))
                      go_ret
                      exact ⟨ret_bool (by simp [flB, *]), by go_grown⟩

end Go.Proofs.Ytkhfcemjmnjkdaa
