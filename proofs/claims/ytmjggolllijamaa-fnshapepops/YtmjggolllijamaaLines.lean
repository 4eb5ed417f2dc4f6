/-
  LINES: a line's packets, its shortage and its Codel; lists of lines in memory; the laws' helpers over them: szLine, szLineS, szIntS.
-/
import Derived.Test.YtmjggolllijamaaPkS
import Derived.Test.YtmjggolllijamaaCodel
namespace Go.Proofs.Ytmjggolllijamaa
open Go.RowKit
set_option linter.unusedVariables false

/-- A line. -/
structure Ln where
  n : Nat
  f : Nat → Pk
  sh : Int
  cd : Cd
instance : Inhabited Ln := ⟨⟨0, fun _ => default, 0, Cd.zero⟩⟩
@[reducible] def lnCells (x : Option Addr) (c : Nat) (l : Ln) : Array Value := #[.slice x l.n c, .int .i64 l.sh, .int .i64 l.cd.tg, .int .i64 l.cd.iv, .int .i64 l.cd.fi, .int .i64 l.cd.nx, .int .i64 l.cd.ct, .int .i64 l.cd.la, .bool l.cd.dr]
@[reducible] def lnVal (x : Option Addr) (c : Nat) (l : Ln) : Value := .agg #[.slice x l.n c, .int .i64 l.sh, .int .i64 l.cd.tg, .int .i64 l.cd.iv, .int .i64 l.cd.fi, .int .i64 l.cd.nx, .int .i64 l.cd.ct, .int .i64 l.cd.la, .bool l.cd.dr]
/-- A line's nine cells from o on in block b. -/
def LAt (w : World) (b o : Nat) (x : Option Addr) (c : Nat) (l : Ln) : Prop :=
  w.cell? ⟨b, o, none⟩ = some (.slice x l.n c) ∧ w.cell? ⟨b, o + 1, none⟩ = some (.int .i64 l.sh) ∧ w.cell? ⟨b, o + 2, none⟩ = some (.int .i64 l.cd.tg) ∧ w.cell? ⟨b, o + 3, none⟩ = some (.int .i64 l.cd.iv) ∧ w.cell? ⟨b, o + 4, none⟩ = some (.int .i64 l.cd.fi) ∧ w.cell? ⟨b, o + 5, none⟩ = some (.int .i64 l.cd.nx) ∧ w.cell? ⟨b, o + 6, none⟩ = some (.int .i64 l.cd.ct) ∧ w.cell? ⟨b, o + 7, none⟩ = some (.int .i64 l.cd.la) ∧ w.cell? ⟨b, o + 8, none⟩ = some (.bool l.cd.dr)
theorem LAt.same {w w' : World} {b o : Nat} {x : Option Addr} {c : Nat} {l : Ln} (h : LAt w b o x c l) (hc : ∀ k, w'.cell? ⟨b, k, none⟩ = w.cell? ⟨b, k, none⟩) : LAt w' b o x c l := by
  obtain ⟨h0, h1, h2, h3, h4, h5, h6, h7, h8⟩ := h
  exact ⟨(hc _).trans h0, (hc _).trans h1, (hc _).trans h2, (hc _).trans h3, (hc _).trans h4, (hc _).trans h5, (hc _).trans h6, (hc _).trans h7, (hc _).trans h8⟩
theorem LAt.below {n₀ : Nat} {w w' : World} {b o : Nat} {x : Option Addr} {c : Nat} {l : Ln} (h : LAt w b o x c l) (hb : Below n₀ w w') (hlt : b < n₀) : LAt w' b o x c l := h.same fun k => hb.cell (p := ⟨b, k, none⟩) hlt
theorem Sits.ln {W : World} {B : Nat} {x : Option Addr} {c : Nat} {l : Ln} {t : TypeId} (h : Sits W B (lnCells x c l) t) : LAt W B 0 x c l :=
  ⟨h.cell 0, h.cell 1, h.cell 2, h.cell 3, h.cell 4, h.cell 5, h.cell 6, h.cell 7, h.cell 8⟩

/-- A list of N lines L 0, L 1 .. in a block below n₀, the packets of each, too. -/
def LR (n₀ : Nat) (w : World) (a : Option Addr) (N : Nat) (L : Nat → Ln) : Prop :=
  N = 0 ∨ ∃ b off : Nat, a = some ⟨b, off, none⟩ ∧ b < n₀ ∧ ∀ i, i < N → ∃ (x : Option Addr) (c : Nat), LAt w b (off + i * 9) x c (L i) ∧ (L i).n ≤ c ∧ PR n₀ w x (L i).n (L i).f
theorem LR.below {n₀ : Nat} {w w' : World} {a : Option Addr} {N : Nat} {L : Nat → Ln} (h : LR n₀ w a N L) (hb : Below n₀ w w') : LR n₀ w' a N L := by
  rcases h with h | ⟨b, off, ha, hlt, hc⟩
  · exact .inl h
  · refine .inr ⟨b, off, ha, hlt, fun i hi => ?_⟩
    obtain ⟨x, c, h1, h2, h3⟩ := hc i hi
    exact ⟨x, c, h1.below hb hlt, h2, h3.below hb⟩
theorem LR.mono {n₀ n₁ : Nat} {w : World} {a : Option Addr} {N : Nat} {L : Nat → Ln} (h : LR n₀ w a N L) (hm : n₀ ≤ n₁) : LR n₁ w a N L := by
  rcases h with h | ⟨b, off, ha, hlt, hc⟩
  · exact .inl h
  · refine .inr ⟨b, off, ha, by omega, fun i hi => ?_⟩
    obtain ⟨x, c, h1, h2, h3⟩ := hc i hi
    exact ⟨x, c, h1, h2, h3.mono hm⟩
theorem LR.go {n₀ : Nat} {w w' : World} {a : Option Addr} {N : Nat} {L : Nat → Ln} (h : LR n₀ w a N L) (hb : Below n₀ w w') (hs : n₀ ≤ w'.heap.size) : LR w'.heap.size w' a N L := (h.below hb).mono hs
theorem LR.at {n₀ : Nat} {w : World} {a : Option Addr} {N : Nat} {L : Nat → Ln} (h : LR n₀ w a N L) {j : Nat} (hj : j < N) : ∃ b off : Nat, a = some ⟨b, off, none⟩ ∧ b < n₀ ∧ ∀ i, i < N → ∃ (x : Option Addr) (c : Nat), LAt w b (off + i * 9) x c (L i) ∧ (L i).n ≤ c ∧ PR n₀ w x (L i).n (L i).f := by
  rcases h with h | h
  · omega
  · exact h

/-- How many packets the first N lines have. -/
def cntF (L : Nat → Ln) (N : Nat) : Nat := ((List.range N).map fun j => (L j).n).sum
theorem cntF_succ (L : Nat → Ln) (N : Nat) : cntF L (N + 1) = cntF L N + (L N).n := by
  unfold cntF; rw [List.range_succ, List.map_append, List.sum_append]; simp
theorem cntF_mono (L : Nat → Ln) : ∀ {m N : Nat}, m ≤ N → cntF L m ≤ cntF L N := by
  intro m N h
  induction N with
  | zero => obtain rfl : m = 0 := by omega
            exact Nat.le_refl _
  | succ N ih =>
    rw [cntF_succ]
    rcases (show m = N + 1 ∨ m ≤ N by omega) with rfl | h'
    · rw [cntF_succ]; exact Nat.le_refl _
    · have := ih h'; omega
theorem cntF_le (L : Nat → Ln) {i N : Nat} (h : i < N) : (L i).n ≤ cntF L N := by
  have := cntF_mono L (show i + 1 ≤ N from h)
  rw [cntF_succ] at this
  omega

theorem szLine_any (x : Option Addr) (c : Nat) (l : Ln) (left : Int) (w : World) (hn : (l.n : Int) ≤ 9223372036854775807) (h0 : 0 ≤ left) (h1 : left ≤ 1048576) :
    Calls Try.prog 60 #[lnVal x c l, .int .i64 left] w fun e w' => e = .returned (.int .i64 (if left < l.n then -1 else left - l.n)) ∧ Below w.heap.size w w' := by
  obtain ⟨n, f, sh, tg, iv, fi, nx, ct, la, dr⟩ := l
  simp only [lnVal]
  by_cases h : left < n
  · rw [if_pos h]
    go_enter Try.func60, Try.ntmps60
    go_wp2_with (go_at_call 79; refine (szPktS_any x n c left _ hn h0 h1).mono ?_; rintro o w1 ⟨rfl, rfl⟩; rw [if_pos h])
    go_ret
    exact ⟨rfl, by go_grown⟩
  · rw [if_neg h]
    go_enter Try.func60, Try.ntmps60
    go_wp2_with (go_at_call 79; refine (szPktS_any x n c left _ hn h0 h1).mono ?_; rintro o w1 ⟨rfl, rfl⟩; rw [if_neg h])
    go_ret
    exact ⟨rfl, by go_grown⟩

theorem szIntS_any (a : Option Addr) (n cap : Nat) (l : Int) (w : World) (hn : (n : Int) ≤ 9223372036854775807) (h0 : 0 ≤ l) (h1 : l ≤ 1048576) :
    Calls Try.prog 26 #[.slice a n cap, .int .i64 l] w fun e w' => e = .returned (.int .i64 (if l < n then -1 else l - n)) ∧ w' = w := by
  by_cases h : l < n
  · rw [if_pos h]
    go_enter Try.func26, Try.ntmps26
    go_wp2
    go_ret
    exact ⟨rfl, rfl⟩
  · rw [if_neg h]
    go_enter Try.func26, Try.ntmps26
    go_wp2
    go_ret
    exact ⟨rfl, rfl⟩

/-- What is left of left behind N lines, or -1. -/
def leftF (L : Nat → Ln) (N : Nat) (left : Int) : Int := if left < (N : Int) + (cntF L N : Int) then -1 else left - N - (cntF L N : Int)

set_option maxHeartbeats 1000000 in
theorem szLineS_any (a : Option Addr) (N cap : Nat) (L : Nat → Ln) (left : Int) (w : World) (hN : (N : Int) ≤ 9223372036854775807) (hn : ∀ i, i < N → ((L i).n : Int) ≤ 9223372036854775807) (hP : LR w.heap.size w a N L) (h0 : 0 ≤ left) (h1 : left ≤ 1048576) :
    Calls Try.prog 25 #[.slice a N cap, .int .i64 left] w fun e w' => e = .returned (.int .i64 (leftF L N left)) ∧ Below w.heap.size w w' := by
  have HP : Hid (LR w.heap.size w a N L) := hP
  have HN : Hid (∀ i, i < N → ((L i).n : Int) ≤ 9223372036854775807) := hn
  clear hP hn
  by_cases hb : left < (N : Int)
  · have HE : Hid (-1 = leftF L N left) := by show _ = _; unfold leftF; rw [if_pos (by omega)]
    go_enter Try.func25, Try.ntmps25
    go_wp2
    go_ret
    exact ⟨ret_int HE.out, Below.refl _ _⟩
  · go_enter Try.func25, Try.ntmps25
    go_wp2
    go_loopw [1, 5] (fun s i wr => ∃ k : Nat, k ≤ N ∧ i = .int .i64 k ∧ s = .int .i64 (left - N - (cntF L k : Int)) ∧ (cntF L k : Int) ≤ left - N ∧ Below w.heap.size w wr) (fun _ i _ => N - (intOf i).toNat)
    case atStart => exact ⟨0, Nat.zero_le _, rfl, by simp [cntF], by simp [cntF]; omega, Below.refl _ _⟩
    case round =>
      obtain ⟨k, hk, rfl, rfl, hle, hB⟩ := hrel
      by_cases hlt : k < N
      · obtain ⟨b, off, rfl, hbl, hcs⟩ := LR.at HP.out hlt
        obtain ⟨x, c, hat, hnc, hpr⟩ := hcs k hlt
        obtain ⟨c0, c1, c2, c3, c4, c5, c6, c7, c8⟩ := hat.below hB hbl
        have hnk := HN.out k hlt
        clear hcs hpr hat
        have hsc := cntF_succ L k
        have hm := cntF_mono L (show k + 1 ≤ N from hlt)
        by_cases hl : left - N - (cntF L k : Int) < (L k).n
        · have HE : Hid (-1 = leftF L N left) := by show _ = _; unfold leftF; rw [if_pos (by omega)]
          clear hsc hm
          go_wp2_with (go_at_call 60; refine (szLine_any x c (L k) _ _ hnk (by omega) (by omega)).mono ?_; rintro o w1 ⟨rfl, hb1⟩; rw [if_pos hl])
          go_ret
          exact ⟨ret_int HE.out, hB.trans (hb1.mono hB.size)⟩
        · have HS : Hid (cntF L (k + 1) = cntF L k + (L k).n) := hsc
          clear hsc hm
          go_wp2_with (go_at_call 60; refine (szLine_any x c (L k) _ _ hnk (by omega) (by omega)).mono ?_; rintro o w1 ⟨rfl, hb1⟩; rw [if_neg hl])
          go_roundw
          case rel => exact ⟨k + 1, by omega, by go_num, by rw [HS.out]; go_num, by rw [HS.out]; omega, hB.trans (hb1.mono hB.size)⟩
          case measure => simp [intOf]; omega
      · obtain rfl : k = N := by omega
        have HE : Hid (left - k - (cntF L k : Int) = leftF L k left) := by show _ = _; unfold leftF; rw [if_neg (by omega)]
        go_wp2
        go_ret
        exact ⟨ret_int HE.out, hB⟩

end Go.Proofs.Ytmjggolllijamaa
