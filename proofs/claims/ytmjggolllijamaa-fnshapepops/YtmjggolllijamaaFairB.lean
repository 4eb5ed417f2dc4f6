/-
  WHICH FAIRS ARE WELL: the numbers alone; what both sides count and look up.
-/
import Derived.Test.YtmjggolllijamaaFair0
import Derived.Test.YtmjggolllijamaaAppIn
import Derived.Test.YtmjggolllijamaaQBytes
namespace Go.Proofs.Ytmjggolllijamaa
open Go.RowKit
set_option linter.unusedVariables false

/-- Both lists one behind the other. -/
def lst (nn : Nat) (nw : Nat → Int) (no : Nat) (od : Nat → Int) : List Int := (List.range nn).map nw ++ (List.range no).map od
/-- Numbers of lines, no two alike. -/
def okL (l : List Int) : Prop := (∀ x ∈ l, 0 ≤ x ∧ x ≤ 15) ∧ l.Nodup
instance (l : List Int) : Decidable (okL l) := by unfold okL; infer_instance
def lnP (i : Nat) (l : Ln) (ls : List Int) : Prop := l.cd.good = true ∧ (-2000 ≤ l.sh ∧ l.sh ≤ 12000) ∧ fifoB l.f l.n 40 = true ∧ (l.n = 0 ∨ (i : Int) ∈ ls) ∧ ∀ k, k < l.n → (l.f k).flow = i
instance (i : Nat) (l : Ln) (ls : List Int) : Decidable (lnP i l ls) := by unfold lnP; infer_instance
def fairP (q lim : Int) (N : Nat) (L : Nat → Ln) (ls : List Int) : Prop := (1 ≤ q ∧ q ≤ 10000) ∧ (1 ≤ lim ∧ lim ≤ 40) ∧ N = 16 ∧ okL ls ∧ (cntF L N : Int) ≤ lim ∧ ∀ i, i < 16 → lnP i (L i) ls
instance (q lim : Int) (N : Nat) (L : Nat → Ln) (ls : List Int) : Decidable (fairP q lim N L ls) := by unfold fairP; infer_instance
def fairB (q lim : Int) (N : Nat) (L : Nat → Ln) (ls : List Int) : Bool := decide (fairP q lim N L ls)
theorem fair_no {q lim : Int} {N : Nat} {L : Nat → Ln} {ls : List Int} (h : ¬ fairP q lim N L ls) : false = fairB q lim N L ls := by unfold fairB; simp [h]
theorem fair_yes {q lim : Int} {N : Nat} {L : Nat → Ln} {ls : List Int} (h : fairP q lim N L ls) : true = fairB q lim N L ls := by unfold fairB; simp [h]
/-- One more at the end of a list that is well. -/
theorem okL_snoc {l : List Int} {x : Int} (h : okL l) (h0 : 0 ≤ x) (h1 : x ≤ 15) (hx : x ∉ l) : okL (l ++ [x]) := by
  refine ⟨fun y hy => ?_, ?_⟩
  · rcases List.mem_append.1 hy with hy | hy
    · exact h.1 y hy
    · simp at hy; subst hy; exact ⟨h0, h1⟩
  · refine List.nodup_append.2 ⟨h.2, by simp, fun a ha b hb e => ?_⟩
    simp at hb
    subst hb
    subst e
    exact hx ha
theorem okL_not {l m : List Int} {x : Int} (h : ¬ (0 ≤ x ∧ x ≤ 15) ∨ x ∈ l) : ¬ okL (l ++ x :: m) := fun hk => by
  rcases h with h | h
  · exact h (hk.1 x (by simp))
  · have := (List.nodup_append.1 hk.2).2.2 x h x (by simp)
    exact this rfl

/-- Is v one of the first n? -/
def hasB (f : Nat → Int) (n : Nat) (v : Int) : Bool := decide (v ∈ (List.range n).map f)

theorem l7has_any (a : Option Addr) (n c : Nat) (f : Nat → Int) (v : Int) (w : World) (hn : n ≤ 1048576) (hr : Row .i64 w a n f) :
    Calls Try.prog 55 #[.slice a n c, .int .i64 v] w fun e w' => e = .returned (.bool (hasB f n v)) ∧ w' = w := by
  have HR : Hid (Row .i64 w a n f) := hr
  have hn' : (n : Int) ≤ 1048576 := by omega
  clear hr hn
  go_enter Try.func55, Try.ntmps55
  go_wp2
  go_loop [5] (fun i => ∃ k : Nat, k ≤ n ∧ i = .int .i64 k ∧ ∀ j, j < k → f j ≠ v) (fun i => n - (intOf i).toNat)
  case atStart => exact ⟨0, Nat.zero_le _, rfl, fun j hj => absurd hj (Nat.not_lt_zero _)⟩
  case round =>
    obtain ⟨k, hk, rfl, hno⟩ := hrel
    have HNO : Hid (∀ j, j < k → f j ≠ v) := hno
    clear hno
    by_cases hlt : k < n
    · obtain ⟨b, off, rfl, hbl, hc⟩ := Row.at HR.out hlt
      have c1 := hc k hlt
      clear hc
      by_cases hv : f k = v
      · have hv' : (f k == v) = true := by simpa using hv
        have HE : Hid (true = hasB f n v) := by show _ = _; symm; unfold hasB; rw [decide_eq_true_eq]; exact List.mem_map.2 ⟨k, by simpa using hlt, hv⟩
        go_wp2
        go_ret
        exact ⟨ret_bool HE.out, rfl⟩
      · have hv' : (f k == v) = false := by simpa using hv
        go_wp2
        go_round
        case rel => exact ⟨k + 1, by omega, by go_num, fun j hj => by by_cases e : j = k; · rw [e]; exact hv
                                                                      · exact HNO.out j (by omega)⟩
        case measure => simp [intOf]; omega
    · obtain rfl : k = n := by omega
      have HE : Hid (false = hasB f k v) := by
        show _ = _; symm; unfold hasB; rw [decide_eq_false_iff_not]
        intro h
        obtain ⟨j, hj, e⟩ := List.mem_map.1 h
        exact HNO.out j (by simpa using hj) e
      go_wp2
      go_ret
      exact ⟨ret_bool HE.out, rfl⟩

end Go.Proofs.Ytmjggolllijamaa
