/-
  WHICH FAIRS ARE WELL, AS THE PROGRAM SAYS: listedOnce, FairOk.
-/
import Derived.Test.YtdhdigjghchdjaaFairI
import Derived.Test.YtdhdigjghchdjaaFairS
namespace Go.Proofs.Ytdhdigjghchdjaa
open Go.RowKit
set_option linter.unusedVariables false

theorem setCell_same {w : World} {B k : Nat} {vs : Array Value} {t : TypeId} {v : Value} (h : Sits w B vs t) (hk : vs[k]? = some v) : w.setCell ⟨B, k, none⟩ v = w := by
  have h' : w.heap[B]? = some (.cells vs t) := h
  have hv : vs.setIfInBounds k v = vs := by
    apply Array.ext
    · simp
    · intro i h1 h2
      rw [Array.getElem_setIfInBounds]
      split
      · rename_i e
        subst e
        have := (Array.getElem?_eq_some_iff.1 hk).2
        exact this.symm
      · rfl
  have hm : (w.setCell ⟨B, k, none⟩ v).heap = w.heap := by
    apply Array.ext
    · simp [World.setCell]
    · intro i h1 h2
      have e1 : (w.setCell ⟨B, k, none⟩ v).heap[i]? = w.heap[i]? := by
        by_cases e : i = B
        · subst e
          have := Sits.set h k v
          rw [hv] at this
          exact (show _ = _ from this).trans h'.symm
        · exact Below.heap_setCell w ⟨B, k, none⟩ v i e
      rw [Array.getElem?_eq_getElem h1, Array.getElem?_eq_getElem h2] at e1
      exact Option.some.inj e1
  cases w
  simp only [World.setCell] at hm ⊢
  rw [hm]
theorem Tbl.same {w : World} {S : Nat} {t : TypeId} {l : List Int} (h : Tbl w S t l) (i : Nat) (hi : i < 16) : w.setCell ⟨S, i, none⟩ (.bool (decide ((i : Int) ∈ l))) = w := by
  obtain ⟨vs, h0, h1, h2⟩ := h
  exact setCell_same h0 (h2 i hi)

theorem two_at0 (a : Option Addr) (n c : Nat) (b : Option Addr) (m d : Nat) (w : World) : (Instr.index 86 (.agg #[.slice a n c, .slice b m d]) (.int .i64 0)).run Try.prog w = .ok (.slice a n c) w := by kernel_rfl
theorem two_at1 (a : Option Addr) (n c : Nat) (b : Option Addr) (m d : Nat) (w : World) : (Instr.index 86 (.agg #[.slice a n c, .slice b m d]) (.int .i64 1)).run Try.prog w = .ok (.slice b m d) w := by kernel_rfl

theorem ret_bo {fn : Func} {tmps : Array Value} {W : World} {i j B : Nat} {l : List Int} {b : Bool} {t : TypeId} (hr : fn.results = #[.cell i 64, .tmp j]) (hi : tmps[i]?.getD undef = .pointer (some ⟨B, 0, none⟩)) (hj : tmps[j]?.getD undef = .bool b) (hs : Tbl W B t l) : (results fn tmps).run Try.prog W = .ok (.tuple #[boVal l, .bool b]) W := by
  have c0 : W.cell? ⟨B, 0, none⟩ = some (.bool (decide ((0 : Int) ∈ l))) := hs.cell 0 (by omega)
  have c1 : W.cell? ⟨B, 1, none⟩ = some (.bool (decide ((1 : Int) ∈ l))) := hs.cell 1 (by omega)
  have c2 : W.cell? ⟨B, 2, none⟩ = some (.bool (decide ((2 : Int) ∈ l))) := hs.cell 2 (by omega)
  have c3 : W.cell? ⟨B, 3, none⟩ = some (.bool (decide ((3 : Int) ∈ l))) := hs.cell 3 (by omega)
  have c4 : W.cell? ⟨B, 4, none⟩ = some (.bool (decide ((4 : Int) ∈ l))) := hs.cell 4 (by omega)
  have c5 : W.cell? ⟨B, 5, none⟩ = some (.bool (decide ((5 : Int) ∈ l))) := hs.cell 5 (by omega)
  have c6 : W.cell? ⟨B, 6, none⟩ = some (.bool (decide ((6 : Int) ∈ l))) := hs.cell 6 (by omega)
  have c7 : W.cell? ⟨B, 7, none⟩ = some (.bool (decide ((7 : Int) ∈ l))) := hs.cell 7 (by omega)
  have c8 : W.cell? ⟨B, 8, none⟩ = some (.bool (decide ((8 : Int) ∈ l))) := hs.cell 8 (by omega)
  have c9 : W.cell? ⟨B, 9, none⟩ = some (.bool (decide ((9 : Int) ∈ l))) := hs.cell 9 (by omega)
  have c10 : W.cell? ⟨B, 10, none⟩ = some (.bool (decide ((10 : Int) ∈ l))) := hs.cell 10 (by omega)
  have c11 : W.cell? ⟨B, 11, none⟩ = some (.bool (decide ((11 : Int) ∈ l))) := hs.cell 11 (by omega)
  have c12 : W.cell? ⟨B, 12, none⟩ = some (.bool (decide ((12 : Int) ∈ l))) := hs.cell 12 (by omega)
  have c13 : W.cell? ⟨B, 13, none⟩ = some (.bool (decide ((13 : Int) ∈ l))) := hs.cell 13 (by omega)
  have c14 : W.cell? ⟨B, 14, none⟩ = some (.bool (decide ((14 : Int) ∈ l))) := hs.cell 14 (by omega)
  have c15 : W.cell? ⟨B, 15, none⟩ = some (.bool (decide ((15 : Int) ∈ l))) := hs.cell 15 (by omega)
  simp [results, hr, hi, hj, go_sem, c0, c1, c2, c3, c4, c5, c6, c7, c8, c9, c10, c11, c12, c13, c14, c15]

/-- What was looked through behind k lists. -/
def seenL (nn : Nat) (nw : Nat → Int) (no : Nat) (od : Nat → Int) (k : Nat) : List Int := if k = 0 then [] else if k = 1 then (List.range nn).map nw else lst nn nw no od

theorem split_app {xs : List Int} {j : Nat} {v : Int} (P ys : List Int) (h : xs[j]? = some v) : P ++ xs ++ ys = (P ++ xs.take j) ++ v :: (xs.drop (j + 1) ++ ys) := by
  have e := split_at h
  have e1 : P ++ xs ++ ys = P ++ (xs.take j ++ v :: xs.drop (j + 1)) ++ ys := by rw [← e]
  rw [e1]
  simp

theorem map_get (n : Nat) (f : Nat → Int) (k : Nat) (h : k < n) : ((List.range n).map f)[k]? = some (f k) := by simp [h]

set_option maxRecDepth 100000 in
set_option maxHeartbeats 8000000 in
theorem listedOnce_any (q lim : Int) (a : Option Addr) (N ca : Nat) (b : Option Addr) (nn cb : Nat) (c : Option Addr) (no cc : Nat) (nw od : Nat → Int) (w : World) (hnn : nn + no ≤ 1048576) (hb : Row .i64 w b nn nw) (hc : Row .i64 w c no od) :
    Calls Try.prog 29 #[faVal q lim a N ca b nn cb c no cc] w fun e w' => (∃ l, e = .returned (.tuple #[boVal l, .bool (okB (lst nn nw no od))]) ∧ (okB (lst nn nw no od) = true → l = lst nn nw no od)) ∧ Below w.heap.size w w' := by
  have HRB : Hid (Row .i64 w b nn nw) := hb
  have HRC : Hid (Row .i64 w c no od) := hc
  have hn1 : (nn : Int) ≤ 1048576 := by omega
  have hn2 : (no : Int) ≤ 1048576 := by omega
  clear hb hc hnn
  obtain ⟨W0, hW0⟩ : ∃ W, (w.alloc (.cells (faCells q lim a N ca b nn cb c no cc) 30)).alloc (.cells #[.bool false, .bool false, .bool false, .bool false, .bool false, .bool false, .bool false, .bool false, .bool false, .bool false, .bool false, .bool false, .bool false, .bool false, .bool false, .bool false] 64) = W := ⟨_, rfl⟩
  have s0 : Sits W0 w.heap.size (faCells q lim a N ca b nn cb c no cc) 30 := by rw [← hW0]; exact (Sits.new _ _ _).alloc _
  have t0 : Tbl W0 (w.heap.size + 1) 64 [] := by
    rw [← hW0]
    refine ⟨_, Sits.new' (by simp), rfl, fun i hi => ?_⟩
    have hi' : i = 0 ∨ i = 1 ∨ i = 2 ∨ i = 3 ∨ i = 4 ∨ i = 5 ∨ i = 6 ∨ i = 7 ∨ i = 8 ∨ i = 9 ∨ i = 10 ∨ i = 11 ∨ i = 12 ∨ i = 13 ∨ i = 14 ∨ i = 15 := by omega
    rcases hi' with rfl | rfl | rfl | rfl | rfl | rfl | rfl | rfl | rfl | rfl | rfl | rfl | rfl | rfl | rfl | rfl <;> rfl
  have b0 : Below w.heap.size w W0 := by rw [← hW0]; exact ((Below.refl _ w).alloc (Nat.le_refl _) _).alloc (by simp) _
  have HW0 : Hid ((w.alloc (.cells (faCells q lim a N ca b nn cb c no cc) 30)).alloc (.cells #[.bool false, .bool false, .bool false, .bool false, .bool false, .bool false, .bool false, .bool false, .bool false, .bool false, .bool false, .bool false, .bool false, .bool false, .bool false, .bool false] 64) = W0) := hW0
  have HB0 : Hid (Below w.heap.size w W0) := b0
  have HT0 : Hid (Tbl W0 (w.heap.size + 1) 64 []) := t0
  have x3 := s0.cell 3
  have x4 := s0.cell 4
  clear s0 t0 b0 hW0
  have HL0 : Hid (seenL nn nw no od 0 = []) := rfl
  have HL1 : Hid (seenL nn nw no od 1 = (List.range nn).map nw) := rfl
  have HL2 : Hid (lst nn nw no od = (List.range nn).map nw ++ (List.range no).map od) := rfl
  go_enter Try.func29, Try.ntmps29
  go_upto_region 1 with fail
  rw [HW0.out]
  clear HW0
  go_wp2
  go_loopw [5, 7, 13] (fun _ _ i wr => ∃ k : Nat, ((k = 0 ∧ i = .int .i64 0) ∨ (k = 1 ∧ i = .int .i64 1) ∨ (k = 2 ∧ i = .int .i64 2)) ∧ Tbl wr (w.heap.size + 1) 64 (seenL nn nw no od k) ∧ okL (seenL nn nw no od k) ∧ Below w.heap.size w wr) (fun _ _ i _ => 2 - (intOf i).toNat)
  case atStart => exact ⟨0, .inl ⟨rfl, rfl⟩, HT0.out, ⟨fun x hx => absurd hx (by simp [seenL]), by simp [seenL]⟩, HB0.out⟩
  case round =>
    obtain ⟨k, hk, htb, hok, hB⟩ := hrel
    rcases hk with ⟨rfl, rfl⟩ | ⟨rfl, rfl⟩ | ⟨rfl, rfl⟩
    · as_aux_lemma =>
      have st := two_at0
      have HTB : Hid (Tbl wr (w.heap.size + 1) 64 []) := htb
      have HOK : Hid (okL []) := hok
      have HBW : Hid (Below w.heap.size w wr) := hB
      clear htb hok hB
      have HR : Hid (Row .i64 wr b nn nw) := Row.below HRB.out HBW.out
      obtain ⟨P, hP⟩ : ∃ P, P = [] := ⟨_, rfl⟩
      rw [← hP] at HTB HOK
      have HPP : Hid (P = []) := hP
      clear hP
      go_wp2
      go_loopw [7, 18] (fun _ i wr => ∃ j : Nat, j ≤ nn ∧ i = .int .i64 j ∧ Tbl wr (w.heap.size + 1) 64 (P ++ ((List.range nn).map nw).take j) ∧ okL (P ++ ((List.range nn).map nw).take j) ∧ Row .i64 wr b nn nw ∧ Below w.heap.size w wr) (fun _ i _ => nn - (intOf i).toNat)
      case atStart => exact ⟨0, Nat.zero_le _, rfl, by simpa using HTB.out, by simpa using HOK.out, HR.out, HBW.out⟩
      case round =>
        clear HTB HOK HR HBW
        obtain ⟨j, hj, rfl, htb, hok, hr, hB⟩ := hrel
        obtain ⟨l, hl⟩ : ∃ l, l = P ++ ((List.range nn).map nw).take j := ⟨_, rfl⟩
        rw [← hl] at htb hok
        have HTB : Hid (Tbl wr (w.heap.size + 1) 64 l) := htb
        have HOK : Hid (okL l) := hok
        have HR : Hid (Row .i64 wr b nn nw) := hr
        have HB : Hid (Below w.heap.size w wr) := hB
        have HLL : Hid (l = P ++ ((List.range nn).map nw).take j) := hl
        have tf := htb.frozen
        have lt1 : w.heap.size + 1 < wr.heap.size := htb.lt
        clear htb hok hr hB hl
        by_cases hlt : j < nn
        · obtain ⟨b1, off, rfl, hbl, hcs⟩ := Row.at HR.out hlt
          have c1 := hcs j hlt
          clear hcs
          obtain ⟨v, hv⟩ : ∃ v, nw j = v := ⟨_, rfl⟩
          rw [hv] at c1
          have HG : Hid (((List.range nn).map nw)[j]? = some v) := (map_get nn nw j hlt).trans (by rw [hv])
          clear hv
          have hbad : ¬ (0 ≤ v ∧ v ≤ 15) ∨ v ∈ l → okB (lst nn nw no od) = false := fun hbad => by
            unfold okB
            rw [decide_eq_false_iff_not]
            intro hk
            have e2 : lst nn nw no od = l ++ v :: ((((List.range nn).map nw).drop (j + 1)) ++ (List.range no).map od) := by rw [HL2.out, HLL.out, HPP.out]; exact split_app [] _ HG.out
            rw [e2] at hk
            exact okL_not hbad hk
          have HBAD : Hid (¬ (0 ≤ v ∧ v ≤ 15) ∨ v ∈ l → okB (lst nn nw no od) = false) := hbad
          clear hbad
          cases hi : inB v 0 15
          case false => as_aux_lemma =>
            have HE : Hid (okB (lst nn nw no od) = false) := HBAD.out (.inl (by unfold inB at hi; simpa using hi))
            have c0 : wr.cell? ⟨w.heap.size + 1, 0, none⟩ = some (.bool (decide ((0 : Int) ∈ l))) := Tbl.cell HTB.out 0 (by omega)
            have sc0 : wr.setCell ⟨w.heap.size + 1, 0, none⟩ (.bool (decide ((0 : Int) ∈ l))) = wr := Tbl.same HTB.out 0 (by omega)
            have c1 : wr.cell? ⟨w.heap.size + 1, 1, none⟩ = some (.bool (decide ((1 : Int) ∈ l))) := Tbl.cell HTB.out 1 (by omega)
            have sc1 : wr.setCell ⟨w.heap.size + 1, 1, none⟩ (.bool (decide ((1 : Int) ∈ l))) = wr := Tbl.same HTB.out 1 (by omega)
            have c2 : wr.cell? ⟨w.heap.size + 1, 2, none⟩ = some (.bool (decide ((2 : Int) ∈ l))) := Tbl.cell HTB.out 2 (by omega)
            have sc2 : wr.setCell ⟨w.heap.size + 1, 2, none⟩ (.bool (decide ((2 : Int) ∈ l))) = wr := Tbl.same HTB.out 2 (by omega)
            have c3 : wr.cell? ⟨w.heap.size + 1, 3, none⟩ = some (.bool (decide ((3 : Int) ∈ l))) := Tbl.cell HTB.out 3 (by omega)
            have sc3 : wr.setCell ⟨w.heap.size + 1, 3, none⟩ (.bool (decide ((3 : Int) ∈ l))) = wr := Tbl.same HTB.out 3 (by omega)
            have c4 : wr.cell? ⟨w.heap.size + 1, 4, none⟩ = some (.bool (decide ((4 : Int) ∈ l))) := Tbl.cell HTB.out 4 (by omega)
            have sc4 : wr.setCell ⟨w.heap.size + 1, 4, none⟩ (.bool (decide ((4 : Int) ∈ l))) = wr := Tbl.same HTB.out 4 (by omega)
            have c5 : wr.cell? ⟨w.heap.size + 1, 5, none⟩ = some (.bool (decide ((5 : Int) ∈ l))) := Tbl.cell HTB.out 5 (by omega)
            have sc5 : wr.setCell ⟨w.heap.size + 1, 5, none⟩ (.bool (decide ((5 : Int) ∈ l))) = wr := Tbl.same HTB.out 5 (by omega)
            have c6 : wr.cell? ⟨w.heap.size + 1, 6, none⟩ = some (.bool (decide ((6 : Int) ∈ l))) := Tbl.cell HTB.out 6 (by omega)
            have sc6 : wr.setCell ⟨w.heap.size + 1, 6, none⟩ (.bool (decide ((6 : Int) ∈ l))) = wr := Tbl.same HTB.out 6 (by omega)
            have c7 : wr.cell? ⟨w.heap.size + 1, 7, none⟩ = some (.bool (decide ((7 : Int) ∈ l))) := Tbl.cell HTB.out 7 (by omega)
            have sc7 : wr.setCell ⟨w.heap.size + 1, 7, none⟩ (.bool (decide ((7 : Int) ∈ l))) = wr := Tbl.same HTB.out 7 (by omega)
            have c8 : wr.cell? ⟨w.heap.size + 1, 8, none⟩ = some (.bool (decide ((8 : Int) ∈ l))) := Tbl.cell HTB.out 8 (by omega)
            have sc8 : wr.setCell ⟨w.heap.size + 1, 8, none⟩ (.bool (decide ((8 : Int) ∈ l))) = wr := Tbl.same HTB.out 8 (by omega)
            have c9 : wr.cell? ⟨w.heap.size + 1, 9, none⟩ = some (.bool (decide ((9 : Int) ∈ l))) := Tbl.cell HTB.out 9 (by omega)
            have sc9 : wr.setCell ⟨w.heap.size + 1, 9, none⟩ (.bool (decide ((9 : Int) ∈ l))) = wr := Tbl.same HTB.out 9 (by omega)
            have c10 : wr.cell? ⟨w.heap.size + 1, 10, none⟩ = some (.bool (decide ((10 : Int) ∈ l))) := Tbl.cell HTB.out 10 (by omega)
            have sc10 : wr.setCell ⟨w.heap.size + 1, 10, none⟩ (.bool (decide ((10 : Int) ∈ l))) = wr := Tbl.same HTB.out 10 (by omega)
            have c11 : wr.cell? ⟨w.heap.size + 1, 11, none⟩ = some (.bool (decide ((11 : Int) ∈ l))) := Tbl.cell HTB.out 11 (by omega)
            have sc11 : wr.setCell ⟨w.heap.size + 1, 11, none⟩ (.bool (decide ((11 : Int) ∈ l))) = wr := Tbl.same HTB.out 11 (by omega)
            have c12 : wr.cell? ⟨w.heap.size + 1, 12, none⟩ = some (.bool (decide ((12 : Int) ∈ l))) := Tbl.cell HTB.out 12 (by omega)
            have sc12 : wr.setCell ⟨w.heap.size + 1, 12, none⟩ (.bool (decide ((12 : Int) ∈ l))) = wr := Tbl.same HTB.out 12 (by omega)
            have c13 : wr.cell? ⟨w.heap.size + 1, 13, none⟩ = some (.bool (decide ((13 : Int) ∈ l))) := Tbl.cell HTB.out 13 (by omega)
            have sc13 : wr.setCell ⟨w.heap.size + 1, 13, none⟩ (.bool (decide ((13 : Int) ∈ l))) = wr := Tbl.same HTB.out 13 (by omega)
            have c14 : wr.cell? ⟨w.heap.size + 1, 14, none⟩ = some (.bool (decide ((14 : Int) ∈ l))) := Tbl.cell HTB.out 14 (by omega)
            have sc14 : wr.setCell ⟨w.heap.size + 1, 14, none⟩ (.bool (decide ((14 : Int) ∈ l))) = wr := Tbl.same HTB.out 14 (by omega)
            have c15 : wr.cell? ⟨w.heap.size + 1, 15, none⟩ = some (.bool (decide ((15 : Int) ∈ l))) := Tbl.cell HTB.out 15 (by omega)
            have sc15 : wr.setCell ⟨w.heap.size + 1, 15, none⟩ (.bool (decide ((15 : Int) ∈ l))) = wr := Tbl.same HTB.out 15 (by omega)
            go_wp2_with (go_at_call 28; refine (within_any _ _ _ _).mono ?_; rintro e w9 ⟨rfl, hw9⟩; replace hw9 := hw9.symm; subst hw9; rw [hi])
            refine bodyPost_ret (ret_bo Try.results29 rfl rfl HTB.out) rfl ?_
            exact ⟨⟨l, by rw [HE.out], fun h => by rw [HE.out] at h; cases h⟩, HB.out⟩
          case true =>
          obtain ⟨m, rfl⟩ : ∃ m : Nat, v = (m : Int) := ⟨v.toNat, by unfold inB at hi; simp at hi; omega⟩
          have hm : m < 16 := by unfold inB at hi; simp at hi; omega
          have hmi : (m : Int) < 16 := by omega
          have HM : Hid (m < 16) := hm
          have t1 := Tbl.cell HTB.out m hm
          by_cases hin : (m : Int) ∈ l
          · as_aux_lemma =>
            have HE : Hid (okB (lst nn nw no od) = false) := HBAD.out (.inr hin)
            have hd : decide ((m : Int) ∈ l) = true := by simpa using hin
            rw [hd] at t1
            clear hin hd
            have c0 : wr.cell? ⟨w.heap.size + 1, 0, none⟩ = some (.bool (decide ((0 : Int) ∈ l))) := Tbl.cell HTB.out 0 (by omega)
            have sc0 : wr.setCell ⟨w.heap.size + 1, 0, none⟩ (.bool (decide ((0 : Int) ∈ l))) = wr := Tbl.same HTB.out 0 (by omega)
            have c1 : wr.cell? ⟨w.heap.size + 1, 1, none⟩ = some (.bool (decide ((1 : Int) ∈ l))) := Tbl.cell HTB.out 1 (by omega)
            have sc1 : wr.setCell ⟨w.heap.size + 1, 1, none⟩ (.bool (decide ((1 : Int) ∈ l))) = wr := Tbl.same HTB.out 1 (by omega)
            have c2 : wr.cell? ⟨w.heap.size + 1, 2, none⟩ = some (.bool (decide ((2 : Int) ∈ l))) := Tbl.cell HTB.out 2 (by omega)
            have sc2 : wr.setCell ⟨w.heap.size + 1, 2, none⟩ (.bool (decide ((2 : Int) ∈ l))) = wr := Tbl.same HTB.out 2 (by omega)
            have c3 : wr.cell? ⟨w.heap.size + 1, 3, none⟩ = some (.bool (decide ((3 : Int) ∈ l))) := Tbl.cell HTB.out 3 (by omega)
            have sc3 : wr.setCell ⟨w.heap.size + 1, 3, none⟩ (.bool (decide ((3 : Int) ∈ l))) = wr := Tbl.same HTB.out 3 (by omega)
            have c4 : wr.cell? ⟨w.heap.size + 1, 4, none⟩ = some (.bool (decide ((4 : Int) ∈ l))) := Tbl.cell HTB.out 4 (by omega)
            have sc4 : wr.setCell ⟨w.heap.size + 1, 4, none⟩ (.bool (decide ((4 : Int) ∈ l))) = wr := Tbl.same HTB.out 4 (by omega)
            have c5 : wr.cell? ⟨w.heap.size + 1, 5, none⟩ = some (.bool (decide ((5 : Int) ∈ l))) := Tbl.cell HTB.out 5 (by omega)
            have sc5 : wr.setCell ⟨w.heap.size + 1, 5, none⟩ (.bool (decide ((5 : Int) ∈ l))) = wr := Tbl.same HTB.out 5 (by omega)
            have c6 : wr.cell? ⟨w.heap.size + 1, 6, none⟩ = some (.bool (decide ((6 : Int) ∈ l))) := Tbl.cell HTB.out 6 (by omega)
            have sc6 : wr.setCell ⟨w.heap.size + 1, 6, none⟩ (.bool (decide ((6 : Int) ∈ l))) = wr := Tbl.same HTB.out 6 (by omega)
            have c7 : wr.cell? ⟨w.heap.size + 1, 7, none⟩ = some (.bool (decide ((7 : Int) ∈ l))) := Tbl.cell HTB.out 7 (by omega)
            have sc7 : wr.setCell ⟨w.heap.size + 1, 7, none⟩ (.bool (decide ((7 : Int) ∈ l))) = wr := Tbl.same HTB.out 7 (by omega)
            have c8 : wr.cell? ⟨w.heap.size + 1, 8, none⟩ = some (.bool (decide ((8 : Int) ∈ l))) := Tbl.cell HTB.out 8 (by omega)
            have sc8 : wr.setCell ⟨w.heap.size + 1, 8, none⟩ (.bool (decide ((8 : Int) ∈ l))) = wr := Tbl.same HTB.out 8 (by omega)
            have c9 : wr.cell? ⟨w.heap.size + 1, 9, none⟩ = some (.bool (decide ((9 : Int) ∈ l))) := Tbl.cell HTB.out 9 (by omega)
            have sc9 : wr.setCell ⟨w.heap.size + 1, 9, none⟩ (.bool (decide ((9 : Int) ∈ l))) = wr := Tbl.same HTB.out 9 (by omega)
            have c10 : wr.cell? ⟨w.heap.size + 1, 10, none⟩ = some (.bool (decide ((10 : Int) ∈ l))) := Tbl.cell HTB.out 10 (by omega)
            have sc10 : wr.setCell ⟨w.heap.size + 1, 10, none⟩ (.bool (decide ((10 : Int) ∈ l))) = wr := Tbl.same HTB.out 10 (by omega)
            have c11 : wr.cell? ⟨w.heap.size + 1, 11, none⟩ = some (.bool (decide ((11 : Int) ∈ l))) := Tbl.cell HTB.out 11 (by omega)
            have sc11 : wr.setCell ⟨w.heap.size + 1, 11, none⟩ (.bool (decide ((11 : Int) ∈ l))) = wr := Tbl.same HTB.out 11 (by omega)
            have c12 : wr.cell? ⟨w.heap.size + 1, 12, none⟩ = some (.bool (decide ((12 : Int) ∈ l))) := Tbl.cell HTB.out 12 (by omega)
            have sc12 : wr.setCell ⟨w.heap.size + 1, 12, none⟩ (.bool (decide ((12 : Int) ∈ l))) = wr := Tbl.same HTB.out 12 (by omega)
            have c13 : wr.cell? ⟨w.heap.size + 1, 13, none⟩ = some (.bool (decide ((13 : Int) ∈ l))) := Tbl.cell HTB.out 13 (by omega)
            have sc13 : wr.setCell ⟨w.heap.size + 1, 13, none⟩ (.bool (decide ((13 : Int) ∈ l))) = wr := Tbl.same HTB.out 13 (by omega)
            have c14 : wr.cell? ⟨w.heap.size + 1, 14, none⟩ = some (.bool (decide ((14 : Int) ∈ l))) := Tbl.cell HTB.out 14 (by omega)
            have sc14 : wr.setCell ⟨w.heap.size + 1, 14, none⟩ (.bool (decide ((14 : Int) ∈ l))) = wr := Tbl.same HTB.out 14 (by omega)
            have c15 : wr.cell? ⟨w.heap.size + 1, 15, none⟩ = some (.bool (decide ((15 : Int) ∈ l))) := Tbl.cell HTB.out 15 (by omega)
            have sc15 : wr.setCell ⟨w.heap.size + 1, 15, none⟩ (.bool (decide ((15 : Int) ∈ l))) = wr := Tbl.same HTB.out 15 (by omega)
            go_wp2_with (go_at_call 28; refine (within_any _ _ _ _).mono ?_; rintro e w9 ⟨rfl, hw9⟩; replace hw9 := hw9.symm; subst hw9; rw [hi])
            refine bodyPost_ret (ret_bo Try.results29 rfl rfl HTB.out) rfl ?_
            exact ⟨⟨l, by rw [HE.out], fun h => by rw [HE.out] at h; cases h⟩, HB.out⟩
          · as_aux_lemma =>
            have hd : decide ((m : Int) ∈ l) = false := by simpa using hin
            rw [hd] at t1
            have HIN : Hid ((m : Int) ∉ l) := hin
            clear hin hd hm
            go_wp2_with (go_at_call 28; refine (within_any _ _ _ _).mono ?_; rintro e w9 ⟨rfl, hw9⟩; replace hw9 := hw9.symm; subst hw9; rw [hi])
            go_roundw
            case rel =>
              have e : P ++ ((List.range nn).map nw).take (j + 1) = l ++ [(m : Int)] := by rw [take_snoc HG.out, HLL.out, List.append_assoc]
              have cw : Chg (w.heap.size + 1) (w.heap.size + 1 + 1) wr (wr.setCell ⟨w.heap.size + 1, m, none⟩ (.bool true)) := chg_set (Chg.refl _ _ _) (Nat.le_refl _) (Nat.lt_succ_self _) _ _
              refine ⟨j + 1, by omega, by go_num, by rw [e]; exact Tbl.set HTB.out m HM.out, by rw [e]; exact okL_snoc HOK.out (by omega) (by omega) HIN.out, ?_, (HB.out).setCell (show w.heap.size ≤ w.heap.size + 1 by omega) _⟩
              exact Row.below HRB.out ((HB.out).setCell (show w.heap.size ≤ w.heap.size + 1 by omega) _)
            case measure => simp [intOf]; omega
        · obtain rfl : nn = j := by omega
          go_wp2
          go_roundw
          case rel =>
            have e : l = seenL nn nw no od 1 := by rw [HLL.out, List.take_of_length_le (by simp), HPP.out]; rfl
            exact ⟨1, .inr (.inl ⟨rfl, rfl⟩), by rw [← e]; exact HTB.out, by rw [← e]; exact HOK.out, HB.out⟩
          case measure => simp [intOf]
    · as_aux_lemma =>
      have st := two_at1
      have HTB : Hid (Tbl wr (w.heap.size + 1) 64 ((List.range nn).map nw)) := htb
      have HOK : Hid (okL ((List.range nn).map nw)) := hok
      have HBW : Hid (Below w.heap.size w wr) := hB
      clear htb hok hB
      have HR : Hid (Row .i64 wr c no od) := Row.below HRC.out HBW.out
      obtain ⟨P, hP⟩ : ∃ P, P = ((List.range nn).map nw) := ⟨_, rfl⟩
      rw [← hP] at HTB HOK
      have HPP : Hid (P = ((List.range nn).map nw)) := hP
      clear hP
      go_wp2
      go_loopw [7, 18] (fun _ i wr => ∃ j : Nat, j ≤ no ∧ i = .int .i64 j ∧ Tbl wr (w.heap.size + 1) 64 (P ++ ((List.range no).map od).take j) ∧ okL (P ++ ((List.range no).map od).take j) ∧ Row .i64 wr c no od ∧ Below w.heap.size w wr) (fun _ i _ => no - (intOf i).toNat)
      case atStart => exact ⟨0, Nat.zero_le _, rfl, by simpa using HTB.out, by simpa using HOK.out, HR.out, HBW.out⟩
      case round =>
        clear HTB HOK HR HBW
        obtain ⟨j, hj, rfl, htb, hok, hr, hB⟩ := hrel
        obtain ⟨l, hl⟩ : ∃ l, l = P ++ ((List.range no).map od).take j := ⟨_, rfl⟩
        rw [← hl] at htb hok
        have HTB : Hid (Tbl wr (w.heap.size + 1) 64 l) := htb
        have HOK : Hid (okL l) := hok
        have HR : Hid (Row .i64 wr c no od) := hr
        have HB : Hid (Below w.heap.size w wr) := hB
        have HLL : Hid (l = P ++ ((List.range no).map od).take j) := hl
        have tf := htb.frozen
        have lt1 : w.heap.size + 1 < wr.heap.size := htb.lt
        clear htb hok hr hB hl
        by_cases hlt : j < no
        · obtain ⟨b1, off, rfl, hbl, hcs⟩ := Row.at HR.out hlt
          have c1 := hcs j hlt
          clear hcs
          obtain ⟨v, hv⟩ : ∃ v, od j = v := ⟨_, rfl⟩
          rw [hv] at c1
          have HG : Hid (((List.range no).map od)[j]? = some v) := (map_get no od j hlt).trans (by rw [hv])
          clear hv
          have hbad : ¬ (0 ≤ v ∧ v ≤ 15) ∨ v ∈ l → okB (lst nn nw no od) = false := fun hbad => by
            unfold okB
            rw [decide_eq_false_iff_not]
            intro hk
            have e2 : lst nn nw no od = l ++ v :: (((List.range no).map od).drop (j + 1) ++ []) := by rw [HL2.out, HLL.out, HPP.out]; have := split_app ((List.range nn).map nw) [] HG.out; rw [List.append_nil] at this; exact this
            rw [e2] at hk
            exact okL_not hbad hk
          have HBAD : Hid (¬ (0 ≤ v ∧ v ≤ 15) ∨ v ∈ l → okB (lst nn nw no od) = false) := hbad
          clear hbad
          cases hi : inB v 0 15
          case false => as_aux_lemma =>
            have HE : Hid (okB (lst nn nw no od) = false) := HBAD.out (.inl (by unfold inB at hi; simpa using hi))
            have c0 : wr.cell? ⟨w.heap.size + 1, 0, none⟩ = some (.bool (decide ((0 : Int) ∈ l))) := Tbl.cell HTB.out 0 (by omega)
            have sc0 : wr.setCell ⟨w.heap.size + 1, 0, none⟩ (.bool (decide ((0 : Int) ∈ l))) = wr := Tbl.same HTB.out 0 (by omega)
            have c1 : wr.cell? ⟨w.heap.size + 1, 1, none⟩ = some (.bool (decide ((1 : Int) ∈ l))) := Tbl.cell HTB.out 1 (by omega)
            have sc1 : wr.setCell ⟨w.heap.size + 1, 1, none⟩ (.bool (decide ((1 : Int) ∈ l))) = wr := Tbl.same HTB.out 1 (by omega)
            have c2 : wr.cell? ⟨w.heap.size + 1, 2, none⟩ = some (.bool (decide ((2 : Int) ∈ l))) := Tbl.cell HTB.out 2 (by omega)
            have sc2 : wr.setCell ⟨w.heap.size + 1, 2, none⟩ (.bool (decide ((2 : Int) ∈ l))) = wr := Tbl.same HTB.out 2 (by omega)
            have c3 : wr.cell? ⟨w.heap.size + 1, 3, none⟩ = some (.bool (decide ((3 : Int) ∈ l))) := Tbl.cell HTB.out 3 (by omega)
            have sc3 : wr.setCell ⟨w.heap.size + 1, 3, none⟩ (.bool (decide ((3 : Int) ∈ l))) = wr := Tbl.same HTB.out 3 (by omega)
            have c4 : wr.cell? ⟨w.heap.size + 1, 4, none⟩ = some (.bool (decide ((4 : Int) ∈ l))) := Tbl.cell HTB.out 4 (by omega)
            have sc4 : wr.setCell ⟨w.heap.size + 1, 4, none⟩ (.bool (decide ((4 : Int) ∈ l))) = wr := Tbl.same HTB.out 4 (by omega)
            have c5 : wr.cell? ⟨w.heap.size + 1, 5, none⟩ = some (.bool (decide ((5 : Int) ∈ l))) := Tbl.cell HTB.out 5 (by omega)
            have sc5 : wr.setCell ⟨w.heap.size + 1, 5, none⟩ (.bool (decide ((5 : Int) ∈ l))) = wr := Tbl.same HTB.out 5 (by omega)
            have c6 : wr.cell? ⟨w.heap.size + 1, 6, none⟩ = some (.bool (decide ((6 : Int) ∈ l))) := Tbl.cell HTB.out 6 (by omega)
            have sc6 : wr.setCell ⟨w.heap.size + 1, 6, none⟩ (.bool (decide ((6 : Int) ∈ l))) = wr := Tbl.same HTB.out 6 (by omega)
            have c7 : wr.cell? ⟨w.heap.size + 1, 7, none⟩ = some (.bool (decide ((7 : Int) ∈ l))) := Tbl.cell HTB.out 7 (by omega)
            have sc7 : wr.setCell ⟨w.heap.size + 1, 7, none⟩ (.bool (decide ((7 : Int) ∈ l))) = wr := Tbl.same HTB.out 7 (by omega)
            have c8 : wr.cell? ⟨w.heap.size + 1, 8, none⟩ = some (.bool (decide ((8 : Int) ∈ l))) := Tbl.cell HTB.out 8 (by omega)
            have sc8 : wr.setCell ⟨w.heap.size + 1, 8, none⟩ (.bool (decide ((8 : Int) ∈ l))) = wr := Tbl.same HTB.out 8 (by omega)
            have c9 : wr.cell? ⟨w.heap.size + 1, 9, none⟩ = some (.bool (decide ((9 : Int) ∈ l))) := Tbl.cell HTB.out 9 (by omega)
            have sc9 : wr.setCell ⟨w.heap.size + 1, 9, none⟩ (.bool (decide ((9 : Int) ∈ l))) = wr := Tbl.same HTB.out 9 (by omega)
            have c10 : wr.cell? ⟨w.heap.size + 1, 10, none⟩ = some (.bool (decide ((10 : Int) ∈ l))) := Tbl.cell HTB.out 10 (by omega)
            have sc10 : wr.setCell ⟨w.heap.size + 1, 10, none⟩ (.bool (decide ((10 : Int) ∈ l))) = wr := Tbl.same HTB.out 10 (by omega)
            have c11 : wr.cell? ⟨w.heap.size + 1, 11, none⟩ = some (.bool (decide ((11 : Int) ∈ l))) := Tbl.cell HTB.out 11 (by omega)
            have sc11 : wr.setCell ⟨w.heap.size + 1, 11, none⟩ (.bool (decide ((11 : Int) ∈ l))) = wr := Tbl.same HTB.out 11 (by omega)
            have c12 : wr.cell? ⟨w.heap.size + 1, 12, none⟩ = some (.bool (decide ((12 : Int) ∈ l))) := Tbl.cell HTB.out 12 (by omega)
            have sc12 : wr.setCell ⟨w.heap.size + 1, 12, none⟩ (.bool (decide ((12 : Int) ∈ l))) = wr := Tbl.same HTB.out 12 (by omega)
            have c13 : wr.cell? ⟨w.heap.size + 1, 13, none⟩ = some (.bool (decide ((13 : Int) ∈ l))) := Tbl.cell HTB.out 13 (by omega)
            have sc13 : wr.setCell ⟨w.heap.size + 1, 13, none⟩ (.bool (decide ((13 : Int) ∈ l))) = wr := Tbl.same HTB.out 13 (by omega)
            have c14 : wr.cell? ⟨w.heap.size + 1, 14, none⟩ = some (.bool (decide ((14 : Int) ∈ l))) := Tbl.cell HTB.out 14 (by omega)
            have sc14 : wr.setCell ⟨w.heap.size + 1, 14, none⟩ (.bool (decide ((14 : Int) ∈ l))) = wr := Tbl.same HTB.out 14 (by omega)
            have c15 : wr.cell? ⟨w.heap.size + 1, 15, none⟩ = some (.bool (decide ((15 : Int) ∈ l))) := Tbl.cell HTB.out 15 (by omega)
            have sc15 : wr.setCell ⟨w.heap.size + 1, 15, none⟩ (.bool (decide ((15 : Int) ∈ l))) = wr := Tbl.same HTB.out 15 (by omega)
            go_wp2_with (go_at_call 28; refine (within_any _ _ _ _).mono ?_; rintro e w9 ⟨rfl, hw9⟩; replace hw9 := hw9.symm; subst hw9; rw [hi])
            refine bodyPost_ret (ret_bo Try.results29 rfl rfl HTB.out) rfl ?_
            exact ⟨⟨l, by rw [HE.out], fun h => by rw [HE.out] at h; cases h⟩, HB.out⟩
          case true =>
          obtain ⟨m, rfl⟩ : ∃ m : Nat, v = (m : Int) := ⟨v.toNat, by unfold inB at hi; simp at hi; omega⟩
          have hm : m < 16 := by unfold inB at hi; simp at hi; omega
          have hmi : (m : Int) < 16 := by omega
          have HM : Hid (m < 16) := hm
          have t1 := Tbl.cell HTB.out m hm
          by_cases hin : (m : Int) ∈ l
          · as_aux_lemma =>
            have HE : Hid (okB (lst nn nw no od) = false) := HBAD.out (.inr hin)
            have hd : decide ((m : Int) ∈ l) = true := by simpa using hin
            rw [hd] at t1
            clear hin hd
            have c0 : wr.cell? ⟨w.heap.size + 1, 0, none⟩ = some (.bool (decide ((0 : Int) ∈ l))) := Tbl.cell HTB.out 0 (by omega)
            have sc0 : wr.setCell ⟨w.heap.size + 1, 0, none⟩ (.bool (decide ((0 : Int) ∈ l))) = wr := Tbl.same HTB.out 0 (by omega)
            have c1 : wr.cell? ⟨w.heap.size + 1, 1, none⟩ = some (.bool (decide ((1 : Int) ∈ l))) := Tbl.cell HTB.out 1 (by omega)
            have sc1 : wr.setCell ⟨w.heap.size + 1, 1, none⟩ (.bool (decide ((1 : Int) ∈ l))) = wr := Tbl.same HTB.out 1 (by omega)
            have c2 : wr.cell? ⟨w.heap.size + 1, 2, none⟩ = some (.bool (decide ((2 : Int) ∈ l))) := Tbl.cell HTB.out 2 (by omega)
            have sc2 : wr.setCell ⟨w.heap.size + 1, 2, none⟩ (.bool (decide ((2 : Int) ∈ l))) = wr := Tbl.same HTB.out 2 (by omega)
            have c3 : wr.cell? ⟨w.heap.size + 1, 3, none⟩ = some (.bool (decide ((3 : Int) ∈ l))) := Tbl.cell HTB.out 3 (by omega)
            have sc3 : wr.setCell ⟨w.heap.size + 1, 3, none⟩ (.bool (decide ((3 : Int) ∈ l))) = wr := Tbl.same HTB.out 3 (by omega)
            have c4 : wr.cell? ⟨w.heap.size + 1, 4, none⟩ = some (.bool (decide ((4 : Int) ∈ l))) := Tbl.cell HTB.out 4 (by omega)
            have sc4 : wr.setCell ⟨w.heap.size + 1, 4, none⟩ (.bool (decide ((4 : Int) ∈ l))) = wr := Tbl.same HTB.out 4 (by omega)
            have c5 : wr.cell? ⟨w.heap.size + 1, 5, none⟩ = some (.bool (decide ((5 : Int) ∈ l))) := Tbl.cell HTB.out 5 (by omega)
            have sc5 : wr.setCell ⟨w.heap.size + 1, 5, none⟩ (.bool (decide ((5 : Int) ∈ l))) = wr := Tbl.same HTB.out 5 (by omega)
            have c6 : wr.cell? ⟨w.heap.size + 1, 6, none⟩ = some (.bool (decide ((6 : Int) ∈ l))) := Tbl.cell HTB.out 6 (by omega)
            have sc6 : wr.setCell ⟨w.heap.size + 1, 6, none⟩ (.bool (decide ((6 : Int) ∈ l))) = wr := Tbl.same HTB.out 6 (by omega)
            have c7 : wr.cell? ⟨w.heap.size + 1, 7, none⟩ = some (.bool (decide ((7 : Int) ∈ l))) := Tbl.cell HTB.out 7 (by omega)
            have sc7 : wr.setCell ⟨w.heap.size + 1, 7, none⟩ (.bool (decide ((7 : Int) ∈ l))) = wr := Tbl.same HTB.out 7 (by omega)
            have c8 : wr.cell? ⟨w.heap.size + 1, 8, none⟩ = some (.bool (decide ((8 : Int) ∈ l))) := Tbl.cell HTB.out 8 (by omega)
            have sc8 : wr.setCell ⟨w.heap.size + 1, 8, none⟩ (.bool (decide ((8 : Int) ∈ l))) = wr := Tbl.same HTB.out 8 (by omega)
            have c9 : wr.cell? ⟨w.heap.size + 1, 9, none⟩ = some (.bool (decide ((9 : Int) ∈ l))) := Tbl.cell HTB.out 9 (by omega)
            have sc9 : wr.setCell ⟨w.heap.size + 1, 9, none⟩ (.bool (decide ((9 : Int) ∈ l))) = wr := Tbl.same HTB.out 9 (by omega)
            have c10 : wr.cell? ⟨w.heap.size + 1, 10, none⟩ = some (.bool (decide ((10 : Int) ∈ l))) := Tbl.cell HTB.out 10 (by omega)
            have sc10 : wr.setCell ⟨w.heap.size + 1, 10, none⟩ (.bool (decide ((10 : Int) ∈ l))) = wr := Tbl.same HTB.out 10 (by omega)
            have c11 : wr.cell? ⟨w.heap.size + 1, 11, none⟩ = some (.bool (decide ((11 : Int) ∈ l))) := Tbl.cell HTB.out 11 (by omega)
            have sc11 : wr.setCell ⟨w.heap.size + 1, 11, none⟩ (.bool (decide ((11 : Int) ∈ l))) = wr := Tbl.same HTB.out 11 (by omega)
            have c12 : wr.cell? ⟨w.heap.size + 1, 12, none⟩ = some (.bool (decide ((12 : Int) ∈ l))) := Tbl.cell HTB.out 12 (by omega)
            have sc12 : wr.setCell ⟨w.heap.size + 1, 12, none⟩ (.bool (decide ((12 : Int) ∈ l))) = wr := Tbl.same HTB.out 12 (by omega)
            have c13 : wr.cell? ⟨w.heap.size + 1, 13, none⟩ = some (.bool (decide ((13 : Int) ∈ l))) := Tbl.cell HTB.out 13 (by omega)
            have sc13 : wr.setCell ⟨w.heap.size + 1, 13, none⟩ (.bool (decide ((13 : Int) ∈ l))) = wr := Tbl.same HTB.out 13 (by omega)
            have c14 : wr.cell? ⟨w.heap.size + 1, 14, none⟩ = some (.bool (decide ((14 : Int) ∈ l))) := Tbl.cell HTB.out 14 (by omega)
            have sc14 : wr.setCell ⟨w.heap.size + 1, 14, none⟩ (.bool (decide ((14 : Int) ∈ l))) = wr := Tbl.same HTB.out 14 (by omega)
            have c15 : wr.cell? ⟨w.heap.size + 1, 15, none⟩ = some (.bool (decide ((15 : Int) ∈ l))) := Tbl.cell HTB.out 15 (by omega)
            have sc15 : wr.setCell ⟨w.heap.size + 1, 15, none⟩ (.bool (decide ((15 : Int) ∈ l))) = wr := Tbl.same HTB.out 15 (by omega)
            go_wp2_with (go_at_call 28; refine (within_any _ _ _ _).mono ?_; rintro e w9 ⟨rfl, hw9⟩; replace hw9 := hw9.symm; subst hw9; rw [hi])
            refine bodyPost_ret (ret_bo Try.results29 rfl rfl HTB.out) rfl ?_
            exact ⟨⟨l, by rw [HE.out], fun h => by rw [HE.out] at h; cases h⟩, HB.out⟩
          · as_aux_lemma =>
            have hd : decide ((m : Int) ∈ l) = false := by simpa using hin
            rw [hd] at t1
            have HIN : Hid ((m : Int) ∉ l) := hin
            clear hin hd hm
            go_wp2_with (go_at_call 28; refine (within_any _ _ _ _).mono ?_; rintro e w9 ⟨rfl, hw9⟩; replace hw9 := hw9.symm; subst hw9; rw [hi])
            go_roundw
            case rel =>
              have e : P ++ ((List.range no).map od).take (j + 1) = l ++ [(m : Int)] := by rw [take_snoc HG.out, HLL.out, List.append_assoc]
              have cw : Chg (w.heap.size + 1) (w.heap.size + 1 + 1) wr (wr.setCell ⟨w.heap.size + 1, m, none⟩ (.bool true)) := chg_set (Chg.refl _ _ _) (Nat.le_refl _) (Nat.lt_succ_self _) _ _
              refine ⟨j + 1, by omega, by go_num, by rw [e]; exact Tbl.set HTB.out m HM.out, by rw [e]; exact okL_snoc HOK.out (by omega) (by omega) HIN.out, ?_, (HB.out).setCell (show w.heap.size ≤ w.heap.size + 1 by omega) _⟩
              exact Row.below HRC.out ((HB.out).setCell (show w.heap.size ≤ w.heap.size + 1 by omega) _)
            case measure => simp [intOf]; omega
        · obtain rfl : no = j := by omega
          go_wp2
          go_roundw
          case rel =>
            have e : l = seenL nn nw no od 2 := by rw [HLL.out, List.take_of_length_le (by simp), HPP.out]; rfl
            exact ⟨2, .inr (.inr ⟨rfl, rfl⟩), by rw [← e]; exact HTB.out, by rw [← e]; exact HOK.out, HB.out⟩
          case measure => simp [intOf]
    · as_aux_lemma =>
      have HTB : Hid (Tbl wr (w.heap.size + 1) 64 (lst nn nw no od)) := htb
      have HE : Hid (okB (lst nn nw no od) = true) := by show _ = _; unfold okB; rw [decide_eq_true_eq]; exact hok
      have HB : Hid (Below w.heap.size w wr) := hB
      have tf := htb.frozen
      have lt1 : w.heap.size + 1 < wr.heap.size := htb.lt
      obtain ⟨l, hl⟩ : ∃ l, l = lst nn nw no od := ⟨_, rfl⟩
      rw [← hl] at HTB
      have HLL : Hid (l = lst nn nw no od) := hl
      clear htb hok hB hl
      have c0 : wr.cell? ⟨w.heap.size + 1, 0, none⟩ = some (.bool (decide ((0 : Int) ∈ l))) := Tbl.cell HTB.out 0 (by omega)
      have sc0 : wr.setCell ⟨w.heap.size + 1, 0, none⟩ (.bool (decide ((0 : Int) ∈ l))) = wr := Tbl.same HTB.out 0 (by omega)
      have c1 : wr.cell? ⟨w.heap.size + 1, 1, none⟩ = some (.bool (decide ((1 : Int) ∈ l))) := Tbl.cell HTB.out 1 (by omega)
      have sc1 : wr.setCell ⟨w.heap.size + 1, 1, none⟩ (.bool (decide ((1 : Int) ∈ l))) = wr := Tbl.same HTB.out 1 (by omega)
      have c2 : wr.cell? ⟨w.heap.size + 1, 2, none⟩ = some (.bool (decide ((2 : Int) ∈ l))) := Tbl.cell HTB.out 2 (by omega)
      have sc2 : wr.setCell ⟨w.heap.size + 1, 2, none⟩ (.bool (decide ((2 : Int) ∈ l))) = wr := Tbl.same HTB.out 2 (by omega)
      have c3 : wr.cell? ⟨w.heap.size + 1, 3, none⟩ = some (.bool (decide ((3 : Int) ∈ l))) := Tbl.cell HTB.out 3 (by omega)
      have sc3 : wr.setCell ⟨w.heap.size + 1, 3, none⟩ (.bool (decide ((3 : Int) ∈ l))) = wr := Tbl.same HTB.out 3 (by omega)
      have c4 : wr.cell? ⟨w.heap.size + 1, 4, none⟩ = some (.bool (decide ((4 : Int) ∈ l))) := Tbl.cell HTB.out 4 (by omega)
      have sc4 : wr.setCell ⟨w.heap.size + 1, 4, none⟩ (.bool (decide ((4 : Int) ∈ l))) = wr := Tbl.same HTB.out 4 (by omega)
      have c5 : wr.cell? ⟨w.heap.size + 1, 5, none⟩ = some (.bool (decide ((5 : Int) ∈ l))) := Tbl.cell HTB.out 5 (by omega)
      have sc5 : wr.setCell ⟨w.heap.size + 1, 5, none⟩ (.bool (decide ((5 : Int) ∈ l))) = wr := Tbl.same HTB.out 5 (by omega)
      have c6 : wr.cell? ⟨w.heap.size + 1, 6, none⟩ = some (.bool (decide ((6 : Int) ∈ l))) := Tbl.cell HTB.out 6 (by omega)
      have sc6 : wr.setCell ⟨w.heap.size + 1, 6, none⟩ (.bool (decide ((6 : Int) ∈ l))) = wr := Tbl.same HTB.out 6 (by omega)
      have c7 : wr.cell? ⟨w.heap.size + 1, 7, none⟩ = some (.bool (decide ((7 : Int) ∈ l))) := Tbl.cell HTB.out 7 (by omega)
      have sc7 : wr.setCell ⟨w.heap.size + 1, 7, none⟩ (.bool (decide ((7 : Int) ∈ l))) = wr := Tbl.same HTB.out 7 (by omega)
      have c8 : wr.cell? ⟨w.heap.size + 1, 8, none⟩ = some (.bool (decide ((8 : Int) ∈ l))) := Tbl.cell HTB.out 8 (by omega)
      have sc8 : wr.setCell ⟨w.heap.size + 1, 8, none⟩ (.bool (decide ((8 : Int) ∈ l))) = wr := Tbl.same HTB.out 8 (by omega)
      have c9 : wr.cell? ⟨w.heap.size + 1, 9, none⟩ = some (.bool (decide ((9 : Int) ∈ l))) := Tbl.cell HTB.out 9 (by omega)
      have sc9 : wr.setCell ⟨w.heap.size + 1, 9, none⟩ (.bool (decide ((9 : Int) ∈ l))) = wr := Tbl.same HTB.out 9 (by omega)
      have c10 : wr.cell? ⟨w.heap.size + 1, 10, none⟩ = some (.bool (decide ((10 : Int) ∈ l))) := Tbl.cell HTB.out 10 (by omega)
      have sc10 : wr.setCell ⟨w.heap.size + 1, 10, none⟩ (.bool (decide ((10 : Int) ∈ l))) = wr := Tbl.same HTB.out 10 (by omega)
      have c11 : wr.cell? ⟨w.heap.size + 1, 11, none⟩ = some (.bool (decide ((11 : Int) ∈ l))) := Tbl.cell HTB.out 11 (by omega)
      have sc11 : wr.setCell ⟨w.heap.size + 1, 11, none⟩ (.bool (decide ((11 : Int) ∈ l))) = wr := Tbl.same HTB.out 11 (by omega)
      have c12 : wr.cell? ⟨w.heap.size + 1, 12, none⟩ = some (.bool (decide ((12 : Int) ∈ l))) := Tbl.cell HTB.out 12 (by omega)
      have sc12 : wr.setCell ⟨w.heap.size + 1, 12, none⟩ (.bool (decide ((12 : Int) ∈ l))) = wr := Tbl.same HTB.out 12 (by omega)
      have c13 : wr.cell? ⟨w.heap.size + 1, 13, none⟩ = some (.bool (decide ((13 : Int) ∈ l))) := Tbl.cell HTB.out 13 (by omega)
      have sc13 : wr.setCell ⟨w.heap.size + 1, 13, none⟩ (.bool (decide ((13 : Int) ∈ l))) = wr := Tbl.same HTB.out 13 (by omega)
      have c14 : wr.cell? ⟨w.heap.size + 1, 14, none⟩ = some (.bool (decide ((14 : Int) ∈ l))) := Tbl.cell HTB.out 14 (by omega)
      have sc14 : wr.setCell ⟨w.heap.size + 1, 14, none⟩ (.bool (decide ((14 : Int) ∈ l))) = wr := Tbl.same HTB.out 14 (by omega)
      have c15 : wr.cell? ⟨w.heap.size + 1, 15, none⟩ = some (.bool (decide ((15 : Int) ∈ l))) := Tbl.cell HTB.out 15 (by omega)
      have sc15 : wr.setCell ⟨w.heap.size + 1, 15, none⟩ (.bool (decide ((15 : Int) ∈ l))) = wr := Tbl.same HTB.out 15 (by omega)
      go_wp2
      refine bodyPost_ret (ret_bo Try.results29 rfl rfl HTB.out) rfl ?_
      exact ⟨⟨l, by rw [HE.out], fun _ => HLL.out⟩, HB.out⟩

end Go.Proofs.Ytdhdigjghchdjaa
