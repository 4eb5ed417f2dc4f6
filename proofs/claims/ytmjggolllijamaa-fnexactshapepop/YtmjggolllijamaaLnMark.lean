/-
  WHAT THE LAWS WRITE INTO LINES AND READ AGAIN: markLineS, heldLineS, markFair, heldFair.
-/
import Derived.Test.YtmjggolllijamaaFair0
namespace Go.Proofs.Ytmjggolllijamaa
open Go.RowKit
set_option linter.unusedVariables false

/-- Packets whose numbers go up from k. -/
def upPk (k : Int) (i : Nat) : Pk := ⟨k + (i : Int) * 6, k + (i : Int) * 6 + 1, k + (i : Int) * 6 + 2, k + (i : Int) * 6 + 3, k + (i : Int) * 6 + 4, k + (i : Int) * 6 + 5⟩
theorem flat_up (k : Int) (o : Nat) : flat (upPk k) o = k + o := by
  unfold flat upPk Pk.nth
  have hm : o % 6 < 6 := Nat.mod_lt _ (by omega)
  dsimp only
  split
  · omega
  · split
    · omega
    · split
      · omega
      · split
        · omega
        · split <;> omega
/-- A line that was written from k on. -/
def upLn (k : Int) (n : Nat) : Ln := ⟨n, upPk k, k + (n : Int) * 6, ⟨k + (n : Int) * 6 + 1, k + (n : Int) * 6 + 1 + 1, k + (n : Int) * 6 + 1 + 1 + 1, k + (n : Int) * 6 + 1 + 1 + 1 + 1, k + (n : Int) * 6 + 1 + 1 + 1 + 1 + 1, k + (n : Int) * 6 + 1 + 1 + 1 + 1 + 1 + 1, ((k + (n : Int) * 6 + 1 + 1 + 1 + 1 + 1 + 1 + 1) % 3 == 0)⟩⟩
/-- Where the i-th line's numbers begin. -/
def upAt (L : Nat → Ln) (k0 : Int) (i : Nat) : Int := k0 + (cntF L i : Int) * 6 + (i : Int) * 8
def upL (L : Nat → Ln) (k0 : Int) (i : Nat) : Ln := upLn (upAt L k0 i) (L i).n
theorem upAt_succ (L : Nat → Ln) (k0 : Int) (i : Nat) : upAt L k0 (i + 1) = upAt L k0 i + ((L i).n : Int) * 6 + 8 := by unfold upAt; rw [cntF_succ]; omega

theorem setIf_same {vs : Array Value} {k : Nat} {v : Value} (hk : vs[k]? = some v) : vs.setIfInBounds k v = vs := by
  apply Array.ext
  · simp
  · intro i h1 h2
    rw [Array.getElem_setIfInBounds]
    split
    · rename_i e
      subst e
      exact ((Array.getElem?_eq_some_iff.1 hk).2).symm
    · rfl
/-- Eight cells behind a line's slice are stored. -/
theorem Sits.set8 {w : World} {B : Nat} {vs : Array Value} {t : TypeId} (h : Sits w B vs t) (o : Nat) (x : Option Addr) (c : Nat) (l : Ln) (h0 : vs[o]? = some (.slice x l.n c)) :
    Sits ((((((((w.setCell ⟨B, o + 1, none⟩ (.int .i64 l.sh)).setCell ⟨B, o + 2, none⟩ (.int .i64 l.cd.tg)).setCell ⟨B, o + 3, none⟩ (.int .i64 l.cd.iv)).setCell ⟨B, o + 4, none⟩ (.int .i64 l.cd.fi)).setCell ⟨B, o + 5, none⟩ (.int .i64 l.cd.nx)).setCell ⟨B, o + 6, none⟩ (.int .i64 l.cd.ct)).setCell ⟨B, o + 7, none⟩ (.int .i64 l.cd.la)).setCell ⟨B, o + 8, none⟩ (.bool l.cd.dr)) B (Go.Proofs.Ytmjggolllijamaa.set9 vs o x c l) t := by
  have := (((((((h.set (o + 1) (.int .i64 l.sh)).set (o + 2) (.int .i64 l.cd.tg)).set (o + 3) (.int .i64 l.cd.iv)).set (o + 4) (.int .i64 l.cd.fi)).set (o + 5) (.int .i64 l.cd.nx)).set (o + 6) (.int .i64 l.cd.ct)).set (o + 7) (.int .i64 l.cd.la)).set (o + 8) (.bool l.cd.dr)
  unfold Go.Proofs.Ytmjggolllijamaa.set9
  rw [setIf_same h0]
  exact this

/-- One line's packets were turned, and then its eight cells. -/
theorem LO.upd {base : Nat} {w w1 : World} {B N : Nat} {A : Nat → Option Addr} {C : Nat → Nat} {L : Nat → Ln} (h : LO base w B N A C L) {j : Nat} (hj : j < N) (l : Ln) (hn : l.n = (L j).n)
    (hs : w.heap.size ≤ w1.heap.size) (hblk : ∀ k, k < w.heap.size → ((L j).n = 0 ∨ ∀ g, A j = some ⟨g, 0, none⟩ → k ≠ g) → w1.heap[k]? = w.heap[k]?)
    (how : (L j).n = 0 ∨ ∃ g : Nat, A j = some ⟨g, 0, none⟩ ∧ Own .i64 w1 g (l.n * 6) (flat l.f)) :
    LO base ((((((((w1.setCell ⟨B, j * 9 + 1, none⟩ (.int .i64 l.sh)).setCell ⟨B, j * 9 + 2, none⟩ (.int .i64 l.cd.tg)).setCell ⟨B, j * 9 + 3, none⟩ (.int .i64 l.cd.iv)).setCell ⟨B, j * 9 + 4, none⟩ (.int .i64 l.cd.fi)).setCell ⟨B, j * 9 + 5, none⟩ (.int .i64 l.cd.nx)).setCell ⟨B, j * 9 + 6, none⟩ (.int .i64 l.cd.ct)).setCell ⟨B, j * 9 + 7, none⟩ (.int .i64 l.cd.la)).setCell ⟨B, j * 9 + 8, none⟩ (.bool l.cd.dr)) B N A C (fun i => if i = j then l else L i) := by
  obtain ⟨h0, ⟨vs, t, hS, h1, h2⟩, h3, h4, h5⟩ := h
  have hBne : (L j).n = 0 ∨ ∀ g, A j = some ⟨g, 0, none⟩ → B ≠ g := by
    rcases h4 j hj with e | ⟨g, ha, _, hne, _⟩
    · exact .inl e
    · refine .inr fun g' hg' => ?_
      rw [ha] at hg'
      cases hg'
      exact fun e => hne e.symm
  have hS1 : Sits w1 B vs t := (hblk B hS.lt hBne).trans hS
  have hS2 := hS1.set8 (j * 9) (A j) (C j) l (by rw [hn]; exact (h2 j hj).1)
  have c8 : ∀ k, k ≠ B → ((((((((w1.setCell ⟨B, j * 9 + 1, none⟩ (.int .i64 l.sh)).setCell ⟨B, j * 9 + 2, none⟩ (.int .i64 l.cd.tg)).setCell ⟨B, j * 9 + 3, none⟩ (.int .i64 l.cd.iv)).setCell ⟨B, j * 9 + 4, none⟩ (.int .i64 l.cd.fi)).setCell ⟨B, j * 9 + 5, none⟩ (.int .i64 l.cd.nx)).setCell ⟨B, j * 9 + 6, none⟩ (.int .i64 l.cd.ct)).setCell ⟨B, j * 9 + 7, none⟩ (.int .i64 l.cd.la)).setCell ⟨B, j * 9 + 8, none⟩ (.bool l.cd.dr)).heap[k]? = w1.heap[k]? := fun k hk => by
    rw [Below.heap_setCell _ _ _ _ hk, Below.heap_setCell _ _ _ _ hk, Below.heap_setCell _ _ _ _ hk, Below.heap_setCell _ _ _ _ hk, Below.heap_setCell _ _ _ _ hk, Below.heap_setCell _ _ _ _ hk, Below.heap_setCell _ _ _ _ hk, Below.heap_setCell _ _ _ _ hk]
  have s8 : w1.heap.size ≤ ((((((((w1.setCell ⟨B, j * 9 + 1, none⟩ (.int .i64 l.sh)).setCell ⟨B, j * 9 + 2, none⟩ (.int .i64 l.cd.tg)).setCell ⟨B, j * 9 + 3, none⟩ (.int .i64 l.cd.iv)).setCell ⟨B, j * 9 + 4, none⟩ (.int .i64 l.cd.fi)).setCell ⟨B, j * 9 + 5, none⟩ (.int .i64 l.cd.nx)).setCell ⟨B, j * 9 + 6, none⟩ (.int .i64 l.cd.ct)).setCell ⟨B, j * 9 + 7, none⟩ (.int .i64 l.cd.la)).setCell ⟨B, j * 9 + 8, none⟩ (.bool l.cd.dr)).heap.size := by simp
  refine ⟨h0, ⟨_, t, hS2, (set9_size _ _ _ _ _).trans h1, fun i hi => ?_⟩, fun i hi => ?_, fun i hi => ?_, fun i k hi hk hne e1 e2 => ?_⟩ <;> (try dsimp only at *)
  · by_cases e : i = j
    · subst e
      rw [if_pos rfl]
      exact set9_lv _ _ _ _ _ (by omega)
    · rw [if_neg e]
      exact (h2 i hi).set9 (by omega)
  · by_cases e : i = j
    · subst e
      rw [if_pos rfl, hn]
      exact h3 i hi
    · rw [if_neg e]
      exact h3 i hi
  · by_cases e : i = j
    · subst e
      rw [if_pos rfl]
      rcases how with e0 | ⟨g, ha, ho⟩
      · exact .inl (by omega)
      · rcases h4 i hi with e0 | ⟨g', ha', hg', hne', _⟩
        · exact .inl (by omega)
        · rw [ha] at ha'
          cases ha'
          exact .inr ⟨g, ha, hg', hne', own_same ho (c8 g hne') s8⟩
    · rw [if_neg e]
      rcases h4 i hi with e0 | ⟨g, ha, hg, hne, ho⟩
      · exact .inl e0
      · by_cases hz : (L i).n = 0
        · exact .inl hz
        · have hb1 : w1.heap[g]? = w.heap[g]? := hblk g ho.1 (by
            by_cases hz' : (L j).n = 0
            · exact .inl hz'
            · refine .inr fun g' hg' eg => ?_
              subst eg
              exact h5 i j hi hj e hz hz' (ha.trans hg'.symm))
          exact .inr ⟨g, ha, hg, hne, own_same (own_same ho hb1 hs) (c8 g hne) s8⟩
  · have f1 : (L i).n ≠ 0 := by by_cases e : i = j; · rw [if_pos e] at e1; rw [e, ← hn]; exact e1
                                · rw [if_neg e] at e1; exact e1
    have f2 : (L k).n ≠ 0 := by by_cases e : k = j; · rw [if_pos e] at e2; rw [e, ← hn]; exact e2
                                · rw [if_neg e] at e2; exact e2
    exact h5 i k hi hk hne f1 f2

theorem LO.at {base : Nat} {w : World} {B N : Nat} {A : Nat → Option Addr} {C : Nat → Nat} {L : Nat → Ln} (h : LO base w B N A C L) {j : Nat} (hj : j < N) : LAt w B (j * 9) (A j) (C j) (L j) := by
  obtain ⟨vs, t, hS, _, h2⟩ := h.sits
  exact (h2 j hj).at hS
theorem LO.frozen {base : Nat} {w : World} {B N : Nat} {A : Nat → Option Addr} {C : Nat → Nat} {L : Nat → Ln} (h : LO base w B N A C L) (k : Nat) : w.frozen? ⟨B, k, none⟩ = false := by
  obtain ⟨vs, t, hS, _, _⟩ := h.sits
  exact hS.frozen k
theorem LO.congr {base : Nat} {w : World} {B N : Nat} {A : Nat → Option Addr} {C : Nat → Nat} {L L' : Nat → Ln} (h : LO base w B N A C L) (e : ∀ i, i < N → L i = L' i) : LO base w B N A C L' := by
  obtain ⟨h0, ⟨vs, t, hS, h1, h2⟩, h3, h4, h5⟩ := h
  refine ⟨h0, ⟨vs, t, hS, h1, fun i hi => by rw [← e i hi]; exact h2 i hi⟩, fun i hi => by rw [← e i hi]; exact h3 i hi, fun i hi => by rw [← e i hi]; exact h4 i hi, fun i j hi hj hne h6 h7 => h5 i j hi hj hne (by rw [e i hi]; exact h6) (by rw [e j hj]; exact h7)⟩

theorem Chg.wide {L U L' U' : Nat} {w w' : World} (h : Chg L U w w') (h1 : L' ≤ L) (h2 : U ≤ U') : Chg L' U' w w' := ⟨h.os, h.tape, h.output, h.size, fun k hk hn => h.block k hk (by omega)⟩

set_option maxRecDepth 100000 in
set_option maxHeartbeats 4000000 in
theorem markLineS_lo (base up : Nat) (B N ca : Nat) (A : Nat → Option Addr) (C : Nat → Nat) (L : Nat → Ln) (k0 : Int) (w : World) (hlo : LO base w B N A C L) (hun : Under up B N A L) (hN : N ≤ 1048576) (hcn : cntF L N ≤ 1048576) (h0 : 0 ≤ k0) (h1 : k0 ≤ 1000000000) :
    Calls Try.prog 38 #[.slice (some ⟨B, 0, none⟩) N ca, .int .i64 k0] w fun e w' => e = .returned (.int .i64 (upAt L k0 N)) ∧ LO base w' B N A C (upL L k0) ∧ Chg base up w w' := by
  have HLO : Hid (LO base w B N A C L) := hlo
  have HUN : Hid (Under up B N A L) := hun
  have HC : Hid (cntF L N ≤ 1048576) := hcn
  have hNi : (N : Int) ≤ 1048576 := by omega
  clear hlo hun hN hcn
  go_enter Try.func38, Try.ntmps38
  go_wp2
  go_loopw [1, 5] (fun c i wr => ∃ j : Nat, j ≤ N ∧ i = .int .i64 j ∧ c = .int .i64 (upAt L k0 j) ∧ LO base wr B N A C (fun i => if i < j then upL L k0 i else L i) ∧ Chg base up w wr) (fun _ i _ => N - (intOf i).toNat)
  case atStart => exact ⟨0, Nat.zero_le _, rfl, by simp [upAt, cntF], LO.congr HLO.out (fun i _ => by simp), Chg.refl _ _ _⟩
  case round =>
    obtain ⟨j, hj, rfl, rfl, hlo, hch⟩ := hrel
    have HLW : Hid (LO base wr B N A C (fun i => if i < j then upL L k0 i else L i)) := hlo
    have HCH : Hid (Chg base up w wr) := hch
    clear hlo hch
    by_cases hlt : j < N
    · obtain ⟨Q, hQ⟩ : ∃ q, upAt L k0 j = q := ⟨_, rfl⟩
      have HQ : Hid (upAt L k0 j = Q) := hQ
      have hb : 0 ≤ Q ∧ Q + ((L j).n : Int) * 6 ≤ 1100000000 := by
        have e1 := cntF_mono L (show j + 1 ≤ N from hlt)
        rw [cntF_succ] at e1
        have e2 := HC.out
        rw [← hQ]; unfold upAt; omega
      obtain ⟨q0, q1⟩ := hb
      rw [hQ]
      have at0 := LO.at HLW.out hlt
      rw [if_neg (Nat.lt_irrefl j)] at at0
      obtain ⟨l, hl⟩ : ∃ l, L j = l := ⟨_, rfl⟩
      have HL : Hid (L j = l) := hl
      rw [hl] at at0 q1
      have hnl : (l.n : Int) ≤ 1048576 := by have := cntF_le L hlt; have := HC.out; rw [hl] at *; omega
      have HNL : Hid (l.n ≤ 1048576) := by show _ ≤ _; omega
      have c0 := at0.1
      obtain ⟨zl, zu, hzi, hzb⟩ : ∃ zl zu : Nat, ZI zl zu wr (A j) (l.n * 6) (flat l.f) ∧ ((l.n = 0 ∧ zl = base ∧ zu = base) ∨ (∃ g, l.n ≠ 0 ∧ A j = some ⟨g, 0, none⟩ ∧ zl = g ∧ zu = g + 1 ∧ base ≤ g ∧ g < up ∧ g ≠ B)) := by
        have how := (HLW.out).own j hlt
        rw [if_neg (Nat.lt_irrefl j), hl] at how
        by_cases hz : l.n = 0
        · exact ⟨base, base, .inl (by omega), .inl ⟨hz, rfl, rfl⟩⟩
        · rcases how with e | ⟨g, ha, hg, hne, ho⟩
          · exact absurd e hz
          · exact ⟨g, g + 1, .inr ⟨g, ha, Nat.le_refl _, Nat.lt_succ_self _, ho⟩, .inr ⟨g, hz, ha, rfl, rfl, hg, (HUN.out).2 j hlt (by rw [hl]; exact hz) _ ha, hne⟩⟩
      have HZI : Hid (ZI zl zu wr (A j) (l.n * 6) (flat l.f)) := hzi
      have HZB : Hid ((l.n = 0 ∧ zl = base ∧ zu = base) ∨ (∃ g, l.n ≠ 0 ∧ A j = some ⟨g, 0, none⟩ ∧ zl = g ∧ zu = g + 1 ∧ base ≤ g ∧ g < up ∧ g ≠ B)) := hzb
      have HAT : Hid (∀ w1, Chg zl zu wr w1 → LAt w1 B (j * 9) (A j) (C j) l ∧ ∀ k, w1.frozen? ⟨B, k, none⟩ = false) := fun w1 hc1 => by
        obtain ⟨vs, t, hS, _, h2⟩ := (HLW.out).sits
        have h2j := h2 j hlt
        rw [if_neg (Nat.lt_irrefl j), hl] at h2j
        have hS1 : Sits w1 B vs t := hS.chg hc1 (by
          have hl0 := (HLW.out).lo
          rcases HZB.out with ⟨_, e1, e2⟩ | ⟨g, _, _, e1, e2, _, _, hne⟩
          · omega
          · omega)
        exact ⟨h2j.at hS1, hS1.frozen⟩
      clear hzi hzb at0 hl hQ
      go_wp2_with (go_at_call 69; refine (markPktS_zi zl zu (A j) l.n (C j) (flat l.f) Q _ HZI.out HNL.out q0 (by omega)).mono ?_; rintro e w1 ⟨rfl, hz1, hc1⟩; obtain ⟨at1, gf⟩ := HAT.out w1 hc1; have g1 := (at1).2.1; have g2 := (at1).2.2.1; have g3 := (at1).2.2.2.1; have g4 := (at1).2.2.2.2.1; have g5 := (at1).2.2.2.2.2.1; have g6 := (at1).2.2.2.2.2.2.1; have g7 := (at1).2.2.2.2.2.2.2.1; have g8 := (at1).2.2.2.2.2.2.2.2; have HZ1 : Hid (ZI zl zu w1 (A j) (l.n * 6) (fun o => Q + o)) := hz1; have HC1 : Hid (Chg zl zu wr w1) := hc1; clear hz1 hc1 at1)
      go_roundw
      case rel =>
        have hl := HL.out
        have hsz : wr.heap.size ≤ w1.heap.size := (HC1.out).size
        have hblk : ∀ k, k < wr.heap.size → (l.n = 0 ∨ ∀ g, A j = some ⟨g, 0, none⟩ → k ≠ g) → w1.heap[k]? = wr.heap[k]? := fun k hk hor => (HC1.out).block k hk (by
          rcases HZB.out with ⟨_, e1, e2⟩ | ⟨g, hnz, ha, e1, e2, hg1, hg2, hne⟩
          · omega
          · rcases hor with e | e
            · exact absurd e hnz
            · have := e g ha
              omega)
        have hBl := (HLW.out).lo
        have hBu := (HUN.out).1
        have cz : Chg base up wr w1 := Chg.wide HC1.out (by rcases HZB.out with ⟨_, e1, e2⟩ | ⟨g, hnz, ha, e1, e2, hg1, hg2, hne⟩ <;> omega) (by rcases HZB.out with ⟨_, e1, e2⟩ | ⟨g, hnz, ha, e1, e2, hg1, hg2, hne⟩ <;> omega)
        have how : l.n = 0 ∨ ∃ g : Nat, A j = some ⟨g, 0, none⟩ ∧ Own .i64 w1 g ((upLn Q l.n).n * 6) (flat (upLn Q l.n).f) := by
          rcases HZB.out with ⟨e, _, _⟩ | ⟨g, hnz, ha, e1, e2, hg1, hg2, hne⟩
          · exact .inl e
          · rcases HZ1.out with hh | ⟨g', ha', _, _, ho⟩
            · exact .inl (by omega)
            · exact .inr ⟨g', ha', ho.congr fun o _ => (flat_up Q o).symm⟩
        have hLj : (if j < j then upL L k0 j else L j) = l := by rw [if_neg (Nat.lt_irrefl j), hl]
        have lu := LO.upd HLW.out hlt (upLn Q l.n) (show l.n = (if j < j then upL L k0 j else L j).n by rw [hLj]) hsz (show ∀ k, k < wr.heap.size → ((if j < j then upL L k0 j else L j).n = 0 ∨ ∀ g, A j = some ⟨g, 0, none⟩ → k ≠ g) → w1.heap[k]? = wr.heap[k]? by rw [hLj]; exact hblk) (show (if j < j then upL L k0 j else L j).n = 0 ∨ ∃ g : Nat, A j = some ⟨g, 0, none⟩ ∧ Own .i64 w1 g ((upLn Q l.n).n * 6) (flat (upLn Q l.n).f) by rw [hLj]; exact how)
        have hup : upL L k0 j = upLn Q l.n := by unfold upL; rw [HQ.out, hl]
        have lu2 := lu.congr (L' := fun i => if i < j + 1 then upL L k0 i else L i) (fun i hi => by
          by_cases e : i = j
          · subst e
            rw [if_pos rfl, if_pos (Nat.lt_succ_self _), hup]
          · rw [if_neg e]
            by_cases e2 : i < j
            · rw [if_pos e2, if_pos (by omega)]
            · rw [if_neg e2, if_neg (by omega)])
        have key : ∀ W, LO base W B N A C (fun i => if i < j + 1 then upL L k0 i else L i) → Chg base up wr W → ∃ j' : Nat, j' ≤ N ∧ Value.int .i64 ((j : Int) + 1) = .int .i64 (j' : Int) ∧ Value.int .i64 (Q + (l.n : Int) * 6 + 1 + 1 + 1 + 1 + 1 + 1 + 1 + 1) = .int .i64 (upAt L k0 j') ∧ LO base W B N A C (fun i => if i < j' then upL L k0 i else L i) ∧ Chg base up w W := fun W h1 h2 => ⟨j + 1, by omega, by go_num, by rw [upAt_succ, HQ.out, hl]; go_num, h1, (HCH.out).trans h2⟩
        dsimp only [upLn] at lu2
        simp only [Nat.add_assoc, Nat.reduceAdd]
        refine key _ lu2 (cz.trans ?_)
        exact chg_set (chg_set (chg_set (chg_set (chg_set (chg_set (chg_set (chg_set (Chg.refl _ _ _) hBl hBu _ _) hBl hBu _ _) hBl hBu _ _) hBl hBu _ _) hBl hBu _ _) hBl hBu _ _) hBl hBu _ _) hBl hBu _ _
      case measure => simp [intOf]; omega
    · obtain rfl : j = N := by omega
      go_wp2
      go_ret
      exact ⟨rfl, LO.congr HLW.out (fun i hi => by rw [if_pos hi]), HCH.out⟩

end Go.Proofs.Ytmjggolllijamaa
