/-
  FAIR: a Fair's value; the laws' szFair, toFair, eqFair.
-/
import Derived.Test.YtmjggolllijamaaLines2
namespace Go.Proofs.Ytmjggolllijamaa
open Go.RowKit
set_option linter.unusedVariables false

@[reducible] def faVal (q lim : Int) (a : Option Addr) (N ca : Nat) (b : Option Addr) (nn cb : Nat) (c : Option Addr) (no cc : Nat) : Value := .agg #[.int .i64 q, .int .i64 lim, .slice a N ca, .slice b nn cb, .slice c no cc]
@[reducible] def faCells (q lim : Int) (a : Option Addr) (N ca : Nat) (b : Option Addr) (nn cb : Nat) (c : Option Addr) (no cc : Nat) : Array Value := #[.int .i64 q, .int .i64 lim, .slice a N ca, .slice b nn cb, .slice c no cc]
@[reducible] def faZero : Array Value := #[.int .i64 0, .int .i64 0, .slice none 0 0, .slice none 0 0, .slice none 0 0]

/-- What is known of a Fair that came in. -/
structure FairIn (w : World) (q lim : Int) (a : Option Addr) (N ca : Nat) (b : Option Addr) (nn cb : Nat) (c : Option Addr) (no cc : Nat) (L : Nat → Ln) (nw od : Nat → Int) : Prop where
  qi : -9223372036854775808 ≤ q ∧ q ≤ 9223372036854775807
  li : -9223372036854775808 ≤ lim ∧ lim ≤ 9223372036854775807
  n1 : N ≤ ca
  n2 : ca ≤ maxLen
  n3 : ∀ i, i < N → (L i).n ≤ maxLen
  m1 : nn ≤ cb
  m2 : cb ≤ maxLen
  k1 : no ≤ cc
  k2 : cc ≤ maxLen
  lr : LR w.heap.size w a N L
  rb : Row .i64 w b nn nw
  rc : Row .i64 w c no od

/-- All blocks of the lines lie below m. -/
def Under (m : Nat) (B N : Nat) (A : Nat → Option Addr) (L : Nat → Ln) : Prop := B < m ∧ ∀ i, i < N → (L i).n ≠ 0 → ∀ p, A i = some p → p.block < m
theorem LO.under {base : Nat} {w : World} {B N : Nat} {A : Nat → Option Addr} {C : Nat → Nat} {L : Nat → Ln} (h : LO base w B N A C L) : Under w.heap.size B N A L := by
  obtain ⟨vs, t, hs, _⟩ := h.sits
  refine ⟨hs.lt, fun i hi hn p hp => ?_⟩
  rcases h.own i hi with e | ⟨g, ha, _, _, ho⟩
  · exact absurd e hn
  · rw [ha] at hp; cases hp; exact ho.1
theorem Under.lo {base m : Nat} {w : World} {B N : Nat} {A : Nat → Option Addr} {C : Nat → Nat} {L : Nat → Ln} (h : Under m B N A L) (h' : LO base w B N A C L) : base < m := Nat.lt_of_le_of_lt h'.lo h.1
theorem Under.mono {m m' B N : Nat} {A : Nat → Option Addr} {L : Nat → Ln} (h : Under m B N A L) (hm : m ≤ m') : Under m' B N A L := ⟨by have := h.1; omega, fun i hi hn p hp => by have := h.2 i hi hn p hp; omega⟩
/-- What is turned elsewhere does not touch lines. -/
theorem LO.chg {base : Nat} {w w' : World} {B N : Nat} {A : Nat → Option Addr} {C : Nat → Nat} {L : Nat → Ln} {lo up : Nat} (h : LO base w B N A C L) (hc : Chg lo up w w') (hd : up ≤ base ∨ Under lo B N A L) : LO base w' B N A C L := by
  have hu := hd
  obtain ⟨h0, ⟨vs, t, hs, h1, h2⟩, h3, h4, h5⟩ := h
  refine ⟨h0, ⟨vs, t, hs.chg hc ?_, h1, h2⟩, h3, fun i hi => ?_, h5⟩
  · rcases hu with e | e
    · exact .inr (by omega)
    · exact .inl e.1
  rcases h4 i hi with e | ⟨g, ha, hg, hne, ho⟩
  · exact .inl e
  · by_cases hz : (L i).n = 0
    · exact .inl hz
    · refine .inr ⟨g, ha, hg, hne, own_same ho (hc.block g ho.1 ?_) hc.size⟩
      rcases hu with e | e
      · omega
      · have : g < lo := e.2 i hi hz _ ha
        omega

/-- Where a copied Fair lies. -/
def FO (base : Nat) (w : World) (B : Nat) (A : Nat → Option Addr) (C : Nat → Nat) (N : Nat) (L : Nat → Ln) (x : Option Addr) (nn : Nat) (nw : Nat → Int) (y : Option Addr) (no : Nat) (od : Nat → Int) : Prop :=
  LO base w B N A C L ∧ ∃ m1 m2 : Nat, m1 ≤ m2 ∧ base ≤ m1 ∧ Under m1 B N A L ∧ ZI m1 m2 w x nn nw ∧ ZI m2 w.heap.size w y no od

theorem FO.rows {base : Nat} {w : World} {B : Nat} {A : Nat → Option Addr} {C : Nat → Nat} {N : Nat} {L : Nat → Ln} {x : Option Addr} {nn : Nat} {nw : Nat → Int} {y : Option Addr} {no : Nat} {od : Nat → Int} (h : FO base w B A C N L x nn nw y no od) : Row .i64 w x nn nw ∧ Row .i64 w y no od := by
  obtain ⟨h0, m1, m2, h1, h2, h3, h4, h5⟩ := h
  exact ⟨h4.row, h5.row⟩
theorem FO.below {base : Nat} {w w' : World} {B : Nat} {A : Nat → Option Addr} {C : Nat → Nat} {N : Nat} {L : Nat → Ln} {x : Option Addr} {nn : Nat} {nw : Nat → Int} {y : Option Addr} {no : Nat} {od : Nat → Int} (h : FO base w B A C N L x nn nw y no od) (hb : Below w.heap.size w w') : FO base w' B A C N L x nn nw y no od := by
  obtain ⟨h0, m1, m2, h1, h2, h3, h4, h5⟩ := h
  exact ⟨h0.below hb, m1, m2, h1, h2, h3, h4.below hb, (h5.below hb).wide (Nat.le_refl _) hb.size⟩

end Go.Proofs.Ytmjggolllijamaa
