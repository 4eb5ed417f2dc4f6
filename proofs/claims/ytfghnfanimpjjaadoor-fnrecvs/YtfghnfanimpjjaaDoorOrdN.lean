/-
  WHAT A RECEIVER HAS, as a set of bytes: a segment adds its own, and the pieces are known by what they hold; no Go function in sight.
-/
import Derived.Test.YtfghnfanimpjjaaDoorSegU
namespace Go.Proofs.YtfghnfanimpjjaaDoor
open Go.RowKit
set_option linter.unusedVariables false

/-- A byte that a list of pieces holds. -/
def inL' (l : List Sp) (t : Int) : Prop := ∃ p ∈ l, p.fr ≤ t ∧ t < p.to
theorem inL'_nil (t : Int) : ¬ inL' [] t := fun ⟨_, h, _⟩ => by simp at h
theorem inL'_cons (p : Sp) (l : List Sp) (t : Int) : inL' (p :: l) t ↔ (p.fr ≤ t ∧ t < p.to) ∨ inL' l t := by
  unfold inL'; simp [List.mem_cons]
theorem inL'_app (l m : List Sp) (t : Int) : inL' (l ++ m) t ↔ inL' l t ∨ inL' m t := by
  unfold inL'
  constructor
  · rintro ⟨p, hp, h⟩
    rcases List.mem_append.1 hp with hp | hp
    · exact .inl ⟨p, hp, h⟩
    · exact .inr ⟨p, hp, h⟩
  · rintro (⟨p, hp, h⟩ | ⟨p, hp, h⟩)
    · exact ⟨p, List.mem_append.2 (.inl hp), h⟩
    · exact ⟨p, List.mem_append.2 (.inr hp), h⟩
theorem inL'_one (p : Sp) (t : Int) : inL' [p] t ↔ p.fr ≤ t ∧ t < p.to := by unfold inL'; simp

theorem chain_ge {l : List Sp} : ∀ {e : Int}, chain e l → ∀ p ∈ l, e < p.fr ∧ p.fr < p.to := by
  induction l with
  | nil => intro e _ p hp; simp at hp
  | cons q l ih =>
    intro e h p hp
    obtain ⟨h1, h2, h3, h4⟩ := h
    rcases List.mem_cons.1 hp with rfl | hp
    · exact ⟨h1, h2⟩
    · have := ih h4 p hp
      exact ⟨by omega, this.2⟩
theorem chain_in {l : List Sp} {e t : Int} (h : chain e l) (ht : inL' l t) : e < t := by
  obtain ⟨p, hp, h1, h2⟩ := ht
  have := chain_ge h p hp
  omega
/-- The pieces are known by what they hold. -/
theorem chain_eq : ∀ {l m : List Sp} {e : Int}, chain e l → chain e m → (∀ t, inL' l t ↔ inL' m t) → l = m := by
  intro l
  induction l with
  | nil =>
    intro m e _ hm h
    cases m with
    | nil => rfl
    | cons q m =>
      obtain ⟨h1, h2, _, _⟩ := hm
      exact absurd ((h q.fr).2 ((inL'_cons q m q.fr).2 (.inl ⟨Int.le_refl _, h2⟩))) (inL'_nil _)
  | cons p l ih =>
    intro m e hl hm h
    cases m with
    | nil =>
      obtain ⟨h1, h2, _, _⟩ := hl
      exact absurd ((h p.fr).1 ((inL'_cons p l p.fr).2 (.inl ⟨Int.le_refl _, h2⟩))) (inL'_nil _)
    | cons q m =>
      obtain ⟨a1, a2, a3, a4⟩ := hl
      obtain ⟨b1, b2, b3, b4⟩ := hm
      have k1 : q.fr ≤ p.fr := by
        rcases (inL'_cons q m p.fr).1 ((h p.fr).1 ((inL'_cons p l p.fr).2 (.inl ⟨Int.le_refl _, a2⟩))) with hx | hx
        · exact hx.1
        · have := chain_in b4 hx; omega
      have k2 : p.fr ≤ q.fr := by
        rcases (inL'_cons p l q.fr).1 ((h q.fr).2 ((inL'_cons q m q.fr).2 (.inl ⟨Int.le_refl _, b2⟩))) with hx | hx
        · exact hx.1
        · have := chain_in a4 hx; omega
      have k3 : ¬ p.to < q.to := fun hlt => by
        rcases (inL'_cons p l p.to).1 ((h p.to).2 ((inL'_cons q m p.to).2 (.inl ⟨by omega, hlt⟩))) with hx | hx
        · omega
        · have := chain_in a4 hx; omega
      have k4 : ¬ q.to < p.to := fun hlt => by
        rcases (inL'_cons q m q.to).1 ((h q.to).1 ((inL'_cons p l q.to).2 (.inl ⟨by omega, hlt⟩))) with hx | hx
        · omega
        · have := chain_in b4 hx; omega
      have hpq : p = q := by
        cases p; cases q
        simp only [Sp.mk.injEq]
        simp only at k1 k2 k3 k4
        omega
      subst hpq
      congr 1
      refine ih a4 b4 fun t => ⟨fun ht => ?_, fun ht => ?_⟩
      · have := chain_in a4 ht
        exact ((inL'_cons p m t).1 ((h t).1 ((inL'_cons p l t).2 (.inr ht)))).resolve_left (by omega)
      · have := chain_in b4 ht
        exact ((inL'_cons p l t).1 ((h t).2 ((inL'_cons p m t).2 (.inr ht)))).resolve_left (by omega)

/-- All pieces of a receiver: from 0 on, and what lies behind. -/
def pcs (nx : Int) (L : List Sp) : List Sp := ⟨0, nx⟩ :: L
structure Rv (nx : Int) (L : List Sp) : Prop where
  lo : 0 ≤ nx
  hi : nx ≤ 1000000000000
  ch : chain nx L
theorem rv_eq {nx ny : Int} {L M : List Sp} (h : Rv nx L) (k : Rv ny M) (e : ∀ t, inL' (pcs nx L) t ↔ inL' (pcs ny M) t) : nx = ny ∧ L = M := by
  have k1 : ¬ nx < ny := fun hlt => by
    have := h.lo
    rcases (inL'_cons _ _ _).1 ((e nx).2 ((inL'_cons ⟨0, ny⟩ M nx).2 (.inl ⟨h.lo, hlt⟩))) with hx | hx
    · have := hx.2; simp at this
    · have := chain_in h.ch hx; omega
  have k2 : ¬ ny < nx := fun hlt => by
    rcases (inL'_cons _ _ _).1 ((e ny).1 ((inL'_cons ⟨0, nx⟩ L ny).2 (.inl ⟨k.lo, hlt⟩))) with hx | hx
    · have := hx.2; simp at this
    · have := chain_in k.ch hx; omega
  have hn : nx = ny := by omega
  subst hn
  refine ⟨rfl, chain_eq h.ch k.ch fun t => ⟨fun ht => ?_, fun ht => ?_⟩⟩
  · have := chain_in h.ch ht
    exact ((inL'_cons _ _ t).1 ((e t).1 ((inL'_cons _ _ t).2 (.inr ht)))).resolve_left (by show ¬ (0 ≤ t ∧ t < nx); omega)
  · have := chain_in k.ch ht
    exact ((inL'_cons _ _ t).1 ((e t).2 ((inL'_cons _ _ t).2 (.inr ht)))).resolve_left (by show ¬ (0 ≤ t ∧ t < nx); omega)

/-- What the walk of a segment through the pieces keeps: e is where the last piece ended. -/
structure Wk (fr to e : Int) (done : List Sp) (s : SegI) : Prop where
  ne : s.ca.fr < s.ca.to
  lo : 0 ≤ s.ca.fr
  hi : s.ca.to ≤ 1000000000000
  ah : ∀ p ∈ s.ah, p.to < s.ca.fr ∧ p.to ≤ e
  be : ∀ p ∈ s.be, s.ca.to < p.fr ∧ p.to ≤ e
  bl : s.be ≠ [] → s.ca.to < e
  pa : s.ah.Pairwise (fun p q => p.to < q.fr)
  pb : s.be.Pairwise (fun p q => p.to < q.fr)
  al : ∀ p ∈ s.ah, p ∈ done
  bd : ∀ p ∈ s.be, p ∈ done
  all : ∀ t, inL' (s.ah ++ [s.ca] ++ s.be) t ↔ inL' done t ∨ (fr ≤ t ∧ t < to)
theorem Wk.step {fr to e : Int} {done : List Sp} {s : SegI} (h : Wk fr to e done s) {p : Sp} (h1 : e < p.fr) (h2 : p.fr ≤ p.to) (h3 : 0 ≤ p.fr) (h4 : p.to ≤ 1000000000000) : Wk fr to p.to (done ++ [p]) (s.step p) := by
  have hin : ∀ t, inL' (done ++ [p]) t ↔ inL' done t ∨ (p.fr ≤ t ∧ t < p.to) := fun t => by rw [inL'_app, inL'_one]
  have hal : ∀ t, (inL' s.ah t ∨ (s.ca.fr ≤ t ∧ t < s.ca.to)) ∨ inL' s.be t ↔ inL' done t ∨ (fr ≤ t ∧ t < to) := fun t => by
    have := h.all t
    rw [inL'_app, inL'_app, inL'_one] at this
    exact this
  have hne := h.ne
  unfold SegI.step
  by_cases c1 : p.to < s.ca.fr
  · rw [if_pos c1]
    have hbe : s.be = [] := by
      by_cases hb : s.be = []
      · exact hb
      · have := h.bl hb; omega
    refine ⟨h.ne, h.lo, h.hi, fun q hq => ?_, fun q hq => ?_, fun hb => absurd hbe hb, ?_, h.pb, fun q hq => ?_, fun q hq => ?_, fun t => ?_⟩
    · rcases List.mem_append.1 hq with hq | hq
      · have := h.ah q hq; exact ⟨this.1, by omega⟩
      · simp at hq; subst hq; exact ⟨c1, Int.le_refl _⟩
    · rw [hbe] at hq; simp at hq
    · rw [List.pairwise_append]
      refine ⟨h.pa, by simp, fun a ha b hb => ?_⟩
      simp at hb
      subst hb
      have := (h.ah a ha).2
      omega
    · rcases List.mem_append.1 hq with hq | hq
      · exact List.mem_append.2 (.inl (h.al q hq))
      · exact List.mem_append.2 (.inr hq)
    · exact List.mem_append.2 (.inl (h.bd q hq))
    · dsimp only
      rw [inL'_app, inL'_app, inL'_app, inL'_one, inL'_one, hin]
      have := hal t
      constructor
      · rintro (((hx | hx) | hx) | hx)
        · rcases this.1 (.inl (.inl hx)) with k | k
          · exact .inl (.inl k)
          · exact .inr k
        · exact .inl (.inr hx)
        · rcases this.1 (.inl (.inr hx)) with k | k
          · exact .inl (.inl k)
          · exact .inr k
        · rcases this.1 (.inr hx) with k | k
          · exact .inl (.inl k)
          · exact .inr k
      · rintro ((hx | hx) | hx)
        · rcases this.2 (.inl hx) with (k | k) | k
          · exact .inl (.inl (.inl k))
          · exact .inl (.inr k)
          · exact .inr k
        · exact .inl (.inl (.inr hx))
        · rcases this.2 (.inr hx) with (k | k) | k
          · exact .inl (.inl (.inl k))
          · exact .inl (.inr k)
          · exact .inr k
  · rw [if_neg c1]
    by_cases c2 : s.ca.to < p.fr
    · rw [if_pos c2]
      refine ⟨h.ne, h.lo, h.hi, fun q hq => ?_, fun q hq => ?_, fun _ => by dsimp only; omega, h.pa, ?_, fun q hq => ?_, fun q hq => ?_, fun t => ?_⟩
      · have := h.ah q hq; exact ⟨this.1, by omega⟩
      · rcases List.mem_append.1 hq with hq | hq
        · have := h.be q hq; exact ⟨this.1, by omega⟩
        · simp at hq; subst hq; exact ⟨c2, Int.le_refl _⟩
      · dsimp only
        rw [List.pairwise_append]
        refine ⟨h.pb, by simp, fun a ha b hb => ?_⟩
        simp at hb
        subst hb
        have := (h.be a ha).2
        omega
      · exact List.mem_append.2 (.inl (h.al q hq))
      · rcases List.mem_append.1 hq with hq | hq
        · exact List.mem_append.2 (.inl (h.bd q hq))
        · exact List.mem_append.2 (.inr hq)
      · dsimp only
        rw [inL'_app, inL'_app, inL'_app, inL'_one, inL'_one, hin]
        have := hal t
        constructor
        · rintro ((hx | hx) | (hx | hx))
          · rcases this.1 (.inl (.inl hx)) with k | k
            · exact .inl (.inl k)
            · exact .inr k
          · rcases this.1 (.inl (.inr hx)) with k | k
            · exact .inl (.inl k)
            · exact .inr k
          · rcases this.1 (.inr hx) with k | k
            · exact .inl (.inl k)
            · exact .inr k
          · exact .inl (.inr hx)
        · rintro ((hx | hx) | hx)
          · rcases this.2 (.inl hx) with (k | k) | k
            · exact .inl (.inl k)
            · exact .inl (.inr k)
            · exact .inr (.inl k)
          · exact .inr (.inr hx)
          · rcases this.2 (.inr hx) with (k | k) | k
            · exact .inl (.inl k)
            · exact .inl (.inr k)
            · exact .inr (.inl k)
    · rw [if_neg c2]
      have hbe : s.be = [] := by
        by_cases hb : s.be = []
        · exact hb
        · have := h.bl hb; omega
      have m1 := smin_bd p.fr s.ca.fr
      have m2 := smax_bd p.to s.ca.to
      have hlo := h.lo
      have hhi := h.hi
      refine ⟨by dsimp only; omega, by dsimp only; omega, by dsimp only; omega, fun q hq => ?_, fun q hq => ?_, fun hb => absurd hbe hb, h.pa, h.pb, fun q hq => ?_, fun q hq => ?_, fun t => ?_⟩
      · have := h.ah q hq; dsimp only; omega
      · rw [hbe] at hq; simp at hq
      · exact List.mem_append.2 (.inl (h.al q hq))
      · exact List.mem_append.2 (.inl (h.bd q hq))
      · dsimp only
        rw [inL'_app, inL'_app, inL'_one, hin]
        dsimp only
        have := hal t
        have hmid : (smin p.fr s.ca.fr ≤ t ∧ t < smax p.to s.ca.to) ↔ (p.fr ≤ t ∧ t < p.to) ∨ (s.ca.fr ≤ t ∧ t < s.ca.to) := by
          rcases m1.2.2 with e1 | e1 <;> rcases m2.2.2 with e2 | e2 <;> rw [e1, e2] <;> omega
        rw [hmid]
        constructor
        · rintro ((hx | (hx | hx)) | hx)
          · rcases this.1 (.inl (.inl hx)) with k | k
            · exact .inl (.inl k)
            · exact .inr k
          · exact .inl (.inr hx)
          · rcases this.1 (.inl (.inr hx)) with k | k
            · exact .inl (.inl k)
            · exact .inr k
          · rcases this.1 (.inr hx) with k | k
            · exact .inl (.inl k)
            · exact .inr k
        · rintro ((hx | hx) | hx)
          · rcases this.2 (.inl hx) with (k | k) | k
            · exact .inl (.inl k)
            · exact .inl (.inr (.inr k))
            · exact .inr k
          · exact .inl (.inr (.inl hx))
          · rcases this.2 (.inr hx) with (k | k) | k
            · exact .inl (.inl k)
            · exact .inl (.inr (.inr k))
            · exact .inr k

theorem Wk.fold {fr to : Int} : ∀ {l : List Sp} {e : Int} {done : List Sp} {s : SegI}, Wk fr to e done s → 0 ≤ e → chain e l → ∃ e', Wk fr to e' (done ++ l) (l.foldl SegI.step s) := by
  intro l
  induction l with
  | nil => intro e done s h _ _; exact ⟨e, by simpa using h⟩
  | cons p l ih =>
    intro e done s h h0 hc
    obtain ⟨c1, c2, c3, c4⟩ := hc
    have h1 := h.step c1 (by omega) (by omega) c3
    obtain ⟨e', h2⟩ := ih h1 (by omega) c4
    exact ⟨e', by simpa using h2⟩

theorem chain_of : ∀ {l : List Sp} {e : Int}, l.Pairwise (fun p q => p.to < q.fr) → (∀ p ∈ l, e < p.fr ∧ p.fr < p.to ∧ p.to ≤ 1000000000000) → chain e l := by
  intro l
  induction l with
  | nil => intro e _ _; trivial
  | cons p l ih =>
    intro e hp h
    rw [List.pairwise_cons] at hp
    obtain ⟨h1, h2, h3⟩ := h p (by simp)
    exact ⟨h1, h2, h3, ih hp.2 fun q hq => ⟨hp.1 q hq, (h q (by simp [hq])).2⟩⟩

theorem chain_mem {l : List Sp} : ∀ {e : Int}, chain e l → ∀ p ∈ l, p.fr < p.to ∧ p.to ≤ 1000000000000 := by
  induction l with
  | nil => intro e _ p hp; simp at hp
  | cons q l ih =>
    intro e h p hp
    rcases List.mem_cons.1 hp with rfl | hp
    · exact ⟨h.2.1, h.2.2.1⟩
    · exact ih h.2.2.2 p hp

/-- The first piece begins at 0. -/
def Hd (nx : Int) (s : SegI) : Prop := (∃ r, s.ah = ⟨0, nx⟩ :: r) ∨ (s.ah = [] ∧ s.ca.fr = 0)
theorem Hd.step {nx : Int} {s : SegI} (h : Hd nx s) {p : Sp} (h1 : 0 ≤ p.fr) (h2 : p.fr < p.to) : Hd nx (s.step p) := by
  unfold SegI.step
  rcases h with ⟨r, hr⟩ | ⟨ha, hf⟩
  · split
    · exact .inl ⟨r ++ [p], by simp [hr]⟩
    · split
      · exact .inl ⟨r, hr⟩
      · exact .inl ⟨r, hr⟩
  · rw [if_neg (by omega)]
    split
    · exact .inr ⟨ha, hf⟩
    · refine .inr ⟨ha, ?_⟩
      dsimp only
      unfold smin
      rw [hf]
      split <;> omega
theorem Hd.fold {nx : Int} : ∀ {l : List Sp} {e : Int} {s : SegI}, Hd nx s → 0 ≤ e → chain e l → Hd nx (l.foldl SegI.step s) := by
  intro l
  induction l with
  | nil => intro e s h _ _; exact h
  | cons p l ih =>
    intro e s h h0 hc
    obtain ⟨c1, c2, c3, c4⟩ := hc
    exact ih (h.step (by omega) c2) (by omega) c4

/-- A segment put into a receiver: all pieces behind it. -/
theorem seg_rv {nx fr to : Int} {L : List Sp} (h : Rv nx L) (h0 : 0 ≤ fr) (h1 : fr < to) (h2 : to ≤ 1000000000000) :
    ∃ N M, ((pcs nx L).foldl SegI.step ⟨[], [], ⟨fr, to⟩⟩).all = pcs N M ∧ Rv N M ∧ M.length ≤ L.length + 1 ∧ ∀ t, inL' (pcs N M) t ↔ inL' (pcs nx L) t ∨ (fr ≤ t ∧ t < to) := by
  have hw0 : Wk fr to (-1) [] ⟨[], [], ⟨fr, to⟩⟩ := ⟨h1, h0, h2, fun p hp => by simp at hp, fun p hp => by simp at hp, fun hb => absurd rfl hb, by simp, by simp, fun p hp => by simp at hp, fun p hp => by simp at hp, fun t => by
    simp only [List.nil_append, List.append_nil]
    rw [inL'_one]
    constructor
    · exact fun hx => .inr hx
    · rintro (hx | hx)
      · exact absurd hx (inL'_nil _)
      · exact hx⟩
  have hlo := h.lo
  have hhi := h.hi
  have hw1 := hw0.step (p := ⟨0, nx⟩) (by show (-1 : Int) < 0; omega) hlo (Int.le_refl _) hhi
  obtain ⟨e', hw⟩ := hw1.fold (l := L) hlo h.ch
  have hfold : (pcs nx L).foldl SegI.step ⟨[], [], ⟨fr, to⟩⟩ = L.foldl SegI.step (SegI.step ⟨[], [], ⟨fr, to⟩⟩ ⟨0, nx⟩) := rfl
  have hdone : ([] ++ [⟨0, nx⟩] ++ L : List Sp) = pcs nx L := rfl
  rw [← hfold, hdone] at hw
  have hlen : ∀ (l : List Sp) (s : SegI), (l.foldl SegI.step s).ah.length + (l.foldl SegI.step s).be.length ≤ s.ah.length + s.be.length + l.length := by
    intro l
    induction l with
    | nil => intro s; simp
    | cons p l ih =>
      intro s
      have k := ih (s.step p)
      have k2 : (s.step p).ah.length + (s.step p).be.length ≤ s.ah.length + s.be.length + 1 := by unfold SegI.step; (repeat' split) <;> simp <;> omega
      simp only [List.foldl_cons, List.length_cons]
      omega
  have hl := hlen (pcs nx L) ⟨[], [], ⟨fr, to⟩⟩
  have hhd : Hd nx ((pcs nx L).foldl SegI.step ⟨[], [], ⟨fr, to⟩⟩) := by
    rw [hfold]
    refine Hd.fold ?_ hlo h.ch
    unfold SegI.step
    by_cases c1 : nx < fr
    · rw [if_pos (show (⟨0, nx⟩ : Sp).to < fr from c1)]
      exact .inl ⟨[], rfl⟩
    · rw [if_neg (show ¬ (⟨0, nx⟩ : Sp).to < fr from c1), if_neg (show ¬ to < (⟨0, nx⟩ : Sp).fr by show ¬ to < 0; omega)]
      refine .inr ⟨rfl, ?_⟩
      show smin 0 fr = 0
      unfold smin
      split <;> omega
  generalize (pcs nx L).foldl SegI.step ⟨[], [], ⟨fr, to⟩⟩ = s at hw hl hhd ⊢
  have hall := hw.all
  have hpw : (s.ah ++ [s.ca] ++ s.be).Pairwise (fun p q => p.to < q.fr) := by
    rw [List.pairwise_append, List.pairwise_append]
    refine ⟨⟨hw.pa, by simp, fun a ha b hb => ?_⟩, hw.pb, fun a ha b hb => ?_⟩
    · simp at hb; subst hb; exact (hw.ah a ha).1
    · rcases List.mem_append.1 ha with ha | ha
      · have k1 := (hw.ah a ha).1
        have k2 := (hw.be b hb).1
        have := hw.ne
        omega
      · simp at ha; subst ha; exact (hw.be b hb).1
  have hgood : ∀ p ∈ s.ah ++ [s.ca] ++ s.be, p = ⟨0, nx⟩ ∨ (p.fr < p.to ∧ p.to ≤ 1000000000000) := fun p hp => by
    have hd : ∀ q ∈ pcs nx L, q = ⟨0, nx⟩ ∨ (q.fr < q.to ∧ q.to ≤ 1000000000000) := fun q hq => by
      rcases List.mem_cons.1 hq with rfl | hq
      · exact .inl rfl
      · exact .inr (chain_mem h.ch q hq)
    rcases List.mem_append.1 hp with hp | hp
    · rcases List.mem_append.1 hp with hp | hp
      · exact hd p (hw.al p hp)
      · simp at hp; subst hp; exact .inr ⟨hw.ne, hw.hi⟩
    · exact hd p (hw.bd p hp)
  have hlen2 : (s.ah ++ [s.ca] ++ s.be).length ≤ L.length + 2 := by
    simp only [List.length_append, List.length_singleton]
    have : (pcs nx L).length = L.length + 1 := rfl
    simp only [List.length_nil] at hl
    omega
  show ∃ N M, s.ah ++ [s.ca] ++ s.be = pcs N M ∧ _
  have hq0 : ∃ q r, s.ah ++ [s.ca] ++ s.be = q :: r ∧ q.fr = 0 ∧ 0 ≤ q.to ∧ q.to ≤ 1000000000000 := by
    rcases hhd with ⟨r, hr⟩ | ⟨ha, hf⟩
    · exact ⟨⟨0, nx⟩, r ++ [s.ca] ++ s.be, by simp [hr], rfl, hlo, hhi⟩
    · exact ⟨s.ca, s.be, by simp [ha], hf, by have := hw.ne; omega, hw.hi⟩
  obtain ⟨q, r, hqr, hf, hq1, hq2⟩ := hq0
  have hqe : q = ⟨0, q.to⟩ := by cases q; simp only at hf; rw [hf]
  rw [hqr] at hpw hgood hlen2 hall ⊢
  rw [List.pairwise_cons] at hpw
  refine ⟨q.to, r, by unfold pcs; rw [← hqe], ⟨hq1, hq2, chain_of hpw.2 fun p hp => ⟨hpw.1 p hp, ?_⟩⟩, by simp only [List.length_cons] at hlen2; omega, fun t => ?_⟩
  · rcases hgood p (by simp [hp]) with e | e
    · have := hpw.1 p hp
      rw [e] at this
      simp only at this
      omega
    · exact e
  · have : pcs q.to r = q :: r := by unfold pcs; rw [← hqe]
    rw [this]
    exact hall t

theorem spL_of (l : List Sp) : spL (fun i => l.getD i default) l.length = l := spL_getD l
theorem okS_of : ∀ {l : List Sp} {nx : Int}, chain nx l → okS nx (fun i => l.getD i default) l.length := by
  intro l
  induction l with
  | nil => intro nx _ i hi; simp at hi
  | cons p l ih =>
    intro nx h i hi
    obtain ⟨h1, h2, h3, h4⟩ := h
    cases i with
    | zero => exact ⟨h1, h2, h3⟩
    | succ i =>
      have hk := ih h4 i (by simpa using hi)
      have e1 : endF nx (fun i => (p :: l).getD i default) (i + 1) = endF p.to (fun i => l.getD i default) i := by
        rw [endF_succ]
        cases i with
        | zero => rfl
        | succ j => rw [endF_succ]; simp
      rw [e1]
      simpa using hk

/-- A receiver by its list. -/
def lf (l : List Sp) (i : Nat) : Sp := l.getD i default
theorem seg_next {nx fr to : Int} {L : List Sp} (h : Rv nx L) (h8 : L.length ≤ 7) (h0 : 0 ≤ fr) (h1 : fr < to) (h2 : to ≤ 1000000000000) :
    Rv (outN nx (lf L) L.length fr to) (outL nx (lf L) L.length fr to) ∧ (outL nx (lf L) L.length fr to).length ≤ L.length + 1 ∧ segK nx (lf L) L.length fr to = true ∧
      ∀ t, inL' (pcs (outN nx (lf L) L.length fr to) (outL nx (lf L) L.length fr to)) t ↔ inL' (pcs nx L) t ∨ (fr ≤ t ∧ t < to) := by
  obtain ⟨N, M, e1, e2, e3, e4⟩ := seg_rv h h0 h1 h2
  have hP : segP nx (lf L) L.length fr to := ⟨⟨h.lo, h.hi, by omega, okS_of h.ch⟩, h0, h1, h2⟩
  have hA : segA nx (lf L) L.length fr to = pcs N M := by
    unfold segA segI
    rw [pcL_spL]
    have : spL (lf L) L.length = L := spL_of L
    rw [this]
    exact e1
  have ht : (segA nx (lf L) L.length fr to).tail = M := by rw [hA]; rfl
  have h8' : (segA nx (lf L) L.length fr to).tail.length ≤ 8 := by rw [ht]; omega
  have hN : outN nx (lf L) L.length fr to = N := by unfold outN; rw [if_pos hP, if_pos h8', hA]; rfl
  have hL : outL nx (lf L) L.length fr to = M := by unfold outL; rw [if_pos hP, if_pos h8', ht]
  have hK : segK nx (lf L) L.length fr to = true := by unfold segK; rw [decide_eq_true hP, decide_eq_true h8']; rfl
  rw [hN, hL]
  exact ⟨e2, e3, hK, e4⟩

end Go.Proofs.YtfghnfanimpjjaaDoor
