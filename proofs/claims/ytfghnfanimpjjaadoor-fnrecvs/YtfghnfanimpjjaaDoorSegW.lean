/-
  TWO LISTS OF ONE'S OWN IN TWO BOXES, and what a loop's body owes behind 'a = append(a, s)' at one of them.
-/
import Derived.Test.YtfghnfanimpjjaaDoorSegU
namespace Go.Proofs.YtfghnfanimpjjaaDoor
open Go.RowKit Go.Shelf
set_option linter.unusedVariables false

/-- Two lists of one's own, each in its box, apart from each other. -/
structure Two (n₀ H G : Nat) (t e : TypeId) (size : Nat) (v u : Value) (k m : Nat) (xs ys : List Value) (W : World) : Prop where
  hv : Boxed W H t v
  hu : Boxed W G t u
  rv : W.ownsRow n₀ e size v k xs
  ru : W.ownsRow n₀ e size u m ys
  ap : ∀ j, v.ownBlock = some j → u.ownBlock ≠ some j
theorem Two.swap {n₀ H G : Nat} {t e : TypeId} {size : Nat} {v u : Value} {k m : Nat} {xs ys : List Value} {W : World} (h : Two n₀ H G t e size v u k m xs ys W) : Two n₀ G H t e size u v m k ys xs W :=
  ⟨h.hu, h.hv, h.ru, h.rv, fun j a b => h.ap j b a⟩
theorem Two.alloc {n₀ H G : Nat} {t e : TypeId} {size : Nat} {v u : Value} {k m : Nat} {xs ys : List Value} {W : World} (h : Two n₀ H G t e size v u k m xs ys W) (o : Obj) : Two n₀ H G t e size v u k m xs ys (W.alloc o) :=
  ⟨h.hv.alloc o, h.hu.alloc o, h.rv.alloc o, h.ru.alloc o, h.ap⟩
theorem two_own {β : Type} (n₀ H G : Nat) (t e : TypeId) (size : Nat) (k m : β → Nat) (f g : β → List Value) (P : Value → Value → Prop) : Go.Own (fun s W => ∃ v u, Two n₀ H G t e size v u (k s) (m s) (f s) (g s) W ∧ P v u) := by
  rintro s X Y row ⟨v, u, ⟨hv, hu, rv, ru, ap⟩, hP⟩ hg hrow
  have box : ∀ {B : Nat} {x : Value}, Boxed X B t x → Boxed Y B t x := fun {B x} hb => hb.kept hg (fun e' => by
    obtain ⟨o, ho, hc⟩ := hrow B e'.symm
    rw [show X.heap[B]? = _ from hb] at ho; cases ho; cases hc)
  have own : ∀ {x : Value} {k : Nat} {xs : List Value}, X.ownsRow n₀ e size x k xs → Y.ownsRow n₀ e size x k xs := fun {x k xs} hr => hr.kept hg (by
    rcases hr.2 with ⟨rfl, _⟩ | ⟨g, cap, cur, rfl, _, hgb, _⟩
    · exact .inl rfl
    · refine .inr fun e' => ?_
      obtain ⟨o, ho, hc⟩ := hrow g (by simpa [Value.ownBlock] using e'.symm)
      rw [hgb] at ho; cases ho; cases hc)
  exact ⟨v, u, ⟨box hv, box hu, own rv, own ru, ap⟩, hP⟩
/-- Behind 'a = append(a, s)' at the first of the two. -/
theorem Two.appended {W w1 : World} {n₀ H G b k' cap : Nat} {t e : TypeId} {size : Nat} {v u : Value} {k m p : Nat} {xs ys zs : List Value} {tmp : Obj} (h : Two n₀ H G t e size v u k m xs ys W)
    (hte : t ≠ e) (hHG : H ≠ G) (hn₀ : n₀ ≤ W.heap.size) (hH : n₀ ≤ H) (hown' : w1.ownsRow n₀ e size (.slice (some ⟨b, 0, none⟩) k' cap) p zs) (hgrow : (W.alloc tmp).grownBy w1 v.ownBlock)
    (hlie : v.ownBlock = some b ∨ b = (W.alloc tmp).heap.size) (hlt : b < w1.heap.size) :
    Boxed w1 H t v ∧ Boxed w1 G t u ∧ Two n₀ H G t e size (.slice (some ⟨b, 0, none⟩) k' cap) u p m zs ys (w1.setCell ⟨H, 0, none⟩ (.slice (some ⟨b, 0, none⟩) k' cap)) ∧ KeepsOthers W (w1.setCell ⟨H, 0, none⟩ (.slice (some ⟨b, 0, none⟩) k' cap)) ∧
      Below n₀ W (w1.setCell ⟨H, 0, none⟩ (.slice (some ⟨b, 0, none⟩) k' cap)) ∧ ∀ (own : List Nat) (m₀ : Nat), H ∈ own → (∀ X ∈ own, X = H ∨ X = G) → KpG own n₀ m₀ W (w1.setCell ⟨H, 0, none⟩ (.slice (some ⟨b, 0, none⟩) k' cap)) := by
  obtain ⟨hv1, hv2, hr2, hk2, hb2⟩ := h.hv.appended hte h.rv hn₀ hH hown' hgrow
  have hul := h.ru.lt
  have hvl := h.rv.lt
  have hap : ∀ j, (Value.slice (some ⟨b, 0, none⟩) k' cap).ownBlock = some j → u.ownBlock ≠ some j := fun j hj hu => by
    have : b = j := by simpa [Value.ownBlock] using hj
    subst this
    rcases hlie with hl | hl
    · exact h.ap _ hl hu
    · have := (hul _ hu).2; rw [hl, World.size_alloc] at this; omega
  have hu1 : Boxed w1 G t u := (h.hu.alloc tmp).kept hgrow (h.hu.not_row hte h.rv)
  have ru1 : w1.ownsRow n₀ e size u m ys := (h.ru.alloc tmp).kept hgrow (by
    cases hu : u.ownBlock with
    | none => exact .inl rfl
    | some j => exact .inr (fun e' => h.ap j e'.symm hu))
  have hu2 : Boxed (w1.setCell ⟨H, 0, none⟩ (.slice (some ⟨b, 0, none⟩) k' cap)) G t u := hu1.kept (grownBy_setCell' w1 H _) (by simp; omega)
  have ru2 : (w1.setCell ⟨H, 0, none⟩ (.slice (some ⟨b, 0, none⟩) k' cap)).ownsRow n₀ e size u m ys := ru1.kept (grownBy_setCell' w1 H _) (.inr (hv1.not_row hte ru1).symm)
  refine ⟨hv1, hu1, ⟨hv2, hu2, hr2, ru2, hap⟩, hk2, hb2, fun own m₀ hin hall => ?_⟩
  have hs := hgrow.size
  rw [World.size_alloc] at hs
  have form : ∀ j, v.ownBlock = some j → Owned own W j := fun j hj => by
    rcases h.rv.2 with ⟨rfl, _⟩ | ⟨g0, cap0, cur, rfl, _⟩
    · simp [Value.ownBlock] at hj
    · have : g0 = j := by simpa [Value.ownBlock] using hj
      subst this
      exact ⟨H, hin, k, cap0, h.hv.cell⟩
  have one : ∀ j, Owned own (w1.setCell ⟨H, 0, none⟩ (.slice (some ⟨b, 0, none⟩) k' cap)) j → j = b ∨ (Owned own W j ∧ u.ownBlock = some j) := fun j hj => by
    obtain ⟨X, hX, l, c, hc⟩ := hj
    rcases hall X hX with rfl | rfl
    · rw [hv2.cell] at hc
      simp at hc
      exact .inl hc.1.symm
    · rw [hu2.cell] at hc
      have hc' := Option.some.inj hc
      subst hc'
      exact .inr ⟨⟨X, hX, l, c, h.hu.cell⟩, by simp [Value.ownBlock]⟩
  refine ⟨hb2, by simp [World.setCell]; omega, fun _ j hj => ?_, fun j hj => ?_, fun j c t' _ ho hm hc => ?_⟩
  · rcases one j hj with rfl | ⟨_, h2⟩
    · simpa [World.setCell] using hlt
    · have := (hul _ h2).2
      simp [World.setCell]; omega
  · rcases one j hj with rfl | ⟨h1, _⟩
    · rcases hlie with h | h
      · exact .inl (form _ h)
      · exact .inr (by rw [h, World.size_alloc]; omega)
    · exact .inl h1
  · have hne : j ≠ H := fun e => hm (by rw [e]; exact hin)
    have hjl := (Array.getElem?_eq_some_iff.1 hc).1
    exact (heap_set_ne (p := ⟨H, 0, none⟩) hne _).trans ((hgrow.block j (by rw [World.size_alloc]; omega) (fun e => ho (form j e.symm))).trans ((Below.heap_alloc W tmp j hjl).trans hc))
/-- What lies below the lists stays, but the box. -/
theorem rest_appended {W w1 : World} {n₁ H X : Nat} {v z : Value} {tmp : Obj} (hgrow : (W.alloc tmp).grownBy w1 v.ownBlock) (hfar : ∀ j, v.ownBlock = some j → n₁ ≤ j) (hX : X < n₁) (hXH : X ≠ H) (hXW : X < W.heap.size) : (w1.setCell ⟨H, 0, none⟩ z).heap[X]? = W.heap[X]? :=
  (heap_set_ne (p := ⟨H, 0, none⟩) hXH z).trans ((hgrow.block X (by rw [World.size_alloc]; omega) (fun e => by have := hfar X e.symm; omega)).trans (Below.heap_alloc W tmp X hXW))
/-- A store into a box of one's own that is none of the lists'. -/
theorem KpG.set {own : List Nat} {n₀ m₀ C i : Nat} {W : World} (hn : n₀ ≤ C) (hm : C < m₀) (ho : C ∉ own) (x : Value) : KpG own n₀ m₀ W (W.setCell ⟨C, i, none⟩ x) := by
  have hk : ∀ k, k ≠ C → (W.setCell ⟨C, i, none⟩ x).heap[k]? = W.heap[k]? := fun k hk => heap_set_ne (p := ⟨C, i, none⟩) hk x
  have e : ∀ k, Owned own (W.setCell ⟨C, i, none⟩ x) k → Owned own W k := fun k ⟨H, hH, l, c, h⟩ => ⟨H, hH, l, c, (World.cell?_of_block (a := ⟨H, 0, none⟩) (hk H (fun e => ho (e ▸ hH)))).symm.trans h⟩
  exact ⟨(Below.refl n₀ W).setCell (p := ⟨C, i, none⟩) hn x, by simp [World.setCell], fun hA k hk => by simpa [World.setCell] using hA k (e k hk), fun k hk => .inl (e k hk), fun k c t hm' _ _ h => (hk k (by omega)).trans h⟩
theorem Two.set {n₀ H G C i : Nat} {t e : TypeId} {size : Nat} {v u : Value} {k m : Nat} {xs ys : List Value} {W : World} (h : Two n₀ H G t e size v u k m xs ys W) (hH : H ≠ C) (hG : G ≠ C) (hC : ∀ j, (v.ownBlock = some j ∨ u.ownBlock = some j) → j ≠ C) (x : Value) : Two n₀ H G t e size v u k m xs ys (W.setCell ⟨C, i, none⟩ x) := by
  have hg : W.grownBy (W.setCell ⟨C, i, none⟩ x) (some C) := ⟨rfl, rfl, rfl, (KeepsWalks.setCell W _ x).size, fun k _ hk => Below.heap_setCell _ _ _ k (fun e => hk (by rw [e]))⟩
  exact ⟨h.hv.kept hg (by simp; omega), h.hu.kept hg (by simp; omega), h.rv.kept hg (.inr fun e => hC C (.inl e) rfl), h.ru.kept hg (.inr fun e => hC C (.inr e) rfl), h.ap⟩

end Go.Proofs.YtfghnfanimpjjaaDoor
