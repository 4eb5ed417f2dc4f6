/-
  putTogether OF THE PROGRAM.
-/
import Derived.Test.YtfghnfanimpjjaaDoorSegW
namespace Go.Proofs.YtfghnfanimpjjaaDoor
open Go.RowKit Go.Shelf
set_option linter.unusedVariables false
attribute [local go_sem] Oper.semAt_some

def stI {n : Nat} (nx : Int) (f : Nat → Sp) (ca : Sp) (pre : List (UptoS n)) : SegI := (pre.map fun x => pieceF nx f x.1).foldl SegI.step ⟨[], [], ca⟩
theorem stI_snoc {n : Nat} (nx : Int) (f : Nat → Sp) (ca : Sp) (pre : List (UptoS n)) (x : UptoS n) : stI nx f ca (pre ++ [x]) = (stI nx f ca pre).step (pieceF nx f x.1) := by
  unfold stI; rw [List.map_append, List.foldl_append]; rfl
theorem stI_all {n : Nat} (nx : Int) (f : Nat → Sp) (ca : Sp) (zs : List (UptoS (n + 1))) (h : zs.map (·.1) = List.range (n + 1)) : stI nx f ca zs = segI nx f (n + 1) ca := by
  unfold stI segI pcL
  rw [← h, List.map_map]; rfl
theorem SegI.step_len (s : SegI) (p : Sp) : (s.step p).ah.length + (s.step p).be.length ≤ s.ah.length + s.be.length + 1 := by
  unfold SegI.step; (repeat' split) <;> simp <;> omega
theorem stI_len {n : Nat} (nx : Int) (f : Nat → Sp) (ca : Sp) (pre : List (UptoS n)) : (stI nx f ca pre).ah.length + (stI nx f ca pre).be.length ≤ pre.length := by
  suffices H : ∀ (l : List Sp) (s : SegI), (l.foldl SegI.step s).ah.length + (l.foldl SegI.step s).be.length ≤ s.ah.length + s.be.length + l.length by
    have := H (pre.map fun x => pieceF nx f x.1) ⟨[], [], ca⟩
    simpa [stI] using this
  intro l
  induction l with
  | nil => intro s; simp
  | cons p l ih => intro s; have h1 := ih (s.step p); have h2 := s.step_len p; simp only [List.foldl_cons, List.length_cons]; omega
theorem OS.up {base b' : Nat} {w : World} {x : Option Addr} {cap : Nat} {l : List Sp} (h : OS base w x cap l) (hb : ∀ j, (Value.slice x l.length cap).ownBlock = some j → b' ≤ j) : OS b' w x cap l := by
  obtain ⟨hl, ⟨hv, h0⟩ | ⟨g, cp, cur, hv, hbs, hh, h1, h2, h3, h4⟩⟩ := h
  · exact ⟨hl, .inl ⟨hv, h0⟩⟩
  · exact ⟨hl, .inr ⟨g, cp, cur, hv, hb g (by rw [hv]; rfl), hh, h1, h2, h3, h4⟩⟩
theorem OS.own_ge {base k : Nat} {w : World} {x : Option Addr} {cap : Nat} {l : List Sp} (h : OS base w x cap l) (hk : l.length = k) : ∀ j, (Value.slice x k cap).ownBlock = some j → base ≤ j := fun j hj => (World.ownsRow.lt h j (by rw [hk]; exact hj)).1
/-- Both lists lie from n₁ on. -/
def FarV (n₁ : Nat) (v u : Value) : Prop := ∀ j, (v.ownBlock = some j ∨ u.ownBlock = some j) → n₁ ≤ j

set_option maxRecDepth 1000000 in
theorem field_list (x : Option Addr) (m c : Nat) (w : World) : Sem.run Tryd.prog (Instr.field 44 (.agg #[.slice x m c]) 0) w = .ok (.slice x m c) w := by
  rfl
attribute [local go_sem ↓] field_list

set_option maxRecDepth 100000 in
set_option maxHeartbeats 4000000 in
theorem iput_any (nx : Int) (a : Option Addr) (n c : Nat) (f : Nat → Sp) (fr to : Int) (w : World) (hP : SR w.heap.size w a n f) (hS : segP nx f n fr to) :
    Calls Tryd.prog 14 #[rcVal nx a n c, (⟨fr, to⟩ : Sp).val] w fun e w' => ∃ (x : Option Addr) (cap : Nat), e = .returned (rcVal ((segA nx f n fr to).headD default).to x (segA nx f n fr to).tail.length cap) ∧ OS w.heap.size w' x cap (segA nx f n fr to).tail ∧ Below w.heap.size w w' := by
  have HP : Hid (∀ V, Below w.heap.size w V → SR w.heap.size V a n f) := fun V h => SR.below hP h
  have HSP : Hid (segP nx f n fr to) := hS
  have HRP : Hid (recvP nx f n) := hS.1
  clear hP hS
  refine (callsIn_wide (n := 6)).1 ?_
  have hro : Fence.wide.round = none := rfl
  refine callsIn_of_wp_marks Tryd.func14 rfl trivial ?_ hro
  simp only [Tryd.ntmps14, List.size_toArray, List.length_cons, List.length_nil, Nat.reduceAdd, Nat.reduceSub, Array.replicate_succ, Array.replicate_zero, List.push_toArray, List.append_toArray, List.nil_append, List.cons_append]
  obtain ⟨i0, hi, hz0, hz1, hz2⟩ := infoSpan_parts
  gi_wp2_with (refine ⟨trivial, ?_⟩; gi_at_call 18; refine (pieces_in 5 _ _ _ _ _).mono ?_; rintro e w' ⟨rfl, rfl⟩)
  obtain ⟨B, hB⟩ : ∃ B, w.heap.size = B := ⟨_, rfl⟩
  obtain ⟨V0, hV0⟩ : ∃ V, (((((w.alloc (.cells #[.int .i64 nx, .slice a n c] 25)).alloc (.cells #[.int .i64 fr, .int .i64 to] 34)).alloc (.cells #[.int .i64 0, .slice none 0 0] 25)).alloc (.cells #[.slice none 0 0] 23)).alloc (.cells #[.slice none 0 0] 23)).alloc (.cells (rcCells nx a n c) 25) = V := ⟨_, rfl⟩
  have hzV : V0.heap.size = w.heap.size + 1 + 1 + 1 + 1 + 1 + 1 := by rw [← hV0]; simp
  have bV : Below w.heap.size w V0 := by rw [← hV0]; exact ((((((Below.refl _ w).alloc (Nat.le_refl _) _).alloc (by simp) _).alloc (by simp; omega) _).alloc (by simp; omega) _).alloc (by simp; omega) _).alloc (by simp; omega) _
  have sC : Sits V0 (w.heap.size + 1) (spCells ⟨fr, to⟩) 34 := by rw [← hV0]; exact ((((Sits.new' (by simp)).alloc _).alloc _).alloc _).alloc _
  have sR : Sits V0 (w.heap.size + 1 + 1) (rcCells 0 none 0 0) 25 := by rw [← hV0]; exact (((Sits.new' (by simp)).alloc _).alloc _).alloc _
  have bA : Boxed V0 (w.heap.size + 1 + 1 + 1) 23 (.slice none 0 0) := by rw [← hV0]; exact ((Sits.new' (by simp)).alloc _).alloc _
  have bH : Boxed V0 (w.heap.size + 1 + 1 + 1 + 1) 23 (.slice none 0 0) := by rw [← hV0]; exact (Sits.new' (by simp)).alloc _
  have sB : Sits V0 (w.heap.size + 1 + 1 + 1 + 1 + 1) (rcCells nx a n c) 25 := by rw [← hV0]; exact Sits.new' (by simp)
  change Code.wpIn _ _ _ _ _ _ ((((((w.alloc (.cells #[.int .i64 nx, .slice a n c] 25)).alloc (.cells #[.int .i64 fr, .int .i64 to] 34)).alloc (.cells #[.int .i64 0, .slice none 0 0] 25)).alloc (.cells #[.slice none 0 0] 23)).alloc (.cells #[.slice none 0 0] 23)).alloc (.cells (rcCells nx a n c) 25))
  rw [hV0]
  clear hV0
  rw [hB] at hzV bV sC sR bA bH sB ⊢
  have hoO : ∀ k, ¬ Owned [B + 1 + 1 + 1, B + 1 + 1 + 1 + 1] V0 k := fun k ⟨H, hH, l, c', hc⟩ => by
    have : H = B + 1 + 1 + 1 ∨ H = B + 1 + 1 + 1 + 1 := by simpa using hH
    rcases this with rfl | rfl
    · rw [bA.cell] at hc; simp at hc
    · rw [bH.cell] at hc; simp at hc
  have hoH : ∀ H ∈ [B + 1 + 1 + 1, B + 1 + 1 + 1 + 1], H < V0.heap.size := fun H hH => by
    have : H = B + 1 + 1 + 1 ∨ H = B + 1 + 1 + 1 + 1 := by simpa using hH
    omega
  have hP1 : SR B V0 a n f := hB ▸ HP.out _ (hB ▸ bV)
  refine wpIn_rangeFunc_ownH hro (by omega) (gf := 23) (lb := #[.pointer (some ⟨B + 1 + 1 + 1 + 1 + 1, 0, none⟩)]) rfl trivial (enters_of Tryd.func23 (by kernel_rfl) rfl)
    (pieces_stopsG [B + 1 + 1 + 1, B + 1 + 1 + 1 + 1] 5 (by omega) (B + 1 + 1 + 1 + 1 + 1) B (B + 1 + 1 + 1 + 1 + 1) n c a f nx (HRP.out).2.2.1 V0 hoH hoO (by simp; omega) (Nat.le_refl _) sB (by omega) (by omega) hP1 (HRP.out).2.2.2) kpG_t (kpG_b (by omega) hoH) (Below.refl _ _) (fun _ => rfl)
    (fun pre W => (∃ v u, Two B (B + 1 + 1 + 1) (B + 1 + 1 + 1 + 1) 23 34 2 v u (stI nx f ⟨fr, to⟩ pre).ah.length (stI nx f ⟨fr, to⟩ pre).be.length (cellsP (stI nx f ⟨fr, to⟩ pre).ah) (cellsP (stI nx f ⟨fr, to⟩ pre).be) W ∧ FarV (B + 1 + 1 + 1 + 1 + 1 + 1) v u) ∧
      Sits W (B + 1) (spCells (stI nx f ⟨fr, to⟩ pre).ca) 34 ∧ Sits W (B + 1 + 1) (rcCells 0 none 0 0) 25 ∧ B + 1 + 1 + 1 + 1 + 1 + 1 ≤ W.heap.size ∧ Below B w W)
    (fun _ _ _ => False)
    (OwnFrom.and (Go.Own.from (two_own B (B + 1 + 1 + 1) (B + 1 + 1 + 1 + 1) 23 34 2 (fun pre => (stI nx f ⟨fr, to⟩ pre).ah.length) (fun pre => (stI nx f ⟨fr, to⟩ pre).be.length) (fun pre => cellsP (stI nx f ⟨fr, to⟩ pre).ah) (fun pre => cellsP (stI nx f ⟨fr, to⟩ pre).be) (FarV (B + 1 + 1 + 1 + 1 + 1 + 1))) _)
      (OwnFrom.and (Go.Own.from (fun s X Y row h hg hr => sits_own (B + 1) (spCells (stI nx f ⟨fr, to⟩ s).ca) 34 () X Y row h hg hr) _) (OwnFrom.and (Go.Own.from (sits_own (B + 1 + 1) (rcCells 0 none 0 0) 25) _) (OwnFrom.and (fun s X Y row h hg hr => Nat.le_trans h hg.size) (ownFrom_below (by omega) (by omega))))))
    (fun c => ownFrom_pure _ _)
    ⟨⟨_, _, ⟨bA, bH, World.ownsRow_nil _ _ _ _, World.ownsRow_nil _ _ _ _, fun j hj => by simp [Value.ownBlock] at hj⟩, fun j hj => by simp [Value.ownBlock] at hj⟩, sC, sR, by omega, bV⟩
    (fun y a' W => ∃ Bx, B + 1 + 1 + 1 + 1 + 1 < Bx ∧ Sits W Bx (spCells (pieceF nx f y.1)) 34 ∧ a' = { tmps := #[rcVal nx a n c, (⟨fr, to⟩ : Sp).val, .pointer (some ⟨B, 0, none⟩), .pointer (some ⟨B + 1, 0, none⟩), .pointer (some ⟨B + 1 + 1, 0, none⟩), .pointer (some ⟨B + 1 + 1 + 1, 0, none⟩), .pointer (some ⟨B + 1 + 1 + 1 + 1, 0, none⟩), undef, .pointer (some ⟨Bx, 0, none⟩), undef, .agg #[.int .i64 nx, .slice a n c], .func (.func 23) #[] #[.pointer (some ⟨B + 1 + 1 + 1 + 1 + 1, 0, none⟩)], .int .i64 (aheadF nx f y.1), (pieceF nx f y.1).val, undef, undef, undef, undef, undef, undef, undef, undef, undef, undef, undef, undef, undef, undef, undef, undef, undef, undef, undef, undef, undef, undef, undef, undef, undef, undef, undef, undef, undef, undef, undef, undef, undef, undef, undef, undef, undef, undef, undef, undef, undef, undef, undef, undef, undef, undef], defers := [] })
    (fun x a' _ X Y row hs hg hr => by obtain ⟨Bx, e1, e2, e3⟩ := hs; exact ⟨Bx, e1, sits_own Bx _ _ () X Y row e2 hg (fun r e => (hr r e).2), e3⟩)
    ?assign ?body ?done ?stop
  case assign =>
    rintro lp pre y W K ⟨⟨v, u, h2, hf⟩, hC, hR, hz6, hBW⟩ hK
    have hsW := hBW.size
    rw [hB] at hsW
    have hvl := h2.hu.lt
    have hoW : ∀ H ∈ [B + 1 + 1 + 1, B + 1 + 1 + 1 + 1], H < W.heap.size := fun H hH => by
      have : H = B + 1 + 1 + 1 ∨ H = B + 1 + 1 + 1 + 1 := by simpa using hH
      omega
    have hbs : B + 1 + 1 + 1 + 1 + 1 < W.heap.size := by omega
    gi_wp2
    exact hK _ _ ((KeepsOthers.alloc _ _).from _) (KpG.later ((Below.refl _ W).alloc (Nat.le_refl _) _) hsW hoW) ⟨⟨v, u, h2.alloc _, hf⟩, hC.alloc _, hR.alloc _, by rw [World.size_alloc]; omega, hBW.alloc hsW _⟩ ⟨W.heap.size, hbs, Sits.new W _ _, rfl⟩
  case body =>
    rintro lp pre y a' W hl ⟨r, hr⟩ ⟨⟨v, u, h2, hf⟩, hC, hR, hz6, hBW⟩ ⟨Bx, hBx, bX, rfl⟩ hlt2
    obtain ⟨T, hT⟩ : ∃ T, stI nx f ⟨fr, to⟩ pre = T := ⟨_, rfl⟩
    have hTl := stI_len nx f ⟨fr, to⟩ pre
    rw [hT] at h2 hC hTl
    have HT : Hid (stI nx f ⟨fr, to⟩ (pre ++ [y]) = T.step (pieceF nx f y.1)) := (stI_snoc nx f ⟨fr, to⟩ pre y).trans (by rw [hT])
    obtain ⟨P, hPy⟩ : ∃ P, pieceF nx f y.1 = P := ⟨_, rfl⟩
    rw [hPy] at bX HT
    rw [hPy]
    clear hT hPy
    have q0 : W.cell? ⟨Bx, 0, none⟩ = some (.int .i64 P.fr) := bX.cell 0
    have q1 : W.cell? ⟨Bx, 1, none⟩ = some (.int .i64 P.to) := bX.cell 1
    have c0 : W.cell? ⟨B + 1, 0, none⟩ = some (.int .i64 T.ca.fr) := hC.cell 0
    have c1 : W.cell? ⟨B + 1, 1, none⟩ = some (.int .i64 T.ca.to) := hC.cell 1
    have hsW := hBW.size
    rw [hB] at hsW
    have h8 := (HRP.out).2.2.1
    have hcv := h2.hv.cell
    have hcu := h2.hu.cell
    have HF : Hid (FarV (B + 1 + 1 + 1 + 1 + 1 + 1) v u) := hf
    have H2 : Hid (Two B (B + 1 + 1 + 1) (B + 1 + 1 + 1 + 1) 23 34 2 v u T.ah.length T.be.length (cellsP T.ah) (cellsP T.be) W) := h2
    clear hf
    by_cases t0 : P.to < T.ca.fr
    · have hst : T.step P = { T with ah := T.ah ++ [P] } := by unfold SegI.step; rw [if_pos t0]
      have HT' : Hid (stI nx f ⟨fr, to⟩ (pre ++ [y]) = { T with ah := T.ah ++ [P] }) := HT.out.trans hst
      clear hst HT
      gi_wp2_with (gi_at_builtin; refine wpListIn_append_lies _ rfl _ _ 23 rfl B 34 i0 (.agg #[.int .i64 0, .int .i64 0]) 2 16 Tryd.underlying23 hi hz0 hz1 hz2 rfl (by decide) _ _ _ rfl (h2.rv.alloc _) ⟨W.heap.size, 0, none⟩ 1 1 [.int .i64 P.fr, .int .i64 P.to] rfl rfl (cells_two_new _ _ _ _) (by simp [Value.oneCell']) (by omega) (by unfold maxLen; omega) (by omega) (by simp; omega) ?_; intro g' cap' w2 hown' hgrow hlie hlt3; obtain ⟨hv1, hu1, two', hk2, hb2, hkp⟩ := h2.appended (by decide) (by omega) hsW (by omega) hown' hgrow hlie hlt3; have hc1 := hv1.cell; have hf1 := hv1.frozen)
      have hgs := hgrow.size
      rw [World.size_alloc] at hgs
      have hfar : ∀ j, v.ownBlock = some j → B + 1 + 1 + 1 + 1 + 1 + 1 ≤ j := fun j h => HF.out j (.inl h)
      have hg6 : B + 1 + 1 + 1 + 1 + 1 + 1 ≤ g' := hlie.elim (fun h => hfar _ h) (fun h => by rw [h, World.size_alloc]; omega)
      refine ⟨hk2.from _, hkp _ _ (by simp) (fun X hX => by simp at hX; omega), ?_⟩
      dsimp only
      rw [HT'.out]
      exact ⟨⟨_, u, by simp only [List.length_append, List.length_singleton, cellsP_app]; exact two', fun j hj => by
        rcases hj with hj | hj
        · have : g' = j := by simpa [Value.ownBlock] using hj
          omega
        · exact HF.out j (.inr hj)⟩,
        (rest_appended hgrow hfar (by omega) (by omega) (by omega)).trans hC, (rest_appended hgrow hfar (by omega) (by omega) (by omega)).trans hR, by simp [World.setCell]; omega, hBW.trans hb2⟩
    · by_cases t1 : T.ca.to < P.fr
      · have hst : T.step P = { T with be := T.be ++ [P] } := by unfold SegI.step; rw [if_neg t0, if_pos t1]
        have HT' : Hid (stI nx f ⟨fr, to⟩ (pre ++ [y]) = { T with be := T.be ++ [P] }) := HT.out.trans hst
        clear hst HT
        have d0 : decide (P.to < T.ca.fr) = false := decide_eq_false t0
        gi_wp2_with (gi_at_builtin; refine wpListIn_append_lies _ rfl _ _ 23 rfl B 34 i0 (.agg #[.int .i64 0, .int .i64 0]) 2 16 Tryd.underlying23 hi hz0 hz1 hz2 rfl (by decide) _ _ _ rfl (h2.ru.alloc _) ⟨W.heap.size, 0, none⟩ 1 1 [.int .i64 P.fr, .int .i64 P.to] rfl rfl (cells_two_new _ _ _ _) (by simp [Value.oneCell']) (by omega) (by unfold maxLen; omega) (by omega) (by simp; omega) ?_; intro g' cap' w2 hown' hgrow hlie hlt3; obtain ⟨hv1, hu1, two', hk2, hb2, hkp⟩ := h2.swap.appended (by decide) (by omega) hsW (by omega) hown' hgrow hlie hlt3; have hc1 := hv1.cell; have hf1 := hv1.frozen)
        have hgs := hgrow.size
        rw [World.size_alloc] at hgs
        have hfar : ∀ j, u.ownBlock = some j → B + 1 + 1 + 1 + 1 + 1 + 1 ≤ j := fun j h => HF.out j (.inr h)
        have hg6 : B + 1 + 1 + 1 + 1 + 1 + 1 ≤ g' := hlie.elim (fun h => hfar _ h) (fun h => by rw [h, World.size_alloc]; omega)
        refine ⟨hk2.from _, hkp _ _ (by simp) (fun X hX => by simp at hX; omega), ?_⟩
        dsimp only
        rw [HT'.out]
        exact ⟨⟨v, _, by simp only [List.length_append, List.length_singleton, cellsP_app]; exact two'.swap, fun j hj => by
          rcases hj with hj | hj
          · exact HF.out j (.inl hj)
          · have : g' = j := by simpa [Value.ownBlock] using hj
            omega⟩,
          (rest_appended hgrow hfar (by omega) (by omega) (by omega)).trans hC, (rest_appended hgrow hfar (by omega) (by omega) (by omega)).trans hR, by simp [World.setCell]; omega, hBW.trans hb2⟩
      · have hst : T.step P = { T with ca := ⟨smin P.fr T.ca.fr, smax P.to T.ca.to⟩ } := by unfold SegI.step; rw [if_neg t0, if_neg t1]
        have HT' : Hid (stI nx f ⟨fr, to⟩ (pre ++ [y]) = { T with ca := ⟨smin P.fr T.ca.fr, smax P.to T.ca.to⟩ }) := HT.out.trans hst
        clear hst HT
        have d0 : decide (P.to < T.ca.fr) = false := decide_eq_false t0
        have d1 : decide (T.ca.to < P.fr) = false := decide_eq_false t1
        have hfz := Sits.frozen hC
        have HKEY : Hid (∀ (q : Nat) (x z : Int), x = smin P.fr T.ca.fr → z = smax P.to T.ca.to → KeepsFrom q W ((W.setCell ⟨B + 1, 0, none⟩ (.int .i64 x)).setCell ⟨B + 1, 1, none⟩ (.int .i64 z)) ∧ KpG [B + 1 + 1 + 1, B + 1 + 1 + 1 + 1] B (B + 1 + 1 + 1 + 1 + 1) W ((W.setCell ⟨B + 1, 0, none⟩ (.int .i64 x)).setCell ⟨B + 1, 1, none⟩ (.int .i64 z)) ∧
            (∃ v u, Two B (B + 1 + 1 + 1) (B + 1 + 1 + 1 + 1) 23 34 2 v u (stI nx f ⟨fr, to⟩ (pre ++ [y])).ah.length (stI nx f ⟨fr, to⟩ (pre ++ [y])).be.length (cellsP (stI nx f ⟨fr, to⟩ (pre ++ [y])).ah) (cellsP (stI nx f ⟨fr, to⟩ (pre ++ [y])).be) ((W.setCell ⟨B + 1, 0, none⟩ (.int .i64 x)).setCell ⟨B + 1, 1, none⟩ (.int .i64 z)) ∧ FarV (B + 1 + 1 + 1 + 1 + 1 + 1) v u) ∧
            Sits ((W.setCell ⟨B + 1, 0, none⟩ (.int .i64 x)).setCell ⟨B + 1, 1, none⟩ (.int .i64 z)) (B + 1) (spCells (stI nx f ⟨fr, to⟩ (pre ++ [y])).ca) 34 ∧ Sits ((W.setCell ⟨B + 1, 0, none⟩ (.int .i64 x)).setCell ⟨B + 1, 1, none⟩ (.int .i64 z)) (B + 1 + 1) (rcCells 0 none 0 0) 25 ∧ B + 1 + 1 + 1 + 1 + 1 + 1 ≤ ((W.setCell ⟨B + 1, 0, none⟩ (.int .i64 x)).setCell ⟨B + 1, 1, none⟩ (.int .i64 z)).heap.size ∧ Below B w ((W.setCell ⟨B + 1, 0, none⟩ (.int .i64 x)).setCell ⟨B + 1, 1, none⟩ (.int .i64 z))) := by
          rintro q x z rfl rfl
          rw [HT'.out]
          have hfar : ∀ j, (v.ownBlock = some j ∨ u.ownBlock = some j) → j ≠ B + 1 := fun j hj e => by have := HF.out j hj; omega
          exact ⟨((KeepsOthers.setCell _ _ _).trans (KeepsOthers.setCell _ _ _)).from _, kpG_t (KpG.set (by omega) (by omega) (by simp) _) (KpG.set (by omega) (by omega) (by simp) _),
            ⟨v, u, (H2.out.set (by omega) (by omega) hfar _).set (by omega) (by omega) hfar _, HF.out⟩, Sits.set (Sits.set hC 0 _) 1 _, (heap_set_ne (p := ⟨B + 1, 1, none⟩) (by show B + 1 + 1 ≠ B + 1; omega) _).trans ((heap_set_ne (p := ⟨B + 1, 0, none⟩) (by show B + 1 + 1 ≠ B + 1; omega) _).trans hR), by simp [World.setCell]; omega, (hBW.setCell (by show B ≤ B + 1; omega) _).setCell (by show B ≤ B + 1; omega) _⟩
        clear HT' h2 hC
        gi_wp2
        all_goals first | exact HKEY.out _ T.ca.fr T.ca.to (by unfold smin; split <;> omega) (by unfold smax; split <;> omega) | exact HKEY.out _ T.ca.fr P.to (by unfold smin; split <;> omega) (by unfold smax; split <;> omega) | exact HKEY.out _ P.fr T.ca.to (by unfold smin; split <;> omega) (by unfold smax; split <;> omega) | exact HKEY.out _ P.fr P.to (by unfold smin; split <;> omega) (by unfold smax; split <;> omega)
  case done =>
    rintro D zs W hD hz ⟨⟨v, u, h2, hf⟩, hC, hR, hz6, hBW⟩ hK
    have hzl : zs.length = n + 1 := by have := congrArg List.length hz; simpa using this
    have hTl := stI_len nx f ⟨fr, to⟩ zs
    have hSE := stI_all nx f ⟨fr, to⟩ zs hz
    rw [hSE] at h2 hC hTl
    obtain ⟨T, hT⟩ : ∃ T, segI nx f (n + 1) ⟨fr, to⟩ = T := ⟨_, rfl⟩
    rw [hT] at h2 hC hTl
    have HT : Hid (segI nx f (n + 1) ⟨fr, to⟩ = T) := hT
    have h8 := (HRP.out).2.2.1
    rw [hzl] at hTl
    clear hz hzl hSE hT
    obtain ⟨h2v, h2u, r1, r2, ap⟩ := h2
    obtain ⟨x1, cp1, rfl, o1⟩ := os_of r1
    obtain ⟨x2, cp2, rfl, o2⟩ := os_of r2
    have hcv := h2v.cell
    have hcu := h2u.cell
    have c0 : W.cell? ⟨B + 1, 0, none⟩ = some (.int .i64 T.ca.fr) := hC.cell 0
    have c1 : W.cell? ⟨B + 1, 1, none⟩ = some (.int .i64 T.ca.to) := hC.cell 1
    have HF : Hid (FarV (B + 1 + 1 + 1 + 1 + 1 + 1) (.slice x1 T.ah.length cp1) (.slice x2 T.be.length cp2)) := hf
    have HR : Hid (Sits W (B + 1 + 1) (rcCells 0 none 0 0) 25) := hR
    have HO1 : Hid (OS (B + 1 + 1 + 1 + 1 + 1 + 1) (W.drew.alloc (.cells #[.int .i64 T.ca.fr, .int .i64 T.ca.to] 34)) x1 cp1 T.ah) := World.ownsRow.alloc (w := W.drew) (OS.up o1 fun j h => HF.out j (.inl h)) _
    have HO2 : Hid (OS (B + 1 + 1 + 1 + 1 + 1 + 1) (W.drew.alloc (.cells #[.int .i64 T.ca.fr, .int .i64 T.ca.to] 34)) x2 cp2 T.be) := World.ownsRow.alloc (w := W.drew) (OS.up o2 fun j h => HF.out j (.inr h)) _
    have HAP : Hid (∀ j, (Value.slice x1 T.ah.length cp1).ownBlock = some j → (Value.slice x2 T.be.length cp2).ownBlock ≠ some j) := ap
    have HSR : Hid (SR (W.heap.size + 1) (W.drew.alloc (.cells #[.int .i64 T.ca.fr, .int .i64 T.ca.to] 34)) (some ⟨W.heap.size, 0, none⟩) 1 (fun _ => T.ca)) := .inr ⟨W.heap.size, 0, rfl, by omega, fun i hi => match i, hi with | 0, _ => ⟨World.cell?_alloc_new W.drew _ _ 0, World.cell?_alloc_new W.drew _ _ 1⟩⟩
    have HU : Hid (∀ w1, (W.drew.alloc (.cells #[.int .i64 T.ca.fr, .int .i64 T.ca.to] 34)).grownBy w1 (Value.slice x1 T.ah.length cp1).ownBlock → SR w1.heap.size w1 x2 T.be.length (fun i => T.be.getD i default)) := fun w1 hg => ZS.sr (OS.zs (base := B + 1 + 1 + 1 + 1 + 1 + 1) (cap := cp2) (l := T.be) (World.ownsRow.kept HO2.out hg (by
      cases hu : (Value.slice x2 T.be.length cp2).ownBlock with
      | none => exact .inl rfl
      | some j => exact .inr (fun e' => HAP.out j e'.symm hu))))
    clear h2v h2u r1 r2 ap o1 o2 hf hR hC
    gi_wp2
    refine wpIn_wide.2 ?_
    go_region_held3 (fun w' => w'.cell? ⟨B + 1 + 1 + 1, 0, none⟩ = some (.slice x1 T.ah.length cp1) ∧ w'.cell? ⟨B + 1 + 1 + 1 + 1, 0, none⟩ = some (.slice x2 T.be.length cp2) ∧ w'.cell? ⟨B + 1, 0, none⟩ = some (.int .i64 T.ca.fr) ∧ w'.cell? ⟨B + 1, 1, none⟩ = some (.int .i64 T.ca.to))
      (first | go_keep | (refine ⟨(hcf2 _ 0 (by omega)).trans ((hcf _ 0 (by omega)).trans (by simp [go_sem, hcv])), (hcf2 _ 0 (by omega)).trans ((hcf _ 0 (by omega)).trans (by simp [go_sem, hcu])), (hcf2 _ 0 (by omega)).trans ((hcf _ 0 (by omega)).trans (by simp [go_sem, c0])), (hcf2 _ 1 (by omega)).trans ((hcf _ 1 (by omega)).trans (by simp [go_sem, c1]))⟩) | (refine ⟨(hcf _ 0 (by omega)).trans (by simp [go_sem, hcv]), (hcf _ 0 (by omega)).trans (by simp [go_sem, hcu]), (hcf _ 0 (by omega)).trans (by simp [go_sem, c0]), (hcf _ 1 (by omega)).trans (by simp [go_sem, c1])⟩))
      (first | (refine step_append_sp (by rfl) _ _ (by rfl) (B + 1 + 1 + 1 + 1 + 1 + 1) x1 cp1 T.ah T.ah.length rfl (by rfl) HO1.out (some ⟨W.heap.size, 0, none⟩) 1 1 (fun _ => T.ca) (by rfl) (SR.mono HSR.out (by simp)) (by omega) (by omega) (by simp; omega) ?_; intro x3 cp3 w1 ho3 hg1; obtain ⟨hcf, hff⟩ := grown_cellsS (H := B + 1 + 1 + 1 + 1 + 1 + 1) hg1 (by simp; omega) (fun k e => HF.out k (.inl e))) | (refine step_append_sp (by rfl) _ _ (by rfl) (B + 1 + 1 + 1 + 1 + 1 + 1) x3 cp3 (T.ah ++ spL (fun _ => T.ca) 1) (T.ah.length + 1) (by simp [spL]) (by rfl) ho3 x2 T.be.length cp2 (fun i => T.be.getD i default) (by rfl) (HU.out _ hg1) (by omega) (by omega) (by have := hg1.size; simp at this; omega) ?_; intro x4 cp4 w2 ho4 hg2; obtain ⟨hcf2, hff2⟩ := grown_cellsS (H := B + 1 + 1 + 1 + 1 + 1 + 1) hg2 (by have := hg1.size; simp at this; omega) (fun k e => (OS.own_ge ho3 (by simp [spL]) k e))))
    have hgd : ∀ (w' w'' : World) (y : Option Addr) (k cp : Nat) (xs : List Value) (l : Nat), w'.ownsRow (B + 1 + 1 + 1 + 1 + 1 + 1) 34 2 (.slice y k cp) l xs → w'.grownBy w'' (Value.slice y k cp).ownBlock → w'.heap[D]? = some (.deferred (some [])) → w''.heap[D]? = some (.deferred (some [])) := fun w' w'' y k cp xs l ho hg hd => by
      refine (hg.block D (Array.getElem?_eq_some_iff.1 hd).1 (fun e => ?_)).trans hd
      rcases ho.2 with ⟨hv, _⟩ | ⟨g, cap, cur, hv, _, hh, _⟩
      · rw [hv] at e; simp [Value.ownBlock] at e
      · rw [hv] at e
        have : D = g := by simpa [Value.ownBlock] using e
        subst this
        rw [hd] at hh; cases hh
    have hk1 : w1.heap[D]? = some (.deferred (some [])) := hgd _ w1 x1 T.ah.length cp1 _ _ HO1.out hg1 ((Below.heap_alloc W.drew _ D (Array.getElem?_eq_some_iff.1 hK).1).trans hK)
    have hk2 : w2.heap[D]? = some (.deferred (some [])) := hgd w1 w2 x3 _ cp3 _ _ ho3 (by simpa [spL] using hg2) hk1
    obtain ⟨L, hL⟩ : ∃ L, T.ah ++ spL (fun _ => T.ca) 1 ++ spL (fun i => T.be.getD i default) T.be.length = L := ⟨_, rfl⟩
    have hLA : L = segA nx f n fr to := by rw [← hL]; unfold segA SegI.all; rw [HT.out, spL_getD]; rfl
    rw [hL] at ho4
    have hLl : T.ah.length + 1 + T.be.length = L.length := by rw [← hL]; simp [spL]; omega
    rw [hLl]
    cases L with
    | nil => simp at hLl
    | cons q r =>
    have HLA : Hid (q :: r = segA nx f n fr to) := hLA
    have hzs := ZS.sr (OS.zs ho4)
    have hbl : Below B w w2 := (Below.drew (hBW.alloc (by omega) (.cells #[.int .i64 T.ca.fr, .int .i64 T.ca.to] 34))).grown hg1 (by simp; omega) (fun j e => by have := HF.out j (.inl e); omega) |>.grown hg2 (by have := hg1.size; simp at this; omega) (fun j e => by have := OS.own_ge ho3 (by simp [spL]) j e; omega)
    have hR2 : Sits w2 (B + 1 + 1) (rcCells 0 none 0 0) 25 := by
      have s1 := hg1.size
      simp at s1
      exact (hg2.block _ (by omega) (fun e => by have := OS.own_ge ho3 (by simp [spL]) _ e.symm; omega)).trans ((hg1.block _ (by simp; omega) (fun e => by have := HF.out _ (.inl e.symm); omega)).trans ((Below.heap_alloc W _ (B + 1 + 1) (by omega)).trans HR.out))
    obtain ⟨g, off, rfl, hgl, hcs⟩ := SR.at hzs (show 0 < (q :: r).length by simp)
    have d0 := (hcs 0 (by simp)).1
    have d1 := (hcs 0 (by simp)).2
    simp only [Nat.zero_mul, Nat.add_zero, List.getD_cons_zero, List.length_cons] at d0 d1 ⊢
    have hg6 : B + 1 + 1 + 1 + 1 + 1 + 1 ≤ g := OS.own_ge ho4 rfl g (by simp [Value.ownBlock])
    have hcp := os_le ho4
    simp only [List.length_cons] at hcp
    have HSQ : Hid (∀ V, Below w2.heap.size w2 V → SR V.heap.size V (some ⟨g, off + 2, none⟩) r.length (fun i => r.getD i default)) := fun V hV => .inr ⟨g, off + 2, rfl, Nat.lt_of_lt_of_le hgl hV.size, fun i hi => by
      have := (hcs (i + 1) (by simp; omega)).below hV hgl
      rw [show off + (i + 1) * 2 = off + 2 + i * 2 by omega] at this
      simpa using this⟩
    have hr8 : r.length ≤ 9 := by simp at hLl; omega
    have HR2 : Hid (Sits w2 (B + 1 + 1) (rcCells 0 none 0 0) 25) := hR2
    clear hcs hzs
    have hr1 : (0 : Int) ≤ (r.length : Int) := by omega
    have hr2 : (r.length : Int) + 1 ≤ (cp4 : Int) := by omega
    by_cases hc1 : cp4 = 1
    · subst hc1
      have hr0 : r.length = 0 := by omega
      rw [hr0]
      gi_wp2
      refine wpIn_wide.2 ?_
      go_region_held3 (fun w' => w'.cell? ⟨g, off, none⟩ = some (.int .i64 q.fr) ∧ w'.cell? ⟨g, off + 1, none⟩ = some (.int .i64 q.to)) (first | go_keep | (exact ⟨(b3.cell (p := ⟨g, off, none⟩) hgl).trans d0, (b3.cell (p := ⟨g, off + 1, none⟩) hgl).trans d1⟩) | (exact ⟨(World.cell?_of_block (a := ⟨g, off, none⟩) ((heap_set_ne (p := ⟨B + 1 + 1, 1, none⟩) (by show g ≠ B + 1 + 1; omega) _).trans (heap_set_ne (p := ⟨B + 1 + 1, 0, none⟩) (by show g ≠ B + 1 + 1; omega) _))).trans ((b3.cell (p := ⟨g, off, none⟩) hgl).trans d0), (World.cell?_of_block (a := ⟨g, off + 1, none⟩) ((heap_set_ne (p := ⟨B + 1 + 1, 1, none⟩) (by show g ≠ B + 1 + 1; omega) _).trans (heap_set_ne (p := ⟨B + 1 + 1, 0, none⟩) (by show g ≠ B + 1 + 1; omega) _))).trans ((b3.cell (p := ⟨g, off + 1, none⟩) hgl).trans d1)⟩))
        (first | (go_at_call 15; refine (listOfS_any (some ⟨g, off, none⟩) 0 0 (fun i => r.getD i default) _ (.inl rfl) (by omega)).mono ?_; rintro e w3 ⟨x5, cp5, rfl, ho5, b3⟩; have s3 := Sits.below (Sits.drew HR2.out) b3 (Sits.lt HR2.out); obtain ⟨p0, p1⟩ := rc_cells s3; have fz := Sits.frozen s3))
      gi_wp2
      have hw2 : B + 1 + 1 < w2.heap.size := by omega
      have b3' : Below B w2.drew w3 := b3.mono (by show B ≤ w2.heap.size; omega)
      have b4 : Below B w w3 := (Below.drew hbl).trans b3'
      have hk3 : ((w3.setCell ⟨B + 1 + 1, 0, none⟩ (.int .i64 q.to)).setCell ⟨B + 1 + 1, 1, none⟩ (.slice x5 0 cp5)).heap[D]? = some (.deferred (some [])) :=
        (heap_set_ne (p := ⟨B + 1 + 1, 1, none⟩) (by show D ≠ B + 1 + 1; omega) _).trans ((heap_set_ne (p := ⟨B + 1 + 1, 0, none⟩) (by show D ≠ B + 1 + 1; omega) _).trans ((b3.block D (Array.getElem?_eq_some_iff.1 hk2).1).trans hk2))
      have s5 : Sits _ (B + 1 + 1) (rcCells q.to x5 0 cp5) 25 := Sits.set (Sits.set s3 0 (.int .i64 q.to)) 1 (.slice x5 0 cp5)
      have s6 : Sits (World.putObj ((w3.setCell ⟨B + 1 + 1, 0, none⟩ (.int .i64 q.to)).setCell ⟨B + 1 + 1, 1, none⟩ (.slice x5 0 cp5)) D (.deferred none)) (B + 1 + 1) (rcCells q.to x5 0 cp5) 25 := (World.putObj_heap_other (by omega)).trans s5
      have b5 : Below B w ((w3.setCell ⟨B + 1 + 1, 0, none⟩ (.int .i64 q.to)).setCell ⟨B + 1 + 1, 1, none⟩ (.slice x5 0 cp5)) := (b4.setCell (by show B ≤ B + 1 + 1; omega) _).setCell (by show B ≤ B + 1 + 1; omega) _
      refine ⟨by simp, .inl ⟨_, _, rfl, run_takeDeferred hk3, ?_⟩⟩
      refine ⟨_, ret_rc (nx := q.to) (x := x5) (n := 0) (c := cp5) Tryd.results14 rfl s6, x5, cp5, ?_, ?_, ?_⟩
      · rw [← HLA.out]; simp [hr0]
      · rw [← HLA.out, hB]
        have e5 : spL (fun i => r.getD i default) 0 = r := by rw [List.length_eq_zero_iff.1 hr0]; rfl
        rw [e5] at ho5
        exact ownsRow_putObj (OS.mono (OS.far (OS.far ho5 (by show B + 1 + 1 < w2.heap.size; omega) _ _) (by show B + 1 + 1 < w2.heap.size; omega) _ _) (by show B ≤ w2.heap.size; omega)) (.deferred none) hk3 rfl
      · rw [hB]
        exact below_putObj b5 (by omega) (hB ▸ b5.size) _
    · have hc2 : ¬ (cp4 : Int) = 1 := by omega
      have hc3 : ¬ 1 = cp4 := by omega
      have hr3 : ¬ (r.length : Int) + 1 < 1 := by omega
      have hr4 : ¬ (cp4 : Int) < (r.length : Int) + 1 := by omega
      have hr5 : (1 : Int) ≤ (r.length : Int) + 1 := by omega
      have hr6 : r.length + 1 - 1 = r.length := by omega
      gi_wp2
      refine wpIn_wide.2 ?_
      go_region_held3 (fun w' => w'.cell? ⟨g, off, none⟩ = some (.int .i64 q.fr) ∧ w'.cell? ⟨g, off + 1, none⟩ = some (.int .i64 q.to)) (first | go_keep | (exact ⟨(b3.cell (p := ⟨g, off, none⟩) hgl).trans d0, (b3.cell (p := ⟨g, off + 1, none⟩) hgl).trans d1⟩) | (exact ⟨(World.cell?_of_block (a := ⟨g, off, none⟩) ((heap_set_ne (p := ⟨B + 1 + 1, 1, none⟩) (by show g ≠ B + 1 + 1; omega) _).trans (heap_set_ne (p := ⟨B + 1 + 1, 0, none⟩) (by show g ≠ B + 1 + 1; omega) _))).trans ((b3.cell (p := ⟨g, off, none⟩) hgl).trans d0), (World.cell?_of_block (a := ⟨g, off + 1, none⟩) ((heap_set_ne (p := ⟨B + 1 + 1, 1, none⟩) (by show g ≠ B + 1 + 1; omega) _).trans (heap_set_ne (p := ⟨B + 1 + 1, 0, none⟩) (by show g ≠ B + 1 + 1; omega) _))).trans ((b3.cell (p := ⟨g, off + 1, none⟩) hgl).trans d1)⟩))
        (first | (go_at_call 15; refine (listOfS_any (some ⟨g, off + 2, none⟩) r.length (cp4 - 1) (fun i => r.getD i default) _ (HSQ.out _ (by go_grown)) (by omega)).mono ?_; rintro e w3 ⟨x5, cp5, rfl, ho5, b3⟩; have s3 := Sits.below (Sits.drew HR2.out) b3 (Sits.lt HR2.out); obtain ⟨p0, p1⟩ := rc_cells s3; have fz := Sits.frozen s3))
      gi_wp2
      have hw2 : B + 1 + 1 < w2.heap.size := by omega
      have b3' : Below B w2.drew w3 := b3.mono (by show B ≤ w2.heap.size; omega)
      have b4 : Below B w w3 := (Below.drew hbl).trans b3'
      have hk3 : ((w3.setCell ⟨B + 1 + 1, 0, none⟩ (.int .i64 q.to)).setCell ⟨B + 1 + 1, 1, none⟩ (.slice x5 r.length cp5)).heap[D]? = some (.deferred (some [])) :=
        (heap_set_ne (p := ⟨B + 1 + 1, 1, none⟩) (by show D ≠ B + 1 + 1; omega) _).trans ((heap_set_ne (p := ⟨B + 1 + 1, 0, none⟩) (by show D ≠ B + 1 + 1; omega) _).trans ((b3.block D (Array.getElem?_eq_some_iff.1 hk2).1).trans hk2))
      have s5 : Sits _ (B + 1 + 1) (rcCells q.to x5 r.length cp5) 25 := Sits.set (Sits.set s3 0 (.int .i64 q.to)) 1 (.slice x5 r.length cp5)
      have s6 : Sits (World.putObj ((w3.setCell ⟨B + 1 + 1, 0, none⟩ (.int .i64 q.to)).setCell ⟨B + 1 + 1, 1, none⟩ (.slice x5 r.length cp5)) D (.deferred none)) (B + 1 + 1) (rcCells q.to x5 r.length cp5) 25 := (World.putObj_heap_other (by omega)).trans s5
      have b5 : Below B w ((w3.setCell ⟨B + 1 + 1, 0, none⟩ (.int .i64 q.to)).setCell ⟨B + 1 + 1, 1, none⟩ (.slice x5 r.length cp5)) := (b4.setCell (by show B ≤ B + 1 + 1; omega) _).setCell (by show B ≤ B + 1 + 1; omega) _
      refine ⟨by simp, .inl ⟨_, _, rfl, run_takeDeferred hk3, ?_⟩⟩
      refine ⟨_, ret_rc (nx := q.to) (x := x5) (n := r.length) (c := cp5) Tryd.results14 rfl s6, x5, cp5, ?_, ?_, ?_⟩
      · rw [← HLA.out]; rfl
      · rw [← HLA.out, hB]
        have e5 : spL (fun i => r.getD i default) r.length = r := spL_getD r
        rw [e5] at ho5
        exact ownsRow_putObj (OS.mono (OS.far (OS.far ho5 (by show B + 1 + 1 < w2.heap.size; omega) _ _) (by show B + 1 + 1 < w2.heap.size; omega) _ _) (by show B ≤ w2.heap.size; omega)) (.deferred none) hk3 rfl
      · rw [hB]
        exact below_putObj b5 (by omega) (hB ▸ b5.size) _
  case stop =>
    rintro D c pre W _ _ h _
    exact h.elim

end Go.Proofs.YtfghnfanimpjjaaDoor
