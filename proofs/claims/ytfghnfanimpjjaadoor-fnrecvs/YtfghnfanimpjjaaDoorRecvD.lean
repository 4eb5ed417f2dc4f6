/-
  A RECEIVER THAT IS BEING DRAWN: what is known while it is (RD); a number drawn at a step; a list of one span.
-/
import Derived.Test.YtfghnfanimpjjaaDoorRecvN
import Derived.Test.YtfghnfanimpjjaaDoorDrawR1
import Derived.Test.YtfghnfanimpjjaaDoorDraw1
import Derived.Deep.RegionLaw
namespace Go.Proofs.YtfghnfanimpjjaaDoor
open Go.RowKit
set_option linter.unusedVariables false

theorem os_hold {base : Nat} {w w' : World} {x : Option Addr} {c : Nat} {L : List Sp} (h : OS base w x c L) (hk : ∀ k, (Value.slice x L.length c).ownBlock = some k → w'.heap[k]? = w.heap[k]?) : OS base w' x c L := by
  obtain ⟨hl, ⟨hv, h0⟩ | ⟨g, cp, cur, hv, hbs, hh, h1, h2, h3, h4⟩⟩ := h
  · exact ⟨hl, .inl ⟨hv, h0⟩⟩
  · exact ⟨hl, .inr ⟨g, cp, cur, hv, hbs, (hk g (by rw [hv]; rfl)).trans hh, h1, h2, h3, h4⟩⟩
theorem os_own {base : Nat} {w : World} {x : Option Addr} {c : Nat} {L : List Sp} (h : OS base w x c L) : ∀ k, (Value.slice x L.length c).ownBlock = some k → base ≤ k ∧ k < w.heap.size := fun k e => World.ownsRow.lt h k e
theorem os_cap {base : Nat} {w : World} {x : Option Addr} {c : Nat} {L : List Sp} (h : OS base w x c L) : L.length ≤ c := os_le h
theorem cur_lowS {B C : Nat} {w w' : World} {a : Option Addr} {len cap : Nat} (h : Cur w B a len cap) (hb : Below C w w') (hC : B < C) : Cur w' B a len cap := by
  obtain ⟨hB, hl, ⟨i, k, i0, i1, c0, c1, c2⟩, f1, f2, hcode⟩ := h
  have e : ∀ b x, b < C → w'.cell? ⟨b, x, none⟩ = w.cell? ⟨b, x, none⟩ := fun b x hbC => hb.cell (p := ⟨b, x, none⟩) hbC
  have f : ∀ b x, b < C → w'.frozen? ⟨b, x, none⟩ = w.frozen? ⟨b, x, none⟩ := fun b x hbC => hb.frozen (p := ⟨b, x, none⟩) hbC
  exact ⟨Nat.lt_of_lt_of_le hB hb.size, hl, ⟨i, k, i0, i1, (e _ _ hC).trans c0, (e _ _ hC).trans c1, (e _ _ hC).trans c2⟩, (f _ _ hC).trans f1, (f _ _ hC).trans f2, hcode.move fun b x hbB => e b x (by omega)⟩

theorem only_lowS {B C : Nat} {a w w' : World} (h : Only B a w) (hb : Below C w w') (hC : a.heap.size ≤ C) : Only B a w' :=
  ⟨hb.os.trans h.os, hb.tape.trans h.tape, hb.output.trans h.output, Nat.le_trans h.size hb.size, fun k hk hn => (hb.block k (by omega)).trans (h.block k hk hn)⟩

/-- All that is known while it is drawn: the cursor in B, the answer's box, the receiver's box V, its list. -/
structure RD (w : World) (B : Nat) (a : Option Addr) (len cap V : Nat) (nx : Int) (x : Option Addr) (c : Nat) (L : List Sp) (W : World) : Prop where
  cur : Cur W B a len cap
  on : Only B w W
  rs : Sits W w.heap.size (rcCells 0 none 0 0) 25
  vs : Sits W V (rcCells nx x L.length c) 25
  os : OS (w.heap.size + 1) W x c L
  ne : ∀ k, (Value.slice x L.length c).ownBlock = some k → k ≠ V
theorem RD.only {w : World} {B : Nat} {a : Option Addr} {len cap V : Nat} {nx : Int} {x : Option Addr} {c : Nat} {L : List Sp} {W W' : World} (h : RD w B a len cap V nx x c L W) (hB : B < w.heap.size) (hV : w.heap.size < V) (hc : Cur W' B a len cap) (ho : Only B W W') : RD w B a len cap V nx x c L W' :=
  ⟨hc, h.on.trans ho, h.rs.only ho (by omega), h.vs.only ho (by omega), os_hold h.os fun k e => ho.block k (os_own h.os k e).2 (by have := (os_own h.os k e).1; omega), h.ne⟩
theorem RD.low {w : World} {B : Nat} {a : Option Addr} {len cap V : Nat} {nx : Int} {x : Option Addr} {c : Nat} {L : List Sp} {W W' : World} (h : RD w B a len cap V nx x c L W) (hB : B < w.heap.size) (hV : w.heap.size < V) {C : Nat} (hb : Below C W W') (hVC : V < C) (hk : ∀ k, (Value.slice x L.length c).ownBlock = some k → k < C) : RD w B a len cap V nx x c L W' :=
  ⟨cur_lowS h.cur hb (by omega), only_lowS h.on hb (by omega), h.rs.below hb (by omega), h.vs.below hb hVC, os_hold h.os fun k e => hb.block k (hk k e), h.ne⟩
theorem RD.drew {w : World} {B : Nat} {a : Option Addr} {len cap V : Nat} {nx : Int} {x : Option Addr} {c : Nat} {L : List Sp} {W : World} (h : RD w B a len cap V nx x c L W) : RD w B a len cap V nx x c L W.drew := ⟨h.cur, h.on.drew, h.rs, h.vs, h.os, h.ne⟩
theorem RD.below {w : World} {B : Nat} {a : Option Addr} {len cap V : Nat} {nx : Int} {x : Option Addr} {c : Nat} {L : List Sp} {W W' : World} (h : RD w B a len cap V nx x c L W) (hB : B < w.heap.size) (hV : w.heap.size < V) (hb : Below W.heap.size W W') : RD w B a len cap V nx x c L W' := h.low hB hV hb h.vs.lt fun k e => (os_own h.os k e).2
theorem RD.alloc {w : World} {B : Nat} {a : Option Addr} {len cap V : Nat} {nx : Int} {x : Option Addr} {c : Nat} {L : List Sp} {W : World} (h : RD w B a len cap V nx x c L W) (hB : B < w.heap.size) (hV : w.heap.size < V) (o : Obj) : RD w B a len cap V nx x c L (W.alloc o) := h.below hB hV ((Below.refl _ _).alloc (Nat.le_refl _) _)
theorem set_two {x : Option Addr} {n c : Nat} {nx N : Int} {y : Option Addr} {m cy : Nat} : ((rcCells nx x n c).setIfInBounds 0 (.int .i64 N)).setIfInBounds 1 (.slice y m cy) = rcCells N y m cy := rfl
/-- Another receiver is put into the box. -/
theorem RD.put {w : World} {B : Nat} {a : Option Addr} {len cap V : Nat} {nx N : Int} {x y : Option Addr} {c cy : Nat} {L M : List Sp} {W : World} (h : RD w B a len cap V nx x c L W) (hB : B < w.heap.size) (hV : w.heap.size < V) (ho : OS (w.heap.size + 1) W y cy M) (hne : ∀ k, (Value.slice y M.length cy).ownBlock = some k → k ≠ V) :
    RD w B a len cap V N y cy M ((W.setCell ⟨V, 0, none⟩ (.int .i64 N)).setCell ⟨V, 1, none⟩ (.slice y M.length cy)) :=
  ⟨(h.cur.setNew (by omega) _).setNew (by omega) _, (h.on.setNew (by omega) _).setNew (by omega) _, (h.rs.other (by omega) _).other (by omega) _, (h.vs.set 0 _).set 1 _,
    os_hold ho fun k e => (Below.heap_setCell _ ⟨V, 1, none⟩ _ k (hne k e)).trans (Below.heap_setCell _ ⟨V, 0, none⟩ _ k (hne k e)), hne⟩
theorem RD.put1 {w : World} {B : Nat} {a : Option Addr} {len cap V : Nat} {nx : Int} {x y : Option Addr} {c cy : Nat} {L M : List Sp} {W : World} (h : RD w B a len cap V nx x c L W) (hB : B < w.heap.size) (hV : w.heap.size < V) (ho : OS (w.heap.size + 1) W y cy M) (hne : ∀ k, (Value.slice y M.length cy).ownBlock = some k → k ≠ V) :
    RD w B a len cap V nx y cy M (W.setCell ⟨V, 1, none⟩ (.slice y M.length cy)) :=
  ⟨h.cur.setNew (by omega) _, h.on.setNew (by omega) _, h.rs.other (by omega) _, h.vs.set 1 _, os_hold ho fun k e => Below.heap_setCell _ ⟨V, 1, none⟩ _ k (hne k e), hne⟩
theorem RD.put0 {w : World} {B : Nat} {a : Option Addr} {len cap V : Nat} {nx N : Int} {x : Option Addr} {c : Nat} {L : List Sp} {W : World} (h : RD w B a len cap V nx x c L W) (hB : B < w.heap.size) (hV : w.heap.size < V) : RD w B a len cap V N x c L (W.setCell ⟨V, 0, none⟩ (.int .i64 N)) :=
  ⟨h.cur.setNew (by omega) _, h.on.setNew (by omega) _, h.rs.other (by omega) _, h.vs.set 0 _, os_hold h.os fun k e => Below.heap_setCell _ ⟨V, 0, none⟩ _ k (h.ne k e), h.ne⟩
/-- It is handed back. -/
theorem RD.back {w : World} {B : Nat} {a : Option Addr} {len cap V : Nat} {nx : Int} {x : Option Addr} {c : Nat} {L : List Sp} {W : World} (h : RD w B a len cap V nx x c L W) (hB : B < w.heap.size) (hV : w.heap.size < V) :
    let W' := (W.setCell ⟨w.heap.size, 0, none⟩ (.int .i64 nx)).setCell ⟨w.heap.size, 1, none⟩ (.slice x L.length c)
    Sits W' w.heap.size (rcCells nx x L.length c) 25 ∧ OS w.heap.size W' x c L ∧ Cur W' B a len cap ∧ Only B w W' :=
  ⟨(h.rs.set 0 _).set 1 _, OS.mono (OS.far (OS.far h.os (by omega) 0 _) (by omega) 1 _) (by omega), (h.cur.setNew hB _).setNew hB _, (h.on.setNew (Nat.le_refl _) _).setNew (Nat.le_refl _) _⟩

/-- A list's block is no receiver's box. -/
theorem os_ne {base : Nat} {w : World} {x : Option Addr} {c : Nat} {L : List Sp} {V : Nat} {vs : Array Value} (h : OS base w x c L) (hs : Sits w V vs 25) : ∀ k, (Value.slice x L.length c).ownBlock = some k → k ≠ V := by
  intro k e hk
  subst hk
  obtain ⟨hl, ⟨hv, h0⟩ | ⟨g, cp, cur, hv, hbs, hh, h1, h2, h3, h4⟩⟩ := h
  · rw [hv] at e; simp [Value.ownBlock] at e
  · rw [hv] at e
    have hg : g = k := by simpa [Value.ownBlock] using e
    subst hg
    have hs' : w.heap[g]? = some (.cells vs 25) := hs
    rw [hs'] at hh
    simp only [Option.some.injEq, Obj.cells.injEq] at hh
    exact absurd hh.2 (by decide)
/-- One more is behind its list. -/
theorem RD.app {w : World} {B : Nat} {a : Option Addr} {len cap V : Nat} {nx : Int} {x y : Option Addr} {c cy : Nat} {L M : List Sp} {W W' : World} (h : RD w B a len cap V nx x c L W) (hB : B < w.heap.size) (hV : w.heap.size < V) (hg : W.grownBy W' (Value.slice x L.length c).ownBlock) (ho : OS (w.heap.size + 1) W' y cy M) :
    Sits W' V (rcCells nx x L.length c) 25 ∧ RD w B a len cap V nx y cy M (W'.setCell ⟨V, 1, none⟩ (.slice y M.length cy)) := by
  have hb : Below (w.heap.size + 1) W W' := (Below.refl _ W).grown hg h.rs.lt (fun k e => (os_own h.os k e).1)
  have hs : Sits W' V (rcCells nx x L.length c) 25 := (hg.block V h.vs.lt (fun e => h.ne V e.symm rfl)).trans h.vs
  have hne := os_ne ho hs
  exact ⟨hs, (cur_lowS h.cur hb (by omega)).setNew (by omega) _, (only_lowS h.on hb (by omega)).setNew (by omega) _, (h.rs.below hb (by omega)).other (by omega) _, hs.set 1 _, os_hold ho fun k e => Below.heap_setCell _ ⟨V, 1, none⟩ _ k (hne k e), hne⟩

theorem step_below {w : World} {ops : Array Oper} {o : Oper} {act : Act} {K : Act → World → Prop} {Q : Exit → Act → World → Prop} {E : Prop} (hgd : o.guard = none) (x y : Operand) (t1 t2 : TypeId)
    (ho : o.op = .call { callee := .value (.func 13), args := #[x, y], argTypes := #[t1, t2] })
    (B : Nat) (n : Int) (n0 : 1 ≤ n) (n1 : n ≤ 9223372036854775807) (hx : act.eval x = .pointer (some ⟨B, 0, none⟩)) (hy : act.eval y = .int .i64 n) (a : Option Addr) (len cap : Nat) (hc : Cur w B a len cap)
    (h : ∀ v w', 0 ≤ v → v < n → Cur w' B a len cap → Only B w w' → K (act.put o.dst (.int .i64 v)) w') :
    if Region.wanted o (yielded ops act.tmps) = true then Oper.wp Tryd.prog o act w K Q else E := by
  have hw : Region.wanted o (yielded ops act.tmps) = true := by simp [Region.wanted, hgd]
  rw [if_pos hw]
  unfold Oper.wp
  have he : (execOp act.eval o).run Tryd.prog w = .ok (.enter 13 #[.pointer (some ⟨B, 0, none⟩), .int .i64 n]) w := by
    have hfun := Tryd.func13
    simp [execOp, ho, resolve, invoke, go_sem, Act.eval]
    exact ⟨by simpa [Act.eval] using hx, by simpa [Act.eval] using hy⟩
  rw [he, Oper.upon_enter]
  refine (below_any B a len cap w hc n n0 n1).mono ?_
  rintro e w' ⟨v, rfl, v0, v1, cc, oo⟩
  exact h v w' v0 v1 cc oo

theorem sr_one (W : World) (v u : Int) (t : TypeId) : SR (W.alloc (.cells #[.int .i64 v, .int .i64 u] t)).heap.size (W.alloc (.cells #[.int .i64 v, .int .i64 u] t)) (some ⟨W.heap.size, 0, none⟩) 1 (fun _ => ⟨v, u⟩) := by
  refine .inr ⟨W.heap.size, 0, rfl, by simp, fun i hi => ?_⟩
  obtain rfl : i = 0 := by omega
  exact ⟨by simp [go_sem], by simp [go_sem]⟩
theorem spL_one (p : Sp) : spL (fun _ => p) 1 = [p] := rfl
theorem rv_hi {nx H : Int} {L : List Sp} (h : Rv nx L) (hH : 0 ≤ H) (hb : ∀ t, inL' (pcs nx L) t → t < H) : nx ≤ H := by
  by_cases e : nx ≤ 0
  · omega
  · have := hb (nx - 1) ((inL'_cons _ _ _).2 (.inl ⟨by show (0 : Int) ≤ nx - 1; omega, by show nx - 1 < nx; omega⟩))
    omega
theorem own_size {x : Option Addr} {n m c d k : Nat} (e : (Value.slice x n c).ownBlock = some k) : (Value.slice x m d).ownBlock = some k := by
  cases x with
  | none => simp [Value.ownBlock] at e
  | some p => simpa [Value.ownBlock] using e

end Go.Proofs.YtfghnfanimpjjaaDoor
