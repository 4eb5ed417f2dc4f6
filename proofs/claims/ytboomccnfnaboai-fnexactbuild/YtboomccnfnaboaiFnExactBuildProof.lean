/-
  Whatever frame the law FnExactBuild is given, it returns true and leaves the frame as it was: the program's Build answers as the specification's, in memory of its own; no condition.
-/
import Derived.Test.YtboomccnfnaboaiRows
import Derived.WalkKit
import Derived.ProofKit
import Derived.OpenShut
import Derived.Test.YtboomccnfnaboaiSBuild2
import Derived.Deep.RegionHeld3
import Derived.Deep.Cut
import Derived.ShutString
import Derived.ChangeOld
import Derived.Below
namespace Go.Proofs.Ytboomccnfnaboai.fnExactBuild
open Go.ChangeShapes Go.WideShapes Go.ChangeAt Go.RowKit
open Go.ChangeMaps (open_string shut_string)
set_option linter.unusedVariables false

theorem own : ownKnob Try.prog.godebug = none := by kernel_rfl
theorem laidOut : laidOutB Try.prog = true := by kernel_rfl
theorem cells3 : Try.prog.cellsOf 3 = 1 := by kernel_rfl
theorem cellsIp : Try.prog.cellsOf 31 = 7 := by kernel_rfl
theorem cellsFrame : Try.prog.cellsOf 33 = 10 := by kernel_rfl
theorem cellsSlice : Try.prog.cellsOf 25 = 1 := by kernel_rfl

/-- A slice of integers that came in. -/
def IsRow (k : IntKind) (w : World) (a : Option Addr) (len cap : Nat) (zs : List Int) : Prop :=
  (a = none ∧ len = 0 ∧ cap = 0 ∧ zs = []) ∨
  ∃ x, a = some x ∧ len ≤ cap ∧ cap ≤ maxLen ∧ zs.length = cap ∧ (∀ i, i < zs.length → w.cell? (x.add i) = some (.int k (zs.getD i 0))) ∧ ∀ n ∈ zs, (Lit.int k n).wf = true

theorem row_of {w : World} {a : Option Addr} {len cap : Nat} {zs : List Int} (h : IsRow .u8 w a len cap zs) : Row .u8 w a len (fun i => zs.getD i 0) ∧ Byt len (fun i => zs.getD i 0) ∧ len ≤ cap := by
  rcases h with ⟨rfl, rfl, rfl, rfl⟩ | ⟨x, rfl, hl, hm, hz, hcell, hwz⟩
  · exact ⟨.inl rfl, fun i hi => absurd hi (Nat.not_lt_zero _), Nat.le_refl _⟩
  · by_cases h0 : len = 0
    · subst h0
      exact ⟨.inl rfl, fun i hi => absurd hi (Nat.not_lt_zero _), hl⟩
    · obtain ⟨b, off, rfl, hc⟩ := ints_at hcell (by omega)
      refine ⟨.inr ⟨b, off, rfl, World.block_lt_of_cell? w _ (hc 0 (by omega)), fun k hk => hc k (by omega)⟩, fun k hk => ?_, hl⟩
      exact bounds_u8 (hwz (zs.getD k 0) (by rw [List.getD_eq_getElem?_getD, List.getElem?_eq_getElem (by omega)]; exact List.getElem_mem _))


set_option maxHeartbeats 4000000 in
theorem walk (r : Fr) (hr : r.In) (a0 : Option Addr) (len0 cap0 : Nat) (z0 : List Int) (w : World) (w0 : IsRow .u8 w a0 len0 cap0 z0) :
    Calls Try.prog 7 #[r.val a0 len0 cap0] w fun e w' => e = .returned (.bool true) ∧ Below w.heap.size w w' := by
  obtain ⟨hrow, hf, hcap⟩ := row_of w0
  have hmax : (len0 : Int) ≤ 9223372036854775807 := by
    rcases w0 with ⟨_, rfl, _, _⟩ | ⟨x, _, h1, h2, _⟩
    · decide
    · unfold maxLen at h2; omega
  generalize (fun i => z0.getD i 0) = f at hrow hf
  clear w0
  have HR : Hid (Row .u8 w a0 len0 f) := hrow
  have HI : Hid r.In := hr
  clear hrow hf hr
  by_cases hbig : 1048576 < (len0 : Int)
  · obtain ⟨d, e, i, t, p, s, q, sp, dp⟩ := r
    go_enter Try.func7, Try.ntmps7
    go_wp2_with (go_at_call 17; refine (szFrame_any ⟨d, e, i, t, p, s, q, sp, dp⟩ a0 len0 cap0 1048576 _ hmax (by omega) (by omega)).mono ?_; rintro o w1 ⟨rfl, b1⟩; rw [if_pos hbig])
    go_ret
    exact ⟨rfl, ((Below.refl w.heap.size w).alloc (Nat.le_refl _) _).trans (b1.mono (by simp))⟩
  · have hn : len0 ≤ 1048576 := by omega
    have hsz : decide (1048576 - (len0 : Int) < 0) = false := by simp; omega
    obtain ⟨L, hL⟩ : ∃ L, blen r len0 = L := ⟨_, rfl⟩
    have bL : L ≤ 100 := hL ▸ blen_bd r len0
    obtain ⟨ok, hok⟩ : ∃ b, r.good len0 = b := ⟨_, rfl⟩
    obtain ⟨bf, hbf⟩ : ∃ b, buildF r len0 f = b := ⟨_, rfl⟩
    have HS : Hid (∀ (W : World) (x : Option Addr), Row .u8 W x len0 f → Calls Try.prog 22 #[r.val x len0 len0] W fun e w' => ∃ (y : Option Addr) (cy : Nat), e = .returned (.tuple #[.slice y L cy, .bool ok]) ∧ Zn W.heap.size w'.heap.size w' y L bf ∧ Below W.heap.size W w') := fun W x hx => by
      have := sbuild_any r x len0 len0 f W HI.out hmax hx
      rw [hL, hok, hbf] at this
      exact this
    have HB : Hid (∀ (W : World) (x : Option Addr), Row .u8 W x len0 f → Calls Try.prog 23 #[r.val x len0 len0] W fun e w' => ∃ (y : Option Addr) (cy : Nat), e = .returned (.tuple #[.slice y L cy, .bool ok]) ∧ Zn W.heap.size w'.heap.size w' y L bf ∧ Below W.heap.size W w') := fun W x hx => by
      have := ibuild_any r x len0 len0 f W HI.out hmax hx
      rw [hL, hok, hbf] at this
      exact this
    clear hL hok hbf HI
    obtain ⟨d, e, i, t, p, s, q, sp, dp⟩ := r
    have g0 : FvL (w.alloc (frObjL ⟨d, e, i, t, p, s, q, sp, dp⟩ a0 len0 cap0)) w.heap.size ⟨d, e, i, t, p, s, q, sp, dp⟩ a0 len0 cap0 := FvL.alloc _ _ _ _ _
    have B : Below w.heap.size w (w.alloc (frObjL ⟨d, e, i, t, p, s, q, sp, dp⟩ a0 len0 cap0)) := (Below.refl _ _).alloc (Nat.le_refl _) _
    cases ok
    all_goals
      go_enter Try.func7, Try.ntmps7
      go_wp2_with fail
      refine (szFrame_any ⟨d, e, i, t, p, s, q, sp, dp⟩ a0 len0 cap0 1048576 _ hmax (by omega) (by omega)).mono ?_
      rintro o w1 ⟨rfl, b⟩
      rw [if_neg (show ¬ 1048576 < (len0 : Int) by omega)]
      have g1 := g0.below b
      replace B := B.trans (b.mono B.size)
      clear g0 b
      obtain ⟨y0, y1, y2, y3, y4, y5, y6, y7, y8, y9⟩ := g1.cells
      go_wp2_with fail
      refine (toFrame_ints d e i t p s q sp dp a0 len0 cap0 f _ (Row.below HR.out B) hn).mono ?_
      rintro o w2 ⟨d2, rfl, zd2, b⟩
      have g2 := g1.below b
      replace B := B.trans (b.mono B.size)
      clear g1 b y0 y1 y2 y3 y4 y5 y6 y7 y8 y9
      go_wp2_with fail
      refine (HS.out _ d2 zd2.row).mono ?_
      rintro o w3 ⟨x3, c3, rfl, z3, b⟩
      have g3 := g2.below b
      replace B := B.trans (b.mono B.size)
      clear g2 b zd2 HS
      obtain ⟨y0, y1, y2, y3, y4, y5, y6, y7, y8, y9⟩ := g3.cells
      have lg3 := g3.1
      go_wp2_with fail
      refine (toFrame_ints d e i t p s q sp dp a0 len0 cap0 f _ (Row.below HR.out B) hn).mono ?_
      rintro o w4 ⟨d4, rfl, zd4, b⟩
      have g4 := g3.below b
      have z4 := z3.below b
      have s34 := b.size
      replace B := B.trans (b.mono B.size)
      clear g3 z3 b y0 y1 y2 y3 y4 y5 y6 y7 y8 y9
      go_wp2_with fail
      obtain ⟨V, hV⟩ : ∃ V, w4.heap.size = V := ⟨_, rfl⟩
      obtain ⟨u4, hA⟩ : ∃ x, w4.alloc (frObj ⟨d, e, i, t, p, s, q, sp, dp⟩ d4 len0 len0) = x := ⟨_, rfl⟩
      have gv : Fv u4 V ⟨d, e, i, t, p, s, q, sp, dp⟩ d4 len0 len0 := by rw [← hA, ← hV]; exact Fv.alloc _ _ _ _ _
      have ba : Below w4.heap.size w4 u4 := by rw [← hA]; exact (Below.refl _ _).alloc (Nat.le_refl _) _
      have su : u4.heap.size = V + 1 := by rw [← hA, ← hV]; simp
      have g5 := g4.below ba
      have z5 := z4.below ba
      have zx := zd4.below ba
      replace B := B.trans (ba.mono B.size)
      rw [hA, hV]
      have hV' := hV
      clear hA ba g4 z4 zd4
      obtain ⟨v0, v1, v2, v3, v4, v5, v6, v7, v8, v9⟩ := gv.cells
      refine (HB.out _ d4 zx.row).mono ?_
      rintro o w5 ⟨x5, c5, rfl, zg, b⟩
      have g6 := g5.below b
      have z6 := z5.below b
      have zx6 := zx.below b
      have gv6 := gv.below b
      have s5 := b.size
      replace B := B.trans (b.mono B.size)
      clear b g5 z5 zx gv v0 v1 v2 v3 v4 v5 v6 v7 v8 v9
      go_wp2_with fail
      refine (eqByteS_yes x5 x3 L c5 c3 bf bf _ zg.row z6.row (fun _ _ => rfl) (by omega)).mono ?_
      rintro o w6 ⟨rfl, k⟩
      have g7 := g6.below k.1
      have z7 := z6.below k.1
      have zx7 := zx6.below k.1
      have gv7 := gv6.below k.1
      have zg7 := zg.below k.1
      have s6 := k.1.size
      replace B := B.trans (k.1.mono B.size)
      clear k g6 z6 zx6 gv6 zg
      go_wp2_with fail
      obtain ⟨v0, v1, v2, v3, v4, v5, v6, v7, v8, v9⟩ := gv7.cells
      obtain ⟨y0, y1, y2, y3, y4, y5, y6, y7, y8, y9⟩ := g7.cells
      go_cut [45] from 41 (fun sv wx => sv = .bool false ∧ Below w6.heap.size w6 wx)
      case first =>
        go_region_held3 (fun w' => (w'.cell? ⟨V, 0, none⟩ = some (.int .i64 d) ∧ w'.cell? ⟨V, 1, none⟩ = some (.int .i64 e) ∧ w'.cell? ⟨V, 2, none⟩ = some (.int .i64 i) ∧ w'.cell? ⟨V, 3, none⟩ = some (.int .i64 t) ∧ w'.cell? ⟨V, 4, none⟩ = some (.int .i64 p) ∧ w'.cell? ⟨V, 5, none⟩ = some (.int .i64 s) ∧ w'.cell? ⟨V, 6, none⟩ = some (.int .i64 q) ∧ w'.cell? ⟨V, 7, none⟩ = some (.int .i64 sp) ∧ w'.cell? ⟨V, 8, none⟩ = some (.int .i64 dp) ∧ w'.cell? ⟨V, 9, none⟩ = some (.slice d4 len0 len0)) ∧ (w'.cell? ⟨w.heap.size, 0, none⟩ = some (.int .i64 d) ∧ w'.cell? ⟨w.heap.size, 1, none⟩ = some (.int .i64 e) ∧ w'.cell? ⟨w.heap.size, 2, none⟩ = some (.int .i64 i) ∧ w'.cell? ⟨w.heap.size, 3, none⟩ = some (.int .i64 t) ∧ w'.cell? ⟨w.heap.size, 4, none⟩ = some (.int .i64 p) ∧ w'.cell? ⟨w.heap.size, 5, none⟩ = some (.int .i64 s) ∧ w'.cell? ⟨w.heap.size, 6, none⟩ = some (.int .i64 q) ∧ w'.cell? ⟨w.heap.size, 7, none⟩ = some (.int .i64 sp) ∧ w'.cell? ⟨w.heap.size, 8, none⟩ = some (.int .i64 dp) ∧ w'.cell? ⟨w.heap.size, 9, none⟩ = some (.slice a0 len0 cap0))) (first | exact ⟨Fv.cells (w := w6.drew) gv7, FvL.cells (w := w6.drew) g7⟩ | exact ⟨((Fv.below (w := w6.drew) gv7 b6).below k7.1).cells, ((FvL.below (w := w6.drew) g7 b6).below k7.1).cells⟩ | exact ⟨(Fv.below (w := w6.drew) gv7 b6).cells, (FvL.below (w := w6.drew) g7 b6).cells⟩) (first | (go_at_call 19; refine (toFrame_ints d e i t p s q sp dp a0 len0 cap0 f _ (Row.below HR.out B.drew) hn).mono ?_; rintro o w7 ⟨d6, rfl, o6, b6⟩) | (go_at_call 21; refine (eqFrame_yes ⟨d, e, i, t, p, s, q, sp, dp⟩ d4 d6 len0 len0 len0 f f _ (Zn.below (w := w6.drew) zx7 b6).row o6.row (fun _ _ => rfl) hn).mono ?_; rintro o w8 ⟨rfl, k7⟩))
        all_goals
          (go_wp2_with fail)
          go_meet
          case rel => exact ⟨rfl, (Below.refl _ _).drew.trans (b6.trans (k7.1.mono b6.size))⟩
      obtain ⟨rfl, b⟩ := hcut
      have g8 := g7.below b
      have z8 := z7.below b
      have zx8 := zx7.below b
      have gv8 := gv7.below b
      have zg8 := zg7.below b
      have s7 := b.size
      replace B := B.trans (b.mono B.size)
      clear b g7 z7 zx7 gv7 zg7 v0 v1 v2 v3 v4 v5 v6 v7 v8 v9 y0 y1 y2 y3 y4 y5 y6 y7 y8 y9
      obtain ⟨v0, v1, v2, v3, v4, v5, v6, v7, v8, v9⟩ := gv8.cells
      go_wp2_with fail
      refine (markFrame_zn w3.heap.size w4.heap.size ⟨d, e, i, t, p, s, q, sp, dp⟩ d4 len0 len0 f 1 _ zx8 hn (by omega) (by omega)).mono ?_
      rintro o w9 ⟨rfl, zx9, ch⟩
      have z9 := z8.chg ch (.inl (Nat.le_refl _))
      have zg9 := zg8.chg ch (.inr (by omega))
      have g9 : FvL w9 w.heap.size ⟨d, e, i, t, p, s, q, sp, dp⟩ a0 len0 cap0 := g8.chg ch (.inl (by omega))
      have s8 := ch.size
      replace B := B.trans (ch.below (by omega) |>.mono (by omega))
      clear ch g8 z8 zx8 gv8 zg8 zx9 v0 v1 v2 v3 v4 v5 v6 v7 v8 v9
      go_wp2_with fail
      refine (eqByteS_yes x5 x3 L c5 c3 bf bf _ zg9.row z9.row (fun _ _ => rfl) (by omega)).mono ?_
      rintro o w10 ⟨rfl, k⟩
      have g10 := g9.below k.1
      have z10 := z9.below k.1
      have zg10 := zg9.below k.1
      have s10 := k.1.size
      replace B := B.trans (k.1.mono B.size)
      clear k g9 z9 zg9
      go_wp2_with fail
      refine (markByteS_zn u4.heap.size w5.heap.size x5 L c5 bf 1 _ zg10 (by omega) (by omega) (by omega)).mono ?_
      rintro o w11 ⟨rfl, zg11, ch⟩
      have z11 := z10.chg ch (.inl (by omega))
      have g11 : FvL w11 w.heap.size ⟨d, e, i, t, p, s, q, sp, dp⟩ a0 len0 cap0 := g10.chg ch (.inl (by omega))
      have s11 := ch.size
      replace B := B.trans (ch.below (by omega) |>.mono (by omega))
      clear ch g10 z10 zg10
      go_wp2_with fail
      refine (heldByteS_any x5 L c5 1 _ zg11.row (by omega) (by omega) (by omega)).mono ?_
      rintro o w12 ⟨rfl, k⟩
      have g12 := g11.below k.1
      have z12 := z11.below k.1
      have zg12 := zg11.below k.1
      have s12 := k.1.size
      replace B := B.trans (k.1.mono B.size)
      clear k g11 z11 zg11
      obtain ⟨y0, y1, y2, y3, y4, y5, y6, y7, y8, y9⟩ := g12.cells
      go_wp2_with fail
      refine (toFrame_ints d e i t p s q sp dp a0 len0 cap0 f _ (Row.below HR.out B) hn).mono ?_
      rintro o w13 ⟨d13, rfl, zd13, b⟩
      have z13 := z12.below b
      have zg13 := zg12.below b
      have s13 := b.size
      replace B := B.trans (b.mono B.size)
      clear g12 z12 zg12 b y0 y1 y2 y3 y4 y5 y6 y7 y8 y9
      go_wp2_with fail
      refine (HB.out _ d13 zd13.row).mono ?_
      rintro o w14 ⟨x14, c14, rfl, zh, b⟩
      have z14 := z13.below b
      have zg14 := zg13.below b
      have s14 := b.size
      replace B := B.trans (b.mono B.size)
      clear z13 zg13 b zd13
      go_wp2_with fail
      refine (eqByteS_yes x14 x3 L c14 c3 bf bf _ zh.row z14.row (fun _ _ => rfl) (by omega)).mono ?_
      rintro o w15 ⟨rfl, k⟩
      have zg15 := zg14.below k.1
      replace B := B.trans (k.1.mono B.size)
      clear k z14 zg14 zh
      go_wp2_with fail
      refine (heldByteS_any x5 L c5 1 _ zg15.row (by omega) (by omega) (by omega)).mono ?_
      rintro o w16 ⟨rfl, k⟩
      replace B := B.trans (k.1.mono B.size)
      clear k zg15
      go_wp2_with fail
      go_ret
      exact ⟨rfl, B⟩

section
variable {H : Type} {enc : TypeId × Value → H} {W : World} {base : Nat} {sp : Nat → Bool} {held : Bool}

theorem openInt {n : Nat} {c : Value} {y : DataW H × List MemPlace} (h : DataW.trod enc Try.prog W base sp held n 3 [c] = some y) : ∃ z : Int, c = .int .i64 z ∧ (-9223372036854775808 ≤ z ∧ z ≤ 9223372036854775807) := by
  obtain ⟨z, h1, _, hw⟩ := DataW.trod_int Try.underlying3 h
  simp only [List.cons.injEq, and_true] at h1
  exact ⟨z, h1, bd hw⟩

theorem openFrame {fuel : Nat} {cs : List Value} {x : DataW H × List MemPlace} (h : DataW.trod enc Try.prog W base sp held fuel 33 cs = some x) :
    ∃ (r : Fr) (v : Value) (m : Nat) (y : DataW H × List MemPlace), r.In ∧ cs = [.int .i64 r.dscp, .int .i64 r.ecn, .int .i64 r.id, .int .i64 r.ttl, .int .i64 r.proto, .int .i64 r.src, .int .i64 r.dst, .int .i64 r.srcP, .int .i64 r.dstP, v] ∧ DataW.trod enc Try.prog W base sp held m 25 [v] = some y := by
  obtain ⟨xs, n, rfl, hx, hl, hxl, hall⟩ := DataW.trod_struct Try.underlying33 h
  rw [cellsFrame] at hl
  match cs, hl with
  | [c0, c1, c2, c3, c4, c5, c6, c7, c8, c9], _ =>
  match xs, hxl with
  | [y0, y1, y2, y3], _ =>
  have b0 : DataW.trod enc Try.prog W base sp held n 31 (([c0, c1, c2, c3, c4, c5, c6, c7, c8, c9].drop 0).take (Try.prog.cellsOf 31)) = some y0 := hall 0 _ rfl
  rw [cellsIp] at b0
  replace b0 : DataW.trod enc Try.prog W base sp held n 31 [c0, c1, c2, c3, c4, c5, c6] = some y0 := b0
  have b1 : DataW.trod enc Try.prog W base sp held n 3 (([c0, c1, c2, c3, c4, c5, c6, c7, c8, c9].drop 7).take (Try.prog.cellsOf 3)) = some y1 := hall 1 _ rfl
  rw [cells3] at b1
  replace b1 : DataW.trod enc Try.prog W base sp held n 3 [c7] = some y1 := b1
  have b2 : DataW.trod enc Try.prog W base sp held n 3 (([c0, c1, c2, c3, c4, c5, c6, c7, c8, c9].drop 8).take (Try.prog.cellsOf 3)) = some y2 := hall 2 _ rfl
  rw [cells3] at b2
  replace b2 : DataW.trod enc Try.prog W base sp held n 3 [c8] = some y2 := b2
  have b3 : DataW.trod enc Try.prog W base sp held n 25 (([c0, c1, c2, c3, c4, c5, c6, c7, c8, c9].drop 9).take (Try.prog.cellsOf 25)) = some y3 := hall 3 _ rfl
  rw [cellsSlice] at b3
  replace b3 : DataW.trod enc Try.prog W base sp held n 25 [c9] = some y3 := b3
  obtain ⟨xs', n', rfl, hx', hl', hxl', hall'⟩ := DataW.trod_struct Try.underlying31 (x := y0) b0
  match xs', hxl' with
  | [u0, u1, u2, u3, u4, u5, u6], _ =>
  have e0 : DataW.trod enc Try.prog W base sp held n' 3 (([c0, c1, c2, c3, c4, c5, c6].drop 0).take (Try.prog.cellsOf 3)) = some u0 := hall' 0 _ rfl
  rw [cells3] at e0
  replace e0 : DataW.trod enc Try.prog W base sp held n' 3 [c0] = some u0 := e0
  have e1 : DataW.trod enc Try.prog W base sp held n' 3 (([c0, c1, c2, c3, c4, c5, c6].drop 1).take (Try.prog.cellsOf 3)) = some u1 := hall' 1 _ rfl
  rw [cells3] at e1
  replace e1 : DataW.trod enc Try.prog W base sp held n' 3 [c1] = some u1 := e1
  have e2 : DataW.trod enc Try.prog W base sp held n' 3 (([c0, c1, c2, c3, c4, c5, c6].drop 2).take (Try.prog.cellsOf 3)) = some u2 := hall' 2 _ rfl
  rw [cells3] at e2
  replace e2 : DataW.trod enc Try.prog W base sp held n' 3 [c2] = some u2 := e2
  have e3 : DataW.trod enc Try.prog W base sp held n' 3 (([c0, c1, c2, c3, c4, c5, c6].drop 3).take (Try.prog.cellsOf 3)) = some u3 := hall' 3 _ rfl
  rw [cells3] at e3
  replace e3 : DataW.trod enc Try.prog W base sp held n' 3 [c3] = some u3 := e3
  have e4 : DataW.trod enc Try.prog W base sp held n' 3 (([c0, c1, c2, c3, c4, c5, c6].drop 4).take (Try.prog.cellsOf 3)) = some u4 := hall' 4 _ rfl
  rw [cells3] at e4
  replace e4 : DataW.trod enc Try.prog W base sp held n' 3 [c4] = some u4 := e4
  have e5 : DataW.trod enc Try.prog W base sp held n' 3 (([c0, c1, c2, c3, c4, c5, c6].drop 5).take (Try.prog.cellsOf 3)) = some u5 := hall' 5 _ rfl
  rw [cells3] at e5
  replace e5 : DataW.trod enc Try.prog W base sp held n' 3 [c5] = some u5 := e5
  have e6 : DataW.trod enc Try.prog W base sp held n' 3 (([c0, c1, c2, c3, c4, c5, c6].drop 6).take (Try.prog.cellsOf 3)) = some u6 := hall' 6 _ rfl
  rw [cells3] at e6
  replace e6 : DataW.trod enc Try.prog W base sp held n' 3 [c6] = some u6 := e6
  obtain ⟨z0, rfl, i0⟩ := openInt (y := u0) e0
  obtain ⟨z1, rfl, i1⟩ := openInt (y := u1) e1
  obtain ⟨z2, rfl, i2⟩ := openInt (y := u2) e2
  obtain ⟨z3, rfl, i3⟩ := openInt (y := u3) e3
  obtain ⟨z4, rfl, i4⟩ := openInt (y := u4) e4
  obtain ⟨z5, rfl, i5⟩ := openInt (y := u5) e5
  obtain ⟨z6, rfl, i6⟩ := openInt (y := u6) e6
  obtain ⟨z7, rfl, i7⟩ := openInt (y := y1) b1
  obtain ⟨z8, rfl, i8⟩ := openInt (y := y2) b2
  exact ⟨⟨z0, z1, z2, z3, z4, z5, z6, z7, z8⟩, c9, n' + 1, y3, ⟨i0, i1, i2, i3, i4, i5, i6, i7, i8⟩, rfl, b3⟩

end

set_option maxRecDepth 100000 in
theorem lifted (os : Os) (started : os.Started) (H : Type) (enc : TypeId × Value → H) :
    ReturnsInHanded {} Try.checked os 7 .any (Rows.fnExactBuildSpec.pre6 enc Try.prog Try.f7 Rows.fnExactBuildRow.domain false) (Rows.fnExactBuildSpec.post enc Try.prog Try.f7 false true false false) := by
  refine returnsInHanded_of_change (C := Try.checked) own started (by kernel_rfl) Try.func7
    (ChangeSpec.witness6 (enc := enc) (C := Try.checked) false ⟨#[], #[.agg #[.int .i64 0, .int .i64 0, .int .i64 0, .int .i64 0, .int .i64 0, .int .i64 0, .int .i64 0, .int .i64 0, .int .i64 0, .slice none 0 0]], []⟩ 8 (by kernel_rfl) (by kernel_rfl) (by kernel_rfl) (by kernel_rfl)) ?_
  intro W base args ds gs before hval0 hW hcnd _
  have hval : ∀ (j : Nat) t v, Try.f7.params[j]? = some t → args[j]? = some v → Value.okWide Try.prog W .any base t v := hval0
  have hW' := hW
  obtain ⟨p, q, hA0, hV, rfl, hfz, hnd⟩ := hW
  have hA : DataW.TrodAll enc Try.prog W 0 (fun _ => true) true Try.f7.params.toList args.toList ds p := hA0
  rw [Try.params7] at hA hval
  obtain ⟨v0, vs0, d0, ds0, p0, q0, hargs, rfl, rfl, h0, r0⟩ := trodAll_cons hA
  obtain ⟨rfl, rfl, rfl⟩ := trodAll_nil r0
  obtain rfl : args = #[v0] := by cases args; simp_all
  obtain ⟨rfl, rfl⟩ := trodVars_none hV
  obtain ⟨cs, rfl, hcs⟩ := okWide_struct Try.underlying33 (hval 0 33 v0 rfl rfl)
  have k0 := h0
  have lt0 : ∀ x ∈ p0, x.block < W.heap.size := by obtain ⟨m, hm⟩ := k0; exact DataW.trod_lt m _ _ _ hm
  obtain ⟨r, a0, len0, cap0, z0, hr, hrc, w0⟩ : ∃ (r : Fr) (a0 : Option Addr) (len0 cap0 : Nat) (z0 : List Int), r.In ∧ cs = #[.int .i64 r.dscp, .int .i64 r.ecn, .int .i64 r.id, .int .i64 r.ttl, .int .i64 r.proto, .int .i64 r.src, .int .i64 r.dst, .int .i64 r.srcP, .int .i64 r.dstP, .slice a0 len0 cap0] ∧ IsRow .u8 W a0 len0 cap0 z0 := by
    obtain ⟨fuel, hf⟩ := h0
    obtain ⟨r, v, m, y, hin, hcs', ht⟩ := openFrame hf
    have hc2 : cs = (cs.toList).toArray := by simp
    have hcl : cs.toList = [.int .i64 r.dscp, .int .i64 r.ecn, .int .i64 r.id, .int .i64 r.ttl, .int .i64 r.proto, .int .i64 r.src, .int .i64 r.dst, .int .i64 r.srcP, .int .i64 r.dstP, v] := by simpa [Value.cells] using hcs'
    rw [hcl] at hc2
    rcases open_ints Try.underlying25 Try.underlying5 (by kernel_rfl) ht with ⟨hs, _⟩ | ⟨x, l, c, zs, hs, _, hl, hm, hz, _, hcell, hwz⟩
    · simp only [List.cons.injEq, and_true] at hs
      subst hs
      exact ⟨r, none, 0, 0, [], hin, hc2, .inl ⟨rfl, rfl, rfl, rfl⟩⟩
    · simp only [List.cons.injEq, and_true] at hs
      subst hs
      exact ⟨r, some x, l, c, zs, hin, hc2, .inr ⟨_, rfl, hl, hm, by simpa using hz, hcell, hwz⟩⟩
  subst hrc
  clear hA0 hval0
  refine (walk r hr a0 len0 cap0 z0 W w0).mono fun e W' ⟨he, bel⟩ => ?_
  subst he
  exact ⟨_, rfl, _, _, _, [], _, [], hW', trodAll_mk1 (shut_bool Try.underlying4 _), (trodAll_cons_mk (Below.trod laidOut (by kernel_rfl) (of_decide_eq_true (by kernel_rfl)) k0 bel lt0) trodAll_mk0), rfl, bel.frame _, fun h => by cases h⟩

theorem over : Rows.fnExactBuildRow.holds Try.pinned (OpenSpec.ofChange Rows.fnExactBuildSpec) :=
  OpenClaim.holds_of_wide 7 Try.f7 rfl rfl rfl rfl rfl rfl rfl ⟨rfl, rfl, rfl, rfl, rfl⟩ rfl rfl rfl rfl rfl (by kernel_rfl) Try.func7 (by kernel_rfl)
    (of_decide_eq_true (by kernel_rfl)) (by unfold Func.isWrapper; first | (rw [if_pos (by decide +kernel)]; kernel_rfl) | (rw [if_neg (by decide +kernel)]; exact ⟨rfl, rfl⟩))
    (fun os started H enc _ => lifted os started H enc)

theorem proved : Rows.FnExactBuildSaid := over
end Go.Proofs.Ytboomccnfnaboai.fnExactBuild
namespace Go.Proofs.Ytboomccnfnaboai
theorem fnExactBuild_holds : Rows.FnExactBuildSaid := fnExactBuild.proved
#print axioms fnExactBuild_holds
end Go.Proofs.Ytboomccnfnaboai
