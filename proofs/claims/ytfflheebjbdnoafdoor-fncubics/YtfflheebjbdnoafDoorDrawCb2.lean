/-
  WHAT THE DRAWS OF CHAPTER 10 ANSWER: whatever the bytes are, l10draw's Cubic is one that is well.
-/
import Derived.Test.YtfflheebjbdnoafDoorCubicS2
import Derived.Test.YtfflheebjbdnoafDoorDrawR1
import Derived.Deep.RegionHeld3
import Derived.Deep.Cut
namespace Go.Proofs.YtfflheebjbdnoafDoor
open Go.RowKit
set_option linter.unusedVariables false

/-- The draw's variables: the answer's box, the Cubic's, the cursor. -/
structure DC (B V Z : Nat) (r : Cb) (a : Option Addr) (len cap : Nat) (w W : World) : Prop where
  sv : Sits W V (cbCells r) 24
  sz : Sits W Z (cbCells Cb.zero) 24
  on : Only B w W
  cu : Cur W B a len cap

theorem DC.bel {B V Z : Nat} {r : Cb} {a : Option Addr} {len cap : Nat} {w W W' : World} (h : DC B V Z r a len cap w W) (hb : Below W.heap.size W W') : DC B V Z r a len cap w W' :=
  ⟨h.sv.below hb h.sv.lt, h.sz.below hb h.sz.lt, h.on.trans (onlyB hb), by
    obtain ⟨hB, hl, ⟨i, k, i0, i1, c0, c1, c2⟩, f1, f2, hcode⟩ := h.cu
    have e : ∀ b x, b < W.heap.size → W'.cell? ⟨b, x, none⟩ = W.cell? ⟨b, x, none⟩ := fun b x hs => World.cell?_of_block (w := W) (hb.block b hs)
    have f : ∀ b x, b < W.heap.size → W'.frozen? ⟨b, x, none⟩ = W.frozen? ⟨b, x, none⟩ := fun b x hs => World.frozen?_of_block (w := W) (hb.block b hs)
    exact ⟨Nat.lt_of_lt_of_le hB hb.size, hl, ⟨i, k, i0, i1, (e _ _ hB).trans c0, (e _ _ hB).trans c1, (e _ _ hB).trans c2⟩, (f _ _ hB).trans f1, (f _ _ hB).trans f2, hcode.move fun b x hb' => e b x (by omega)⟩⟩

theorem DC.drawn {B V Z : Nat} {r : Cb} {a : Option Addr} {len cap : Nat} {w W W' : World} (h : DC B V Z r a len cap w W) (hV : V ≠ B) (hZ : Z ≠ B) (ho : Only B W W') (hc : Cur W' B a len cap) : DC B V Z r a len cap w W' :=
  ⟨h.sv.only ho hV, h.sz.only ho hZ, h.on.trans ho, hc⟩

theorem DC.alloc {B V Z : Nat} {r : Cb} {a : Option Addr} {len cap : Nat} {w W : World} (h : DC B V Z r a len cap w W) (c : Array Value) (t : TypeId) : DC B V Z r a len cap w (W.alloc (.cells c t)) :=
  ⟨h.sv.alloc _, h.sz.alloc _, h.on.alloc _, h.cu.alloc _ _⟩

/-- The Cubic's box was turned, nothing else. -/
theorem DC.turn {B V Z : Nat} {r q : Cb} {a : Option Addr} {len cap : Nat} {w W W' : World} (h : DC B V Z r a len cap w W) (hZ : Z ≠ V) (hw : w.heap.size ≤ V) (hB : B < V) (hs : Sits W' V (cbCells q) 24) (ho : Only V W W') : DC B V Z q a len cap w W' :=
  ⟨hs, h.sz.only ho hZ, ⟨ho.os.trans h.on.os, ho.tape.trans h.on.tape, ho.output.trans h.on.output, Nat.le_trans h.on.size ho.size, fun k hk hn => (ho.block k (Nat.lt_of_lt_of_le hk h.on.size) (by omega)).trans (h.on.block k hk hn)⟩, by
    obtain ⟨hB', hl, ⟨i, k, i0, i1, c0, c1, c2⟩, f1, f2, hcode⟩ := h.cu
    have hne : ∀ b, b ≤ B → b ≠ V := fun b hb => by omega
    have e : ∀ b x, b ≤ B → W'.cell? ⟨b, x, none⟩ = W.cell? ⟨b, x, none⟩ := fun b x hs => World.cell?_of_block (w := W) (ho.block b (by omega) (hne b hs))
    have f : ∀ b x, b ≤ B → W'.frozen? ⟨b, x, none⟩ = W.frozen? ⟨b, x, none⟩ := fun b x hs => World.frozen?_of_block (w := W) (ho.block b (by omega) (hne b hs))
    exact ⟨Nat.lt_of_lt_of_le hB' ho.size, hl, ⟨i, k, i0, i1, (e _ _ (Nat.le_refl _)).trans c0, (e _ _ (Nat.le_refl _)).trans c1, (e _ _ (Nat.le_refl _)).trans c2⟩, (f _ _ (Nat.le_refl _)).trans f1, (f _ _ (Nat.le_refl _)).trans f2, hcode.move fun b x hb' => e b x (by omega)⟩⟩

@[reducible] def SCb (V : Nat) (r : Cb) (W : World) : Prop := W.cell? ⟨V, 0, none⟩ = some (.int .i64 r.wn) ∧ W.cell? ⟨V, 1, none⟩ = some (.int .i64 r.mx) ∧ W.cell? ⟨V, 2, none⟩ = some (.int .i64 r.kk) ∧ W.cell? ⟨V, 3, none⟩ = some (.int .i64 r.st) ∧ W.cell? ⟨V, 4, none⟩ = some (.int .i64 r.th) ∧ W.cell? ⟨V, 5, none⟩ = some (.bool r.bg)

def inC (x : Int) : Prop := 1 ≤ x ∧ x ≤ 50000
def inZ (x : Int) : Prop := -9223372036854775808 ≤ x ∧ x ≤ 9223372036854775807
theorem new_goodC {m : Int} (h : inC m) : (cbNew m).good = true := (Cb.good_iff _).2 (by unfold inC at h; simp [cbNew]; omega)

theorem grw_st {r : Cb} {now : Int} (h0 : r.bg = true → r.st ≤ now) : (r.grw now).bg = true → (r.grw now).st ≤ now := by
  unfold Cb.grw
  split
  · exact h0
  · unfold Cb.opn
    split
    · exact h0
    · intro _
      exact Int.le_refl _

set_option maxRecDepth 100000 in
set_option maxHeartbeats 8000000 in
theorem l10draw_any (B : Nat) (a : Option Addr) (len cap : Nat) (w : World) (hc : Cur w B a len cap) :
    Calls Tryd.prog 20 #[.pointer (some ⟨B, 0, none⟩)] w fun e w' => ∃ (r : Cb) (now : Int), e = .returned (.tuple #[r.val, .int .i64 now]) ∧ r.good = true ∧ 0 ≤ now ∧ now ≤ 100000 ∧ Cur w' B a len cap ∧ Only B w w' := by
  have hB := hc.1
  have HC : Hid (Cur w B a len cap) := hc
  clear hc
  go_enter Tryd.func20, Tryd.ntmps20
  go_wp2_with fail
  refine Calls.mono (pick4q inC B a len cap _ ((Cur.alloc HC.out _ _).alloc _ _) _ _ 1 10 100 50000 (Sits.new' (by simp)) ?ne ?q1 ?q2 ?q3 ?q4) ?_
  case ne => simp; omega
  case q1 => unfold inC; omega
  case q2 => unfold inC; omega
  case q3 => unfold inC; omega
  case q4 => unfold inC; omega
  rintro e w1 ⟨m, rfl, hm, c1, o1⟩
  have z1 : Sits w1 w.heap.size (cbCells Cb.zero) 24 := ((Sits.new w (cbCells Cb.zero) 24).alloc _).only o1 (by omega)
  replace o1 : Only B w w1 := (((Only.refl B w).alloc _).alloc _).trans o1
  have hg0 := new_goodC hm
  have hz0 : (cbNew m).orZero = cbNew m := by unfold Cb.orZero; simp [hg0]
  have C1 : Hid (Cur w1 B a len cap) := c1
  clear c1 HC
  unfold inC at hm
  go_wp2_with fail
  refine (scubicNew_any m _).mono ?_
  rintro e w2 ⟨rfl, b2⟩
  rw [hz0, hg0]
  have hbg0 : (cbNew m).bg = true → (cbNew m).st ≤ 0 := fun _ => Int.le_refl _
  obtain ⟨r0, hr0⟩ : ∃ r, cbNew m = r := ⟨_, rfl⟩
  rw [hr0] at hg0 hbg0 ⊢
  clear hz0 hr0 hm
  go_wp2_with fail
  obtain ⟨V, hV⟩ : ∃ V, w2.heap.size = V := ⟨_, rfl⟩
  obtain ⟨wv, hwv⟩ : ∃ x, w2.alloc (.cells (cbCells r0) 24) = x := ⟨_, rfl⟩
  have z2 := z1.below b2 z1.lt
  have lV : w.heap.size < V := by rw [← hV]; exact z2.lt
  have D0 : DC B V w.heap.size r0 a len cap w wv := by
    have h1 : DC B w.heap.size w.heap.size Cb.zero a len cap w w1 := ⟨z1, z1, o1, C1.out⟩
    have h2 := (h1.bel b2).alloc (cbCells r0) 24
    rw [hwv] at h2
    exact ⟨by rw [← hwv]; exact Sits.new' hV, h2.sz, h2.on, h2.cu⟩
  rw [hwv, hV]
  clear hwv hV z1 z2 o1 b2 C1
  have HG0 : Hid (r0.good = true) := hg0
  have HB0 : Hid (r0.bg = true → r0.st ≤ 0) := hbg0
  have HD0 : Hid (DC B V w.heap.size r0 a len cap w wv) := D0
  clear hg0 D0 hbg0
  refine (below_any B a len cap _ HD0.out.cu 20 (by omega) (by omega)).mono ?_
  rintro e w4 ⟨n, rfl, n0, n1, c4, o4⟩
  obtain ⟨n, rfl⟩ := Int.eq_ofNat_of_zero_le n0
  have HD4 : Hid (DC B V w.heap.size r0 a len cap w w4) := HD0.out.drawn (by omega) (by omega) o4 c4
  clear c4 o4 HD0
  go_wp2_with fail
  go_loopw [6, 8] (fun nw i wr => ∃ (k : Nat) (now : Int) (r : Cb), (k : Int) ≤ (n : Int) ∧ i = .int .i64 k ∧ nw = .int .i64 now ∧ 0 ≤ now ∧ now ≤ 800 * k ∧ r.good = true ∧ (r.bg = true → r.st ≤ now) ∧ DC B V w.heap.size r a len cap w wr) (fun _ i _ => n - (intOf i).toNat)
  case atStart => exact ⟨0, 0, r0, by omega, rfl, rfl, by omega, by omega, HG0.out, HB0.out, HD4.out⟩
  case round =>
    obtain ⟨k, now, r, hk, rfl, rfl, t0, t1, hgr, hbr, dr⟩ := hrel
    clear HG0 HB0 HD4
    have HG : Hid (r.good = true) := hgr
    have HBR : Hid (r.bg = true → r.st ≤ now) := hbr
    have HD : Hid (DC B V w.heap.size r a len cap w wr) := dr
    have ls := dr.sv.lt
    by_cases hlt : (k : Int) < (n : Int)
    · clear hgr dr hbr
      go_wp2_with fail
      refine (below_any B a len cap _ HD.out.cu 9 (by omega) (by omega)).mono ?_
      rintro e w8 ⟨y, rfl, y0, y1, c8, o8⟩
      have HD8 : Hid (DC B V w.heap.size r a len cap w w8) := DC.drawn HD.out (by omega) (by omega) o8 c8
      clear c8 o8 HD ls
      go_wp2_with fail
      refine (once_any B a len cap _ (DC.cu HD8.out) 4 (by omega) (by omega)).mono ?_
      rintro e w9 ⟨yes, rfl, c9, o9⟩
      have HD9 : Hid (DC B V w.heap.size r a len cap w w9) := DC.drawn HD8.out (by omega) (by omega) o9 c9
      clear c9 o9 HD8
      obtain ⟨nx, hnx⟩ : ∃ x, now + y * 100 = x := ⟨_, rfl⟩
      have hnb : now ≤ nx ∧ nx ≤ 800 * k + 800 := by omega
      obtain ⟨nb0, nb1⟩ := hnb
      cases yes
      case true =>
        go_wp2_with (go_at_call 28; refine (l10loss_any V r _ HG.out _ (DC.sv HD9.out)).mono ?_; rintro e w10 ⟨rfl, s10, o10⟩; have HD10 : Hid (DC B V w.heap.size (r.los nx) a len cap w w10) := DC.turn HD9.out (by omega) (by omega) (by omega) s10 o10; clear s10 o10)
        go_roundw
        case rel => exact ⟨k + 1, nx, r.los nx, by omega, by go_num, rfl, by omega, by omega, Cb.los_good HG.out (by omega) (by omega), fun _ => Int.le_refl _, HD10.out⟩
        case measure => simp [intOf]; omega
      case false =>
        obtain ⟨q0, q1, q2, q3, q4, q5⟩ := cb_cells (DC.sv HD9.out)
        by_cases hw : r.wn < 1048576
        · have HW : Hid (r.wn < 1048576) := hw
          have HT : Hid (r.timeB nx = true) := (Cb.timeB_iff _ _).2 ⟨by omega, by omega, fun hb => ⟨by have := HBR.out hb; omega, by
            have := HBR.out hb
            obtain ⟨g1, g2, g3, g4, g5, g6, g7, g8, g9, g10⟩ := r.good_iff.1 HG.out
            omega⟩⟩
          have HST : Hid ((r.grw nx).bg = true → (r.grw nx).st ≤ nx) := grw_st (fun hb => by have := HBR.out hb; omega)
          go_wp2_with (go_at_call 29; refine (l10grow_any V r _ HG.out HT.out HW.out _ (DC.sv HD9.out)).mono ?_; rintro e w10 ⟨rfl, s10, o10⟩; have HD10 : Hid (DC B V w.heap.size (r.grw nx) a len cap w w10) := DC.turn HD9.out (by omega) (by omega) (by omega) s10 o10; clear s10 o10)
          go_roundw
          case rel => exact ⟨k + 1, nx, r.grw nx, by omega, by go_num, rfl, by omega, by omega, Cb.grw_good HG.out (by omega) (by omega) HW.out, HST.out, HD10.out⟩
          case measure => simp [intOf]; omega
        · go_wp2_with fail
          go_roundw
          case rel => exact ⟨k + 1, nx, r, by omega, by go_num, rfl, by omega, by omega, HG.out, fun hb => by have := HBR.out hb; omega, HD9.out⟩
          case measure => simp [intOf]; omega
    · clear hgr dr hbr
      obtain ⟨q0, q1, q2, q3, q4, q5⟩ := cb_cells (DC.sv HD.out)
      obtain ⟨p0, p1, p2, p3, p4, p5⟩ := cb_cells (DC.sz HD.out)
      have fz := Sits.frozen (DC.sz HD.out)
      dsimp only [Cb.zero] at p0 p1 p2 p3 p4 p5
      go_wp2_with fail
      refine bodyPost_ret (ret_cbi (q := r) (b := now) (t := 24) (B := w.heap.size) Tryd.results20 rfl rfl ?_) rfl ⟨r, now, rfl, HG.out, t0, by omega, ?_, ?_⟩
      · exact putCb_sits (DC.sz HD.out) r
      · exact (Cur.setNew (Cur.setNew (Cur.setNew (Cur.setNew (Cur.setNew (Cur.setNew (DC.cu HD.out) hB _) hB _) hB _) hB _) hB _) hB _)
      · exact (Only.setNew (Only.setNew (Only.setNew (Only.setNew (Only.setNew (Only.setNew (DC.on HD.out) (Nat.le_refl _) _) (Nat.le_refl _) _) (Nat.le_refl _) _) (Nat.le_refl _) _) (Nat.le_refl _) _) (Nat.le_refl _) _)

set_option maxRecDepth 100000 in
set_option maxHeartbeats 8000000 in
theorem l10bent_any (B : Nat) (a : Option Addr) (len cap : Nat) (w : World) (hc : Cur w B a len cap) :
    Calls Tryd.prog 11 #[.pointer (some ⟨B, 0, none⟩)] w fun e w' => ∃ (r : Cb) (now : Int), e = .returned (.tuple #[r.val, .int .i64 now]) ∧ r.In ∧ 0 ≤ now ∧ now ≤ 100000 ∧ Cur w' B a len cap ∧ Only B w w' := by
  have hB := hc.1
  have HC : Hid (Cur (w.alloc (.cells (cbCells Cb.zero) 24)) B a len cap) := Cur.alloc hc _ _
  have HO : Hid (Only B w (w.alloc (.cells (cbCells Cb.zero) 24))) := (Only.refl B w).alloc _
  have HZ : Hid (Sits (w.alloc (.cells (cbCells Cb.zero) 24)) w.heap.size (cbCells Cb.zero) 24) := Sits.new _ _ _
  clear hc
  go_enter Tryd.func11, Tryd.ntmps11
  go_wp2_with (go_at_call 20; refine (l10draw_any B a len cap _ HC.out).mono ?_; rintro e w1 ⟨r, now, rfl, hg, t0, t1, c1, o1⟩)
  obtain ⟨V, hV⟩ : ∃ V, w1.heap.size = V := ⟨_, rfl⟩
  obtain ⟨wv, hwv⟩ : ∃ x, w1.alloc (.cells (cbCells r) 24) = x := ⟨_, rfl⟩
  have z1 := Sits.only HZ.out o1 (by omega)
  have lV : w.heap.size < V := by rw [← hV]; exact z1.lt
  have D2 : Hid (DC B V w.heap.size r a len cap w wv) := by
    rw [← hwv]
    exact ⟨Sits.new' hV, z1.alloc _, (HO.out.trans o1).alloc _, c1.alloc _ _⟩
  rw [hwv, hV]
  have HI : Hid r.In := cb_good_in hg
  clear hwv hV HC HO HZ z1 c1 o1 hg
  refine (once_any B a len cap _ (DC.cu D2.out) 8 (by omega) (by omega)).mono ?_
  rintro e w3 ⟨yes, rfl, c3, o3⟩
  have D3 : Hid (DC B V w.heap.size r a len cap w w3) := DC.drawn D2.out (by omega) (by omega) o3 c3
  clear D2 c3 o3
  cases yes
  case false =>
    obtain ⟨q0, q1, q2, q3, q4, q5⟩ := cb_cells (DC.sv D3.out)
    have fv := Sits.frozen (DC.sv D3.out)
    obtain ⟨p0, p1, p2, p3, p4, p5⟩ := cb_cells (DC.sz D3.out)
    have fz := Sits.frozen (DC.sz D3.out)
    dsimp only [Cb.zero] at p0 p1 p2 p3 p4 p5
    go_wp2_with fail
    refine bodyPost_ret (ret_cbi (q := r) (b := now) (t := 24) (B := w.heap.size) Tryd.results11 rfl rfl ?_) rfl ⟨r, now, rfl, HI.out, t0, t1, ?_, ?_⟩
    · exact putCb_sits (DC.sz D3.out) r
    · exact (Cur.setNew (Cur.setNew (Cur.setNew (Cur.setNew (Cur.setNew (Cur.setNew (DC.cu D3.out) hB _) hB _) hB _) hB _) hB _) hB _)
    · exact (Only.setNew (Only.setNew (Only.setNew (Only.setNew (Only.setNew (Only.setNew (DC.on D3.out) (Nat.le_refl _) _) (Nat.le_refl _) _) (Nat.le_refl _) _) (Nat.le_refl _) _) (Nat.le_refl _) _) (Nat.le_refl _) _)
  case true =>
    go_wp2_with fail
    refine (below_any B a len cap _ (DC.cu D3.out) 5 (by omega) (by omega)).mono ?_
    rintro e w4 ⟨y, rfl, y0, y1, c4, o4⟩
    have D4 : Hid (DC B V w.heap.size r a len cap w w4) := DC.drawn D3.out (by omega) (by omega) o4 c4
    clear D3 c4 o4
    have hy : y = 0 ∨ y = 1 ∨ y = 2 ∨ y = 3 ∨ y = 4 := by omega
    have l4 := Sits.lt (DC.sv D4.out)
    rcases hy with rfl | rfl | rfl | rfl | rfl
    · go_wp2_with fail
      refine Calls.mono (pick3q inZ B a len cap _ (Cur.alloc (DC.cu D4.out) _ _) _ _ (0) (1048576) (1048577) (Sits.new' rfl) ?ne ?q0 ?q1 ?q2) ?_
      case ne => omega
      case q0 => unfold inZ; omega
      case q1 => unfold inZ; omega
      case q2 => unfold inZ; omega
      rintro e w5 ⟨z, rfl, hz, c5, o5⟩
      have D5 : Hid (DC B V w.heap.size r a len cap w w5) := DC.drawn (DC.alloc D4.out _ _) (by omega) (by omega) o5 c5
      clear D4 c5 o5
      obtain ⟨q0, q1, q2, q3, q4, q5⟩ := cb_cells (DC.sv D5.out)
      have fv := Sits.frozen (DC.sv D5.out)
      obtain ⟨p0, p1, p2, p3, p4, p5⟩ := cb_cells (DC.sz D5.out)
      have fz := Sits.frozen (DC.sz D5.out)
      dsimp only [Cb.zero] at p0 p1 p2 p3 p4 p5
      go_wp2_with fail
      refine bodyPost_ret (ret_cbi (q := (Cb.mk z r.mx r.kk r.st r.th r.bg)) (b := now) (t := 24) (B := w.heap.size) Tryd.results11 rfl rfl ?_) rfl ⟨(Cb.mk z r.mx r.kk r.st r.th r.bg), now, rfl, ⟨hz, HI.out.2.1, HI.out.2.2.1, HI.out.2.2.2.1, HI.out.2.2.2.2⟩, t0, t1, ?_, ?_⟩
      · exact putCb_sits (Sits.other (DC.sz D5.out) (by omega) _) (Cb.mk z r.mx r.kk r.st r.th r.bg)
      · exact (Cur.setNew (Cur.setNew (Cur.setNew (Cur.setNew (Cur.setNew (Cur.setNew (Cur.setNew (DC.cu D5.out) (by omega) _) hB _) hB _) hB _) hB _) hB _) hB _)
      · exact (Only.setNew (Only.setNew (Only.setNew (Only.setNew (Only.setNew (Only.setNew (Only.setNew (DC.on D5.out) (by omega) _) (Nat.le_refl _) _) (Nat.le_refl _) _) (Nat.le_refl _) _) (Nat.le_refl _) _) (Nat.le_refl _) _) (Nat.le_refl _) _)
    · go_wp2_with fail
      refine Calls.mono (pick3q inZ B a len cap _ (Cur.alloc (DC.cu D4.out) _ _) _ _ (-1) (1048576) (1048577) (Sits.new' rfl) ?ne ?q0 ?q1 ?q2) ?_
      case ne => omega
      case q0 => unfold inZ; omega
      case q1 => unfold inZ; omega
      case q2 => unfold inZ; omega
      rintro e w5 ⟨z, rfl, hz, c5, o5⟩
      have D5 : Hid (DC B V w.heap.size r a len cap w w5) := DC.drawn (DC.alloc D4.out _ _) (by omega) (by omega) o5 c5
      clear D4 c5 o5
      obtain ⟨q0, q1, q2, q3, q4, q5⟩ := cb_cells (DC.sv D5.out)
      have fv := Sits.frozen (DC.sv D5.out)
      obtain ⟨p0, p1, p2, p3, p4, p5⟩ := cb_cells (DC.sz D5.out)
      have fz := Sits.frozen (DC.sz D5.out)
      dsimp only [Cb.zero] at p0 p1 p2 p3 p4 p5
      go_wp2_with fail
      refine bodyPost_ret (ret_cbi (q := (Cb.mk r.wn z r.kk r.st r.th r.bg)) (b := now) (t := 24) (B := w.heap.size) Tryd.results11 rfl rfl ?_) rfl ⟨(Cb.mk r.wn z r.kk r.st r.th r.bg), now, rfl, ⟨HI.out.1, hz, HI.out.2.2.1, HI.out.2.2.2.1, HI.out.2.2.2.2⟩, t0, t1, ?_, ?_⟩
      · exact putCb_sits (Sits.other (DC.sz D5.out) (by omega) _) (Cb.mk r.wn z r.kk r.st r.th r.bg)
      · exact (Cur.setNew (Cur.setNew (Cur.setNew (Cur.setNew (Cur.setNew (Cur.setNew (Cur.setNew (DC.cu D5.out) (by omega) _) hB _) hB _) hB _) hB _) hB _) hB _)
      · exact (Only.setNew (Only.setNew (Only.setNew (Only.setNew (Only.setNew (Only.setNew (Only.setNew (DC.on D5.out) (by omega) _) (Nat.le_refl _) _) (Nat.le_refl _) _) (Nat.le_refl _) _) (Nat.le_refl _) _) (Nat.le_refl _) _) (Nat.le_refl _) _)
    · go_wp2_with fail
      refine Calls.mono (pick3q inZ B a len cap _ (Cur.alloc (DC.cu D4.out) _ _) _ _ (-1) (200000) (200001) (Sits.new' rfl) ?ne ?q0 ?q1 ?q2) ?_
      case ne => omega
      case q0 => unfold inZ; omega
      case q1 => unfold inZ; omega
      case q2 => unfold inZ; omega
      rintro e w5 ⟨z, rfl, hz, c5, o5⟩
      have D5 : Hid (DC B V w.heap.size r a len cap w w5) := DC.drawn (DC.alloc D4.out _ _) (by omega) (by omega) o5 c5
      clear D4 c5 o5
      obtain ⟨q0, q1, q2, q3, q4, q5⟩ := cb_cells (DC.sv D5.out)
      have fv := Sits.frozen (DC.sv D5.out)
      obtain ⟨p0, p1, p2, p3, p4, p5⟩ := cb_cells (DC.sz D5.out)
      have fz := Sits.frozen (DC.sz D5.out)
      dsimp only [Cb.zero] at p0 p1 p2 p3 p4 p5
      go_wp2_with fail
      refine bodyPost_ret (ret_cbi (q := (Cb.mk r.wn r.mx z r.st r.th r.bg)) (b := now) (t := 24) (B := w.heap.size) Tryd.results11 rfl rfl ?_) rfl ⟨(Cb.mk r.wn r.mx z r.st r.th r.bg), now, rfl, ⟨HI.out.1, HI.out.2.1, hz, HI.out.2.2.2.1, HI.out.2.2.2.2⟩, t0, t1, ?_, ?_⟩
      · exact putCb_sits (Sits.other (DC.sz D5.out) (by omega) _) (Cb.mk r.wn r.mx z r.st r.th r.bg)
      · exact (Cur.setNew (Cur.setNew (Cur.setNew (Cur.setNew (Cur.setNew (Cur.setNew (Cur.setNew (DC.cu D5.out) (by omega) _) hB _) hB _) hB _) hB _) hB _) hB _)
      · exact (Only.setNew (Only.setNew (Only.setNew (Only.setNew (Only.setNew (Only.setNew (Only.setNew (DC.on D5.out) (by omega) _) (Nat.le_refl _) _) (Nat.le_refl _) _) (Nat.le_refl _) _) (Nat.le_refl _) _) (Nat.le_refl _) _) (Nat.le_refl _) _)
    · go_wp2_with fail
      refine Calls.mono (pick3q inZ B a len cap _ (Cur.alloc (DC.cu D4.out) _ _) _ _ (1) (2) (1048577) (Sits.new' rfl) ?ne ?q0 ?q1 ?q2) ?_
      case ne => omega
      case q0 => unfold inZ; omega
      case q1 => unfold inZ; omega
      case q2 => unfold inZ; omega
      rintro e w5 ⟨z, rfl, hz, c5, o5⟩
      have D5 : Hid (DC B V w.heap.size r a len cap w w5) := DC.drawn (DC.alloc D4.out _ _) (by omega) (by omega) o5 c5
      clear D4 c5 o5
      obtain ⟨q0, q1, q2, q3, q4, q5⟩ := cb_cells (DC.sv D5.out)
      have fv := Sits.frozen (DC.sv D5.out)
      obtain ⟨p0, p1, p2, p3, p4, p5⟩ := cb_cells (DC.sz D5.out)
      have fz := Sits.frozen (DC.sz D5.out)
      dsimp only [Cb.zero] at p0 p1 p2 p3 p4 p5
      go_wp2_with fail
      refine bodyPost_ret (ret_cbi (q := (Cb.mk r.wn r.mx r.kk r.st z r.bg)) (b := now) (t := 24) (B := w.heap.size) Tryd.results11 rfl rfl ?_) rfl ⟨(Cb.mk r.wn r.mx r.kk r.st z r.bg), now, rfl, ⟨HI.out.1, HI.out.2.1, HI.out.2.2.1, HI.out.2.2.2.1, hz⟩, t0, t1, ?_, ?_⟩
      · exact putCb_sits (Sits.other (DC.sz D5.out) (by omega) _) (Cb.mk r.wn r.mx r.kk r.st z r.bg)
      · exact (Cur.setNew (Cur.setNew (Cur.setNew (Cur.setNew (Cur.setNew (Cur.setNew (Cur.setNew (DC.cu D5.out) (by omega) _) hB _) hB _) hB _) hB _) hB _) hB _)
      · exact (Only.setNew (Only.setNew (Only.setNew (Only.setNew (Only.setNew (Only.setNew (Only.setNew (DC.on D5.out) (by omega) _) (Nat.le_refl _) _) (Nat.le_refl _) _) (Nat.le_refl _) _) (Nat.le_refl _) _) (Nat.le_refl _) _) (Nat.le_refl _) _)
    · skip
      obtain ⟨q0, q1, q2, q3, q4, q5⟩ := cb_cells (DC.sv D4.out)
      have fv := Sits.frozen (DC.sv D4.out)
      obtain ⟨p0, p1, p2, p3, p4, p5⟩ := cb_cells (DC.sz D4.out)
      have fz := Sits.frozen (DC.sz D4.out)
      dsimp only [Cb.zero] at p0 p1 p2 p3 p4 p5
      go_wp2_with fail
      refine bodyPost_ret (ret_cbi (q := (Cb.mk r.wn r.mx r.kk r.st r.th (!r.bg))) (b := now) (t := 24) (B := w.heap.size) Tryd.results11 rfl rfl ?_) rfl ⟨(Cb.mk r.wn r.mx r.kk r.st r.th (!r.bg)), now, rfl, HI.out, t0, t1, ?_, ?_⟩
      · exact putCb_sits (Sits.other (DC.sz D4.out) (by omega) _) (Cb.mk r.wn r.mx r.kk r.st r.th (!r.bg))
      · exact (Cur.setNew (Cur.setNew (Cur.setNew (Cur.setNew (Cur.setNew (Cur.setNew (Cur.setNew (DC.cu D4.out) (by omega) _) hB _) hB _) hB _) hB _) hB _) hB _)
      · exact (Only.setNew (Only.setNew (Only.setNew (Only.setNew (Only.setNew (Only.setNew (Only.setNew (DC.on D4.out) (by omega) _) (Nat.le_refl _) _) (Nat.le_refl _) _) (Nat.le_refl _) _) (Nat.le_refl _) _) (Nat.le_refl _) _) (Nat.le_refl _) _)

set_option maxRecDepth 100000 in
set_option maxHeartbeats 4000000 in
theorem drawCubicGrow_any (a : Option Addr) (len cap : Nat) (w : World) (hl : len ≤ 9223372036854775807) (hcode : Code w w.heap.size a len) :
    Calls Tryd.prog 4 #[.slice a len cap] w fun e w' => ∃ (r : Cb) (n : Int), e = .returned (.tuple #[r.val, .int .i64 n]) ∧ r.In ∧ (-10 ≤ n ∧ n ≤ 10000000) ∧ Below w.heap.size w w' := by
  obtain ⟨W, hW⟩ : ∃ x, w.alloc (.cells (cbCells Cb.zero) 24) = x := ⟨_, rfl⟩
  have hsz : W.heap.size = w.heap.size + 1 := by rw [← hW]; simp
  have z0 : Sits W w.heap.size (cbCells Cb.zero) 24 := by rw [← hW]; exact Sits.new _ _ _
  have b0 : Below w.heap.size w W := by rw [← hW]; exact (Below.refl _ _).alloc (Nat.le_refl _) _
  have hcd : Code W W.heap.size a len := by
    rw [hsz, ← hW]
    rcases hcode with h | ⟨b, off, ha, hb, hk⟩
    · exact .inl h
    · refine .inr ⟨b, off, ha, by omega, fun k hk' => ?_⟩
      obtain ⟨v, v0, v1, hv⟩ := hk k hk'
      exact ⟨v, v0, v1, (World.cell?_alloc_old w _ ⟨b, off + k, none⟩ (by show b ≠ _; omega)).trans hv⟩
  clear hcode
  go_enter Tryd.func4, Tryd.ntmps4
  go_wp2_with fail
  rw [show w.alloc (.cells #[.int .i64 0, .int .i64 0, .int .i64 0, .int .i64 0, .int .i64 0, .bool false] 24) = W from hW]
  refine (new_any a len cap W hl hcd).mono ?_
  rintro e w1 ⟨rfl, c1, b1⟩
  obtain ⟨B, hB⟩ : ∃ B, W.heap.size = B := ⟨_, rfl⟩
  rw [hB] at c1 ⊢
  have z1 := z0.below b1 z0.lt
  replace b1 := b0.trans (b1.mono b0.size)
  have lB : w.heap.size < B := by omega
  clear hcd hW z0 b0 hB
  go_wp2_with fail
  refine (l10bent_any B a len cap _ c1).mono ?_
  rintro e w2 ⟨r, now, rfl, hr, t0, t1, c2, o2⟩
  have z2 := z1.only o2 (by omega)
  replace b1 := b1.trans (o2.below (by omega) b1.size)
  clear z1 c1 o2
  have l2 := z2.lt
  have hl2 := c2.1
  go_upto_region 3 with fail
  obtain ⟨V, hV⟩ : ∃ V, w2.heap.size = V := ⟨_, rfl⟩
  obtain ⟨wv, hwv⟩ : ∃ x, w2.alloc (.cells (cbCells r) 24) = x := ⟨_, rfl⟩
  have sv : Sits wv V (cbCells r) 24 := by rw [← hwv]; exact Sits.new' hV
  have cv : Cur wv B a len cap := by rw [← hwv]; exact c2.alloc _ _
  have zv : Sits wv w.heap.size (cbCells Cb.zero) 24 := by rw [← hwv]; exact z2.alloc _
  have bv : Below w.heap.size w wv := by rw [← hwv]; exact b1.alloc b1.size _
  have hVB : B < V := by rw [← hV]; exact hl2
  rw [hwv, hV]
  have HV : Hid (Sits wv V (cbCells r) 24) := sv
  have HCV : Hid (Cur wv B a len cap) := cv
  have HZV : Hid (Sits wv w.heap.size (cbCells Cb.zero) 24) := zv
  have HBV : Hid (Below w.heap.size w wv) := bv
  have lv := sv.lt
  clear hwv hV sv cv zv bv b1 c2 z2 l2 hl2
  go_region_held3 (fun w' => SCb V r w') (first | (with_reducible exact cb_cells (Sits.drew HV.out)) | (with_reducible exact cb_cells (Sits.drew (Sits.alloc HV.out _))) | (with_reducible exact cb_cells S5.out) | (with_reducible exact cb_cells (putCb_other S5.out hVZ r)) | fail)
    (first | (go_at_call 12; refine Calls.mono (pick5q (fun n => -1 ≤ n ∧ n ≤ 1048576) B a len cap _ (Cur.drew (Cur.alloc HCV.out _ _)) _ _ 0 100 5000 1048576 (-1) (Sits.drew (Sits.new' rfl)) (by simp; omega) (by omega) (by omega) (by omega) (by omega) (by omega)) ?_; rintro e w3 ⟨n, rfl, ⟨n0, n1⟩, c3, o3⟩; have S5 : Hid (Sits w3 V (cbCells r) 24) := Sits.only (Sits.drew (Sits.alloc HV.out _)) o3 (by omega); have hVZ : V ≠ w.heap.size := (by omega); have z3 := Sits.only (Sits.drew (Sits.alloc HZV.out _)) o3 (by omega); have b1 := Below.trans (Below.drew (Below.alloc HBV.out (Below.size HBV.out) _)) (o3.below (by omega) (by have := Below.size HBV.out; simp; omega)); obtain ⟨p0, p1, p2, p3, p4, p5⟩ := cb_cells z3; have fz := z3.frozen; dsimp only [Cb.zero] at p0 p1 p2 p3 p4 p5; have ZZ : Hid (Sits w3 w.heap.size (cbCells Cb.zero) 24) := z3; have ew : IntKind.i64.wrap (now + n) = now + n := wrapc (by omega) (by omega); clear z3 o3))
  all_goals
    go_wp2_with fail
    refine bodyPost_ret (ret_cbi (q := r) (b := now + n) (t := 24) (B := w.heap.size) Tryd.results4 rfl rfl ?_) rfl ⟨r, now + n, rfl, hr, by omega, ?_⟩
    · exact putCb_sits ZZ.out r
    · exact putCb_below b1 (Nat.le_refl _) r

end Go.Proofs.YtfflheebjbdnoafDoor
