/-
  WHAT THE DRAWS OF CHAPTER 9 ANSWER: whatever the bytes are, l9draw's sender is one that is well.
-/
import Derived.Test.YtfflheebjbdnoaeRenoV
import Derived.Test.YtfflheebjbdnoaeDrawR1
import Derived.Deep.RegionHeld3
import Derived.Deep.Cut
namespace Go.Proofs.Ytfflheebjbdnoae
open Go.RowKit
set_option linter.unusedVariables false

/-- The draw's variables: the answer's box, the sender's, the cursor. -/
structure DR (B V Z : Nat) (r : Rn) (a : Option Addr) (len cap : Nat) (w W : World) : Prop where
  sv : Sits W V (rnCells r) 24
  sz : Sits W Z (rnCells Rn.zero) 24
  on : Only B w W
  cu : Cur W B a len cap
theorem DR.bel {B V Z : Nat} {r : Rn} {a : Option Addr} {len cap : Nat} {w W W' : World} (h : DR B V Z r a len cap w W) (hb : Below W.heap.size W W') : DR B V Z r a len cap w W' :=
  ⟨h.sv.below hb h.sv.lt, h.sz.below hb h.sz.lt, h.on.trans (only_below hb), by
    obtain ⟨hB, hl, ⟨i, k, i0, i1, c0, c1, c2⟩, f1, f2, hcode⟩ := h.cu
    have e : ∀ b x, b < W.heap.size → W'.cell? ⟨b, x, none⟩ = W.cell? ⟨b, x, none⟩ := fun b x hs => World.cell?_of_block (w := W) (hb.block b hs)
    have f : ∀ b x, b < W.heap.size → W'.frozen? ⟨b, x, none⟩ = W.frozen? ⟨b, x, none⟩ := fun b x hs => World.frozen?_of_block (w := W) (hb.block b hs)
    exact ⟨Nat.lt_of_lt_of_le hB hb.size, hl, ⟨i, k, i0, i1, (e _ _ hB).trans c0, (e _ _ hB).trans c1, (e _ _ hB).trans c2⟩, (f _ _ hB).trans f1, (f _ _ hB).trans f2, hcode.move fun b x hb' => e b x (by omega)⟩⟩
theorem DR.drawn {B V Z : Nat} {r : Rn} {a : Option Addr} {len cap : Nat} {w W W' : World} (h : DR B V Z r a len cap w W) (hV : V ≠ B) (hZ : Z ≠ B) (ho : Only B W W') (hc : Cur W' B a len cap) : DR B V Z r a len cap w W' :=
  ⟨h.sv.only ho hV, h.sz.only ho hZ, h.on.trans ho, hc⟩
theorem DR.alloc {B V Z : Nat} {r : Rn} {a : Option Addr} {len cap : Nat} {w W : World} (h : DR B V Z r a len cap w W) (c : Array Value) (t : TypeId) : DR B V Z r a len cap w (W.alloc (.cells c t)) :=
  ⟨h.sv.alloc _, h.sz.alloc _, h.on.alloc _, h.cu.alloc _ _⟩
theorem DR.drew {B V Z : Nat} {r : Rn} {a : Option Addr} {len cap : Nat} {w W : World} (h : DR B V Z r a len cap w W) : DR B V Z r a len cap w W.drew := ⟨h.sv.drew, h.sz.drew, h.on.drew, h.cu.drew⟩
theorem DR.setX {B V Z X : Nat} {r q : Rn} {a : Option Addr} {len cap : Nat} {w W : World} (h : DR B V Z r a len cap w W) (hV : V ≠ X) (hZ : Z ≠ X) (hw : w.heap.size ≤ X) (hB : B < X) : DR B V Z r a len cap w (putRn W X q) :=
  ⟨put_other h.sv hV q, put_other h.sz hZ q, (Only.setNew (Only.setNew (Only.setNew (Only.setNew (Only.setNew (Only.setNew (Only.setNew (Only.setNew (Only.setNew (Only.setNew h.on hw _) hw _) hw _) hw _) hw _) hw _) hw _) hw _) hw _) hw _), (Cur.setNew (Cur.setNew (Cur.setNew (Cur.setNew (Cur.setNew (Cur.setNew (Cur.setNew (Cur.setNew (Cur.setNew (Cur.setNew h.cu hB _) hB _) hB _) hB _) hB _) hB _) hB _) hB _) hB _) hB _)⟩
theorem DR.setV {B V Z : Nat} {r q : Rn} {a : Option Addr} {len cap : Nat} {w W : World} (h : DR B V Z r a len cap w W) (hZ : Z ≠ V) (hw : w.heap.size ≤ V) (hB : B < V) : DR B V Z q a len cap w (putRn W V q) :=
  ⟨put_sits h.sv q, put_other h.sz hZ q, (Only.setNew (Only.setNew (Only.setNew (Only.setNew (Only.setNew (Only.setNew (Only.setNew (Only.setNew (Only.setNew (Only.setNew h.on hw _) hw _) hw _) hw _) hw _) hw _) hw _) hw _) hw _) hw _), (Cur.setNew (Cur.setNew (Cur.setNew (Cur.setNew (Cur.setNew (Cur.setNew (Cur.setNew (Cur.setNew (Cur.setNew (Cur.setNew h.cu hB _) hB _) hB _) hB _) hB _) hB _) hB _) hB _) hB _) hB _)⟩
theorem sent_good {r : Rn} {b : Int} (h : r.sentB b = true) : (r.sentF b).good = true := by
  obtain ⟨hg, h1, h2, h3, h4⟩ := (r.sentB_iff b).1 h
  obtain ⟨g1, g2, g3, g4, g5, g6, g7, g8, g9, g10, g11, g12, g13, g14, g15, g16, g17, g18⟩ := r.good_iff.1 hg
  unfold Rn.sentF
  rw [if_pos h]
  exact (Rn.good_iff _).2 ⟨g1, g2, g3, g4, g5, g6, g7, g8, g9, by dsimp only; omega, by dsimp only; omega, g12, g13, g14, by dsimp only; omega, g16, by dsimp only; omega, g18⟩
theorem out_good {r : Rn} (h : r.outB = true) : r.outF.good = true := by
  obtain ⟨hg, h1⟩ : r.good = true ∧ 0 < r.fl := by unfold Rn.outB at h; simpa using h
  obtain ⟨k1, k2⟩ := Rn.half_in hg
  unfold Rn.outF
  rw [if_pos h]
  exact anew_good hg k1 k2

end Go.Proofs.Ytfflheebjbdnoae
