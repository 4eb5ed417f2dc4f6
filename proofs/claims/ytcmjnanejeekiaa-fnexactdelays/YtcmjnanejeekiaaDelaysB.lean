/-
  HOW LONG THOSE WAITED THAT WENT OUT: Delays OF BOTH SIDES.
-/
import Derived.Test.YtcmjnanejeekiaaTraceI
import Derived.Test.YtcmjnanejeekiaaAppIn
import Derived.Test.YtcmjnanejeekiaaQOps
import Derived.Test.YtcmjnanejeekiaaRegInv
import Derived.OrdersHeld
import Derived.Deep.RegionHeld3
namespace Go.Proofs.Ytcmjnanejeekiaa
open Go.RowKit Go.Shelf
set_option linter.unusedVariables false
attribute [local go_sem] Oper.semAt_some

def dl (T : Tr) (j : Nat) : Int := T.t j - (T.o j).tm
def dlF (T : Tr) (k : Nat) : List Int := (List.range k).map (dl T)
def dlR (T : Tr) : List Int := if trB T then dlF T T.no else []
def dlL {len : Nat} (T : Tr) (pre : List (Upto len)) : List Int := pre.map fun x => dl T x.1
theorem dlL_snoc {len : Nat} (T : Tr) (pre : List (Upto len)) (x : Upto len) : dlL T (pre ++ [x]) = dlL T pre ++ [dl T x.1] := by unfold dlL; rw [List.map_append]; rfl
theorem dlL_len {len : Nat} (T : Tr) (pre : List (Upto len)) : (dlL T pre).length = pre.length := by simp [dlL]
theorem dlL_all {len : Nat} (T : Tr) (zs : List (Upto len)) (h : zs.map (·.1) = List.range len) : dlL T zs = dlF T len := by unfold dlL dlF; rw [← h, List.map_map]; rfl
theorem dlF_len (T : Tr) (k : Nat) : (dlF T k).length = k := by simp [dlF]
theorem dl_bd {T : Tr} (h : trP T) {j : Nat} (hj : j < T.no) : (0 ≤ (T.o j).tm ∧ (T.o j).tm ≤ 1000000000000) ∧ ((T.o j).tm ≤ T.t j ∧ T.t j ≤ 1000000000000) := by
  have h1 := h.2.2.2.1 j hj
  have h2 := (good_nums h1.1).2.1
  exact ⟨h2, h1.2⟩
theorem oi_jo {base : Nat} {w : World} {x : Option Addr} {k cap : Nat} {T : Tr} (h : JO base w x k cap (dl T)) : OI base w x cap (dlF T k) := by
  unfold OI
  rw [dlF_len]
  have e : (dlF T k).map (Value.int .i64) = inL (dl T) k := by simp [dlF, inL]
  rw [e]
  exact h

set_option maxRecDepth 100000 in
set_option maxHeartbeats 4000000 in
theorem sdelays_any (T : Tr) (A : Ta) (w : World) (hA : TrAt w T A) :
    Calls Try.prog 14 #[T.val A] w fun e w' => ∃ (x : Option Addr) (cap : Nat), e = .returned (.slice x (dlR T).length cap) ∧ OI w.heap.size w' x cap (dlR T) ∧ Below w.heap.size w w' := by
  have HA : Hid (∀ V, Below w.heap.size w V → TrAt V T A) := fun V h => hA.below h
  clear hA
  have HB0 : Hid (Below w.heap.size w (w.alloc (.cells (trCells T A) 36))) := (Below.refl _ w).alloc (Nat.le_refl _) _
  have HS0 : Hid (Sits (w.alloc (.cells (trCells T A) 36)) w.heap.size (trCells T A) 36) := Sits.new w _ _
  cases hb : trB T
  case false =>
    have hE : dlR T = [] := by unfold dlR; rw [hb]; rfl
    rw [hE]
    have HG : Hid (trB T = false) := hb
    clear hb hE
    go_enter Try.func14, Try.ntmps14
    go_wp2_with (go_at_call 25; refine (straceOk_any T A _ ((HA.out) _ HB0.out)).mono ?_; rintro e w1 ⟨rfl, b1⟩; rw [HG.out])
    go_ret
    exact ⟨none, 0, rfl, World.ownsRow_nil _ _ _ _, (HB0.out).trans (b1.mono (HB0.out).size)⟩
  case true =>
    have hE : dlR T = dlF T T.no := by unfold dlR; rw [hb]; rfl
    rw [hE, dlF_len]
    have HG : Hid (trB T = true) := hb
    have htp : trP T := of_decide_eq_true hb
    have HTP : Hid (trP T) := htp
    clear hb hE htp
    go_enter Try.func14, Try.ntmps14
    go_wp2_with (go_at_call 25; refine (straceOk_any T A _ ((HA.out) _ HB0.out)).mono ?_; rintro e w1 ⟨rfl, b1⟩; rw [HG.out])
    have HB1 : Hid (Below w.heap.size w w1) := (HB0.out).trans (b1.mono (HB0.out).size)
    have HS1 : Hid (Sits w1 w.heap.size (trCells T A) 36) := Sits.below HS0.out b1 (Sits.lt HS0.out)
    clear b1 HB0 HS0
    go_loopw [3, 4] (fun v i wr => ∃ (k : Nat) (x : Option Addr) (cap : Nat), k ≤ T.no ∧ i = .int .i64 k ∧ v = .slice x k cap ∧ JO w1.heap.size wr x k cap (dl T) ∧ Below w1.heap.size w1 wr) (fun _ i _ => T.no - (intOf i).toNat)
    case atStart => exact ⟨0, none, 0, Nat.zero_le _, rfl, rfl, JO.nil _ _ _, Below.refl _ _⟩
    case round =>
      obtain ⟨k, x, cap, hk, rfl, rfl, hjo, hB⟩ := hrel
      have HJ : Hid (JO w1.heap.size wr x k cap (dl T)) := hjo
      have HB : Hid (Below w1.heap.size w1 wr) := hB
      have hs1 := Sits.below HS1.out hB (Sits.lt HS1.out)
      have hkb : (k : Int) ≤ 120 := by have := (HTP.out).2.1; omega
      have hkn : k ≤ 1048576 := by omega
      obtain ⟨x0, x1, x2, x3, x4, x5⟩ := tr_cells hs1
      have hsz := hB.size
      have hsw := (HB1.out).size
      have hlw := Sits.lt HS1.out
      by_cases hlt : k < T.no
      · have hlt2 : k < T.nt := by rw [(HTP.out).1]; exact hlt
        have hBw : Below w.heap.size w wr := (HB1.out).trans (hB.mono hsw)
        obtain ⟨b, off, hbe, hbl, hcs⟩ := PR.at ((HA.out) _ HB1.out).o hlt
        obtain ⟨b2, o2, hbe2, hbl2, hcs2⟩ := Row.at ((HA.out) _ HB1.out).t hlt2
        obtain ⟨_, _, _, _, c4, _⟩ := (hcs k hlt).below hB hbl
        have ct : wr.cell? ⟨b2, o2 + k, none⟩ = some (.int .i64 (T.t k)) := (hB.cell (p := ⟨b2, o2 + k, none⟩) hbl2).trans (hcs2 k hlt2)
        rw [hbe] at x1
        rw [hbe2] at x4
        obtain ⟨⟨d0, d1⟩, d2, d3⟩ := dl_bd HTP.out hlt
        have hwr : IntKind.i64.wrap (T.t k - (T.o k).tm) = T.t k - (T.o k).tm := by rw [IntKind.wrap_i64]; omega
        have HSK : Hid (∀ V, Below w1.heap.size wr V → (V.cell? ⟨w.heap.size, 1, none⟩ = some (.slice (some ⟨b, off, none⟩) T.no A.co) ∧ V.cell? ⟨w.heap.size, 4, none⟩ = some (.slice (some ⟨b2, o2, none⟩) T.nt A.ct)) ∧ (V.cell? ⟨b, off + k * 6 + 4, none⟩ = some (.int .i64 (T.o k).tm) ∧ V.cell? ⟨b2, o2 + k, none⟩ = some (.int .i64 (T.t k)))) := fun V hV => ⟨⟨(hV.cell (p := ⟨w.heap.size, 1, none⟩) hlw).trans x1, (hV.cell (p := ⟨w.heap.size, 4, none⟩) hlw).trans x4⟩, (hV.cell (p := ⟨b, off + k * 6 + 4, none⟩) hbl).trans c4, (hV.cell (p := ⟨b2, o2 + k, none⟩) hbl2).trans ct⟩
        clear hcs hcs2 hjo hs1 hbe hbe2 hB
        go_wp2
        set_option maxRecDepth 100000 in go_region_held3 (fun w' => (w'.cell? ⟨w.heap.size, 1, none⟩ = some (.slice (some ⟨b, off, none⟩) T.no A.co) ∧ w'.cell? ⟨w.heap.size, 4, none⟩ = some (.slice (some ⟨b2, o2, none⟩) T.nt A.ct)) ∧ (w'.cell? ⟨b, off + k * 6 + 4, none⟩ = some (.int .i64 (T.o k).tm) ∧ w'.cell? ⟨b2, o2 + k, none⟩ = some (.int .i64 (T.t k)))) (first | exact HSK.out _ (by go_grown) | exact HSK.out _ hb3)
          (first | (refine step_append_in1 (by rfl) _ _ (by rfl) w1.heap.size x k cap (dl T) (by rfl) (JO.alloc (w := wr.drew) HJ.out _) wr.heap.size (T.t k - (T.o k).tm) (by rfl) (World.cell?_alloc_new wr.drew _ _ 0) hkn (by simp; omega) ?_; intro g3 cap3 w3 ho3 hg3 _ _; have hb3 : Below w1.heap.size wr w3 := ((Below.refl w1.heap.size wr).drew.alloc hsz (.cells #[.int .i64 (T.t k - (T.o k).tm)] 3)).grown hg3 (by simp; omega) (fun j e => (JO.own_lt HJ.out j e).1)))
        go_wp2
        go_roundw
        case rel => exact ⟨k + 1, _, _, by omega, by go_num, rfl, ho3.congr fun i hi => by by_cases e : i = k <;> simp [e, dl], (HB.out).trans hb3⟩
        case measure => simp [intOf]; omega
      · obtain rfl : k = T.no := by omega
        clear hjo hB
        go_wp2
        go_ret
        exact ⟨x, cap, rfl, World.ownsRow.mono (oi_jo HJ.out) hsw, (HB1.out).trans ((HB.out).mono hsw)⟩

end Go.Proofs.Ytcmjnanejeekiaa
