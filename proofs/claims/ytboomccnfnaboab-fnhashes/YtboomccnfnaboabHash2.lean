/-
  THE HASH OF A FLOW: stirred, FlowHash OF BOTH SIDES.
-/
import Derived.Test.YtboomccnfnaboabHash
import Derived.Test.YtboomccnfnaboabTup
import Derived.Laws.BitsAllLaws
namespace Go.Proofs.Ytboomccnfnaboab
open Go.RowKit
set_option linter.unusedVariables false

theorem mixF_bd (a b c : Int) : 0 ≤ mixF a b c ∧ mixF a b c ≤ 4294967295 := mC2_bd _ _ _

set_option maxHeartbeats 1000000 in
theorem stirred_any (a b c : Int) (w : World) (ha : 0 ≤ a ∧ a ≤ 4294967295) (hb : 0 ≤ b ∧ b ≤ 4294967295) (hc : 0 ≤ c ∧ c ≤ 4294967295) :
    Calls Try.prog 54 #[.int .i64 a, .int .i64 b, .int .i64 c] w fun e w' => e = .returned (.int .i64 (mixF a b c)) ∧ Below w.heap.size w w' := by
  obtain ⟨m, hm⟩ : ∃ m, mixF a b c = m := ⟨_, rfl⟩
  have bm : 0 ≤ m ∧ m ≤ 4294967295 := hm ▸ mixF_bd a b c
  have HM : Hid (mixF a b c = m) := hm
  rw [hm]
  clear hm
  go_enter Try.func54, Try.ntmps54
  go_wp2_with (go_at_call 72; refine (stir_any w.heap.size a b c 126 _ ha hb hc (by first | exact Lies.new _ _ _ | exact w3_set2 (w3_set1 (w3_set0 (Lies.new _ _ _) _) _) _)).mono ?_; rintro e w1 ⟨rfl, hl, hb1⟩; obtain ⟨x0, x1, x2⟩ := w3_cells hl; replace x2 : w1.cell? ⟨w.heap.size, 2, none⟩ = some (.int .u32 m) := x2.trans (congrArg (fun z => some (Value.int .u32 z)) HM.out))
  go_ret
  exact ⟨rfl, Below.trans (by go_grown) hb1⟩

def hashOk (p s d sp dp z : Int) : Bool := okB p 8 && (okB s 32 && (okB d 32 && (okB sp 16 && (okB dp 16 && okB z 32))))
def hashF (p s d sp dp z : Int) : Int := if hashOk p s d sp dp z = true then mixF (mixF s d z) (sp * 65536 + dp) p else -1
theorem t5_cells {W : World} {B : Nat} {a b c d e : Value} {t : TypeId} (h : Lies W B #[a, b, c, d, e] t) : W.cell? ⟨B, 0, none⟩ = some a ∧ W.cell? ⟨B, 1, none⟩ = some b ∧ W.cell? ⟨B, 2, none⟩ = some c ∧ W.cell? ⟨B, 3, none⟩ = some d ∧ W.cell? ⟨B, 4, none⟩ = some e := by
  have h' : W.heap[B]? = some (.cells #[a, b, c, d, e] t) := h
  refine ⟨?_, ?_, ?_, ?_, ?_⟩ <;> simp [World.cell?, h']
theorem okB_8 {n : Int} (h : okB n 8 = true) : 0 ≤ n ∧ n ≤ 255 := by simp [okB] at h; omega
theorem okB_16 {n : Int} (h : okB n 16 = true) : 0 ≤ n ∧ n ≤ 65535 := by simp [okB] at h; omega
theorem okB_32 {n : Int} (h : okB n 32 = true) : 0 ≤ n ∧ n ≤ 4294967295 := by simp [okB] at h; omega
theorem or16 (a b : Int) (ha : 0 ≤ a ∧ a ≤ 65535) (hb : 0 ≤ b ∧ b ≤ 65535) : bits .or .u32 (a * 65536) b = a * 65536 + b := by
  rw [u32_or _ _ (by omega) (by omega) (by omega) (by omega)]
  obtain ⟨a, rfl⟩ := Int.eq_ofNat_of_zero_le ha.1
  obtain ⟨b, rfl⟩ := Int.eq_ofNat_of_zero_le hb.1
  have h1 : ((a : Int) * 65536).toNat = a <<< 16 := by rw [Nat.shiftLeft_eq]; omega
  have h2 : (b : Int).toNat = b := by omega
  rw [h1, h2, ← Nat.shiftLeft_add_eq_or_of_lt (by omega : b < 2 ^ 16), Nat.shiftLeft_eq]
  omega

set_option maxHeartbeats 2000000 in
theorem ihash_any (p s d sp dp z : Int) (w : World) (hp : -9223372036854775808 ≤ p ∧ p ≤ 9223372036854775807) (hs : -9223372036854775808 ≤ s ∧ s ≤ 9223372036854775807) (hd : -9223372036854775808 ≤ d ∧ d ≤ 9223372036854775807) (hsp : -9223372036854775808 ≤ sp ∧ sp ≤ 9223372036854775807) (hdp : -9223372036854775808 ≤ dp ∧ dp ≤ 9223372036854775807) (hz : -9223372036854775808 ≤ z ∧ z ≤ 9223372036854775807) :
    Calls Try.prog 19 #[.agg #[.int .i64 p, .int .i64 s, .int .i64 d, .int .i64 sp, .int .i64 dp], .int .i64 z] w fun e w' => e = .returned (.int .i64 (hashF p s d sp dp z)) ∧ Below w.heap.size w w' := by
  have hok : hashOk p s d sp dp z = (flB p s d sp dp && okB z 32) := by simp [hashOk, flB, Bool.and_assoc]
  cases hf : flB p s d sp dp
  case false =>
    have HE : Hid (hashF p s d sp dp z = -1) := by show _ = _; simp [hashF, hok, hf]
    rw [HE.out]
    clear hok
    go_enter Try.func19, Try.ntmps19
    go_wp2_with (first | (go_at_call 52; refine (flowOk_any p s d sp dp _ hp hs hd hsp hdp).mono ?_; rintro e w1 ⟨rfl, b1⟩; rw [hf]) | (go_at_call 53; refine (hasBits_any _ _ _ (by omega) (by omega) (by unfold Wide5; omega)).mono ?_; rintro e w' ⟨rfl, rfl⟩))
    go_ret
    exact ⟨rfl, Below.trans ((Below.refl w.heap.size w).alloc (Nat.le_refl _) _) (b1.mono (by simp))⟩
  case true =>
  cases hz6 : okB z 32
  case false =>
    have HE : Hid (hashF p s d sp dp z = -1) := by show _ = _; simp [hashF, hok, hf, hz6]
    rw [HE.out]
    clear hok
    go_enter Try.func19, Try.ntmps19
    go_wp2_with (first | (go_at_call 52; refine (flowOk_any p s d sp dp _ hp hs hd hsp hdp).mono ?_; rintro e w1 ⟨rfl, b1⟩; rw [hf]) | (go_at_call 53; refine (hasBits_any _ _ _ (by omega) (by omega) (by unfold Wide5; omega)).mono ?_; rintro e w' ⟨rfl, rfl⟩))
    go_ret
    exact ⟨rfl, Below.trans ((Below.refl w.heap.size w).alloc (Nat.le_refl _) _) (b1.mono (by simp))⟩
  case true =>
    have HE : Hid (hashF p s d sp dp z = mixF (mixF s d z) (sp * 65536 + dp) p) := by show _ = _; simp [hashF, hok, hf, hz6]
    rw [HE.out]
    clear hok HE
    have hfl := hf
    simp only [flB, Bool.and_eq_true] at hfl
    obtain ⟨h1, h2, h3, h4, h5⟩ := hfl
    replace h1 := okB_8 h1; replace h2 := okB_32 h2; replace h3 := okB_32 h3; replace h4 := okB_16 h4; replace h5 := okB_16 h5
    have h6 := okB_32 hz6
    obtain ⟨X, hX⟩ : ∃ m, mixF s d z = m := ⟨_, rfl⟩
    have bX : 0 ≤ X ∧ X ≤ 4294967295 := hX ▸ mixF_bd s d z
    rw [hX]
    have c1 : Hid (∀ W : World, Calls Try.prog 54 #[.int .i64 s, .int .i64 d, .int .i64 z] W fun e w' => e = .returned (.int .i64 X) ∧ Below W.heap.size W w') := fun W => by rw [← hX]; exact stirred_any s d z W h2 h3 h6
    clear hX
    obtain ⟨Z, hZ⟩ : ∃ m, mixF X (sp * 65536 + dp) p = m := ⟨_, rfl⟩
    rw [hZ]
    obtain ⟨Y, hY⟩ : ∃ y, sp * 65536 + dp = y := ⟨_, rfl⟩
    have bY : 0 ≤ Y ∧ Y ≤ 4294967295 := by omega
    have c2 : Hid (∀ W : World, Calls Try.prog 54 #[.int .i64 X, .int .i64 Y, .int .i64 p] W fun e w' => e = .returned (.int .i64 Z) ∧ Below W.heap.size W w') := fun W => by rw [← hZ, hY]; exact stirred_any X Y p W bX bY (by omega)
    clear hZ
    have e1 : IntKind.i64.wrap (sp * 65536) = sp * 65536 := by rw [IntKind.wrap_i64]; omega
    have e3 : IntKind.i64.wrap Y = Y := by rw [IntKind.wrap_i64]; omega
    go_enter Try.func19, Try.ntmps19
    go_wp2_with (first | (go_at_call 52; refine (flowOk_any p s d sp dp _ hp hs hd hsp hdp).mono ?_; rintro e w1 ⟨rfl, b1⟩; rw [hf]; have lT : Lies w1 w.heap.size #[.int .i64 p, .int .i64 s, .int .i64 d, .int .i64 sp, .int .i64 dp] 40 := Lies.below (Lies.new w _ _) b1 (Lies.lt (Lies.new w _ _))) | (go_at_call 53; refine (hasBits_any _ _ _ (by omega) (by omega) (by unfold Wide5; omega)).mono ?_; rintro e w' ⟨rfl, rfl⟩))
    rename World => w1
    have hSB : ∀ W, Below w1.heap.size w1 W → W.cell? ⟨w.heap.size, 0, none⟩ = some (.int .i64 p) ∧ W.cell? ⟨w.heap.size, 1, none⟩ = some (.int .i64 s) ∧ W.cell? ⟨w.heap.size, 2, none⟩ = some (.int .i64 d) ∧ W.cell? ⟨w.heap.size, 3, none⟩ = some (.int .i64 sp) ∧ W.cell? ⟨w.heap.size, 4, none⟩ = some (.int .i64 dp) := fun W hW => t5_cells (lT.below hW lT.lt)
    go_region_held3 (fun w' => w'.cell? ⟨w.heap.size, 0, none⟩ = some (.int .i64 p) ∧ w'.cell? ⟨w.heap.size, 1, none⟩ = some (.int .i64 s) ∧ w'.cell? ⟨w.heap.size, 2, none⟩ = some (.int .i64 d) ∧ w'.cell? ⟨w.heap.size, 3, none⟩ = some (.int .i64 sp) ∧ w'.cell? ⟨w.heap.size, 4, none⟩ = some (.int .i64 dp)) (first | exact hSB _ (by (repeat first | (with_reducible exact Below.refl _ _) | (with_reducible assumption) | (with_reducible apply Below.drew))) | fail) (first | (go_at_call_of 54 s; refine (c1.out _).mono ?_; rintro e w2 ⟨rfl, b2⟩; have hb2 : Below w1.heap.size w1 w2 := Below.trans (by (repeat first | (with_reducible exact Below.refl _ _) | (with_reducible assumption) | (with_reducible apply Below.drew))) b2) | (go_at_call_of 54 X; refine (c2.out _).mono ?_; rintro e w3 ⟨rfl, b3⟩; have hb3 : Below w1.heap.size w1 w3 := Below.trans hb2 (b3.mono hb2.size)))
    all_goals
      go_wp2
      go_ret
      exact ⟨rfl, (Below.trans ((Below.refl w.heap.size w).alloc (Nat.le_refl _) _) (b1.mono (by simp))).trans (hb3.mono (Nat.le_of_lt lT.lt))⟩

def Tu.In (t : Tu) : Prop := (-9223372036854775808 ≤ t.proto ∧ t.proto ≤ 9223372036854775807) ∧ (-9223372036854775808 ≤ t.src ∧ t.src ≤ 9223372036854775807) ∧ (-9223372036854775808 ≤ t.dst ∧ t.dst ≤ 9223372036854775807) ∧ (-9223372036854775808 ≤ t.srcP ∧ t.srcP ≤ 9223372036854775807) ∧ (-9223372036854775808 ≤ t.dstP ∧ t.dstP ≤ 9223372036854775807)

end Go.Proofs.Ytboomccnfnaboab
