/-
  SAMPLES AND BACK-OFFS, by numbers.
-/
import Derived.Test.YthdlpgehojdhkafRttB
import Derived.Test.YthdlpgehojdhkafDrawR0
import Derived.Deep.RegionWith
import Derived.Deep.Cut
namespace Go.Proofs.Ythdlpgehojdhkaf
open Go.RowKit
set_option linter.unusedVariables false

/-- The greater, the less one. -/
def mxF (a b : Int) : Int := if b < a then a else b
def mnF (a b : Int) : Int := if a < b then a else b
theorem mxF_bd (a b : Int) : a ≤ mxF a b ∧ b ≤ mxF a b ∧ (mxF a b = a ∨ mxF a b = b) := by unfold mxF; split <;> omega
theorem mnF_bd (a b : Int) : mnF a b ≤ a ∧ mnF a b ≤ b ∧ (mnF a b = a ∨ mnF a b = b) := by unfold mnF; split <;> omega
theorem mxF_comm (a b : Int) : mxF a b = mxF b a := by unfold mxF; (repeat' split) <;> omega
/-- How far two are apart. -/
def apF (a b : Int) : Int := if a < b then b - a else a - b
theorem apF_bd {a b : Int} (h0 : 0 ≤ a) (h1 : a ≤ 60000000) (h2 : 0 ≤ b) (h3 : b ≤ 60000000) : 0 ≤ apF a b ∧ apF a b ≤ 60000000 := by unfold apF; split <;> omega
/-- A sample's Mean and Var; Rto is told behind it. -/
def Rt.smp (r : Rt) (us : Int) : Rt := if r.hs then ⟨true, r.mn + (us - r.mn) / 8, r.vr + (apF us r.mn - r.vr) / 4, r.ro⟩ else ⟨true, us, us / 2, 0⟩
def rtoF (m v : Int) : Int := mnF (mxF (m + mxF (4 * v) 1000) 1000000) 60000000
def Rt.nxt (r : Rt) (us : Int) : Rt := { r.smp us with ro := rtoF (r.smp us).mn (r.smp us).vr }
def Rt.smB (r : Rt) (us : Int) : Bool := r.good && inB us 0 60000000
def Rt.smF (r : Rt) (us : Int) : Rt := if r.smB us then r.nxt us else Rt.zero
def Rt.bak (r : Rt) : Rt := { r with ro := mnF (2 * r.ro) 60000000 }
def Rt.baF (r : Rt) : Rt := if r.good then r.bak else Rt.zero
theorem rtoF_bd (m v : Int) : 1000000 ≤ rtoF m v ∧ rtoF m v ≤ 60000000 ∧ (m ≤ rtoF m v ∨ rtoF m v = 60000000) := by
  unfold rtoF
  have h1 := mxF_bd (4 * v) 1000
  have h2 := mxF_bd (m + mxF (4 * v) 1000) 1000000
  have h3 := mnF_bd (mxF (m + mxF (4 * v) 1000) 1000000) 60000000
  omega
theorem Rt.smp_bd {r : Rt} {us : Int} (hg : r.good = true) (h0 : 0 ≤ us) (h1 : us ≤ 60000000) : (r.smp us).hs = true ∧ 0 ≤ (r.smp us).mn ∧ (r.smp us).mn ≤ 60000000 ∧ 0 ≤ (r.smp us).vr ∧ (r.smp us).vr ≤ 60000000 := by
  obtain ⟨g1, g2, g3, g4, g5, g6, g7⟩ := r.good_iff.1 hg
  have ha := apF_bd h0 h1 g1 g2
  unfold Rt.smp
  split
  · refine ⟨rfl, ?_, ?_, ?_, ?_⟩ <;> dsimp only <;> omega
  · refine ⟨rfl, ?_, ?_, ?_, ?_⟩ <;> dsimp only <;> omega
theorem Rt.nxt_good {r : Rt} {us : Int} (hg : r.good = true) (h0 : 0 ≤ us) (h1 : us ≤ 60000000) : (r.nxt us).good = true := by
  obtain ⟨h, a, b, c, d⟩ := Rt.smp_bd hg h0 h1
  have k := rtoF_bd (r.smp us).mn (r.smp us).vr
  rw [Rt.good_iff]
  unfold Rt.nxt
  dsimp only
  refine ⟨a, b, c, d, k.1, k.2.1, fun h' => ?_⟩
  rw [h] at h'
  cases h'
theorem Rt.bak_good {r : Rt} (hg : r.good = true) : r.bak.good = true := by
  obtain ⟨g1, g2, g3, g4, g5, g6, g7⟩ := r.good_iff.1 hg
  have k := mnF_bd (2 * r.ro) 60000000
  rw [Rt.good_iff]
  unfold Rt.bak
  dsimp only
  exact ⟨g1, g2, g3, g4, by omega, by omega, g7⟩
theorem run_rmax2 (P : Program) (w : World) (ts : Array TypeId) (t : TypeId) (x y : Int) : (Builtin.max_ ts t #[.int .i64 x, .int .i64 y]).run P w = .ok (.int .i64 (mxF y x)) w := by
  unfold mxF
  simp [Builtin.max_, Builtin.max2]
theorem run_rmin2 (P : Program) (w : World) (ts : Array TypeId) (t : TypeId) (x y : Int) : (Builtin.min_ ts t #[.int .i64 x, .int .i64 y]).run P w = .ok (.int .i64 (mnF y x)) w := by
  unfold mnF
  simp [Builtin.min_, Builtin.min2]
theorem wrapr {x : Int} (h0 : -9223372036854775808 ≤ x) (h1 : x ≤ 9223372036854775807) : IntKind.i64.wrap x = x := by rw [IntKind.wrap_i64]; omega
theorem half_up {x : Int} (h : 0 ≤ x) (h1 : x ≤ 60000000) : IntKind.i64.wrap (x.tdiv 2) = x / 2 := by rw [Int.tdiv_eq_ediv_of_nonneg h]; exact wrapr (by omega) (by omega)
theorem rboxes (w : World) (r : Rt) : Sits ((w.alloc (.cells (rtCells r) 24)).alloc (.cells #[.bool false, .int .i64 0, .int .i64 0, .int .i64 0] 24)) w.heap.size (rtCells r) 24 ∧ Sits ((w.alloc (.cells (rtCells r) 24)).alloc (.cells #[.bool false, .int .i64 0, .int .i64 0, .int .i64 0] 24)) (w.heap.size + 1) (rtCells Rt.zero) 24 ∧ Below w.heap.size w ((w.alloc (.cells (rtCells r) 24)).alloc (.cells #[.bool false, .int .i64 0, .int .i64 0, .int .i64 0] 24)) :=
  ⟨Sits.alloc (Sits.new _ _ _) _, Sits.new' (W := w.alloc (.cells (rtCells r) 24)) (by simp), ((Below.refl _ _).alloc (Nat.le_refl _) _).alloc (by simp) _⟩

end Go.Proofs.Ythdlpgehojdhkaf
