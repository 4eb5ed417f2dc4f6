/-
  A BYTE DRAWN AT A STEP OF A REGION THAT DRAWS ITS ORDER.
-/
import Derived.Test.YtkhfcemjmnjkdaaDrawR1
import Derived.Deep.RegionLaw
namespace Go.Proofs.Ytkhfcemjmnjkdaa
open Go.RowKit
set_option linter.unusedVariables false

theorem step_byte {w : World} {ops : Array Oper} {o : Oper} {act : Act} {K : Act → World → Prop} {Q : Exit → Act → World → Prop} {E : Prop} (hgd : o.guard = none) (x : Operand) (ty : TypeId)
    (ho : o.op = .call { callee := .value (.func 29), args := #[x], argTypes := #[ty] })
    (B : Nat) (hx : act.eval x = .pointer (some ⟨B, 0, none⟩)) (a : Option Addr) (len cap : Nat) (hc : Cur w B a len cap)
    (h : ∀ v w', 0 ≤ v → v ≤ 255 → Cur w' B a len cap → Only B w w' → K (act.put o.dst (.int .i64 v)) w') :
    if Region.wanted o (yielded ops act.tmps) = true then Oper.wp Try.prog o act w K Q else E := by
  have hw : Region.wanted o (yielded ops act.tmps) = true := by simp [Region.wanted, hgd]
  rw [if_pos hw]
  unfold Oper.wp
  have he : (execOp act.eval o).run Try.prog w = .ok (.enter 29 #[.pointer (some ⟨B, 0, none⟩)]) w := by
    have hfun := Try.func29
    simp [execOp, ho, resolve, invoke, go_sem, Act.eval]
    simpa [Act.eval] using hx
  rw [he, Oper.upon_enter]
  refine (byte_any B a len cap w hc).mono ?_
  rintro e w' ⟨v, rfl, v0, v1, cc, oo⟩
  exact h v w' v0 v1 cc oo

end Go.Proofs.Ytkhfcemjmnjkdaa
