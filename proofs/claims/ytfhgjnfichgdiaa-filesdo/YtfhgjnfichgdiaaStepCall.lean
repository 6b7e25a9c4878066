/- A call of a Go function as one step of a region that draws its order. -/
import Derived.Test.YtfhgjnfichgdiaaFrameBase
import Derived.Shelf.Abstract
namespace Go.Proofs.Ytfhgjnfichgdiaa
open Go.RowKit

theorem step_call {ops : Array Oper} {o : Oper} {a : Act} {w : World} {K : Act → World → Prop} {Q : Exit → Act → World → Prop} {E : Prop} {R : Value → World → Prop}
    (f : FuncId) (xs : Array Operand) (ts : Array TypeId) (hg : o.guard = none) (hop : o.op = Op.call { callee := Callee.value (Operand.func f), args := xs, argTypes := ts }) (vals : Array Value) (hv : xs.map a.eval = vals)
    (hE : ∀ args w, (callFunc f args).run Try.prog w = .ok (.enter f args) w) (hC : Calls Try.prog f vals w fun e w' => ∃ v', e = .returned v' ∧ R v' w') (hK : ∀ v' w', R v' w' → K (a.put o.dst v') w') :
    if Region.wanted o (yielded ops a.tmps) = true then Oper.wp Try.prog o a w K Q else E := by
  have hw : Region.wanted o (yielded ops a.tmps) = true := by simp [Region.wanted, hg]
  rw [if_pos hw]
  unfold Oper.wp
  have h : (execOp a.eval o).run Try.prog w = .ok (.enter f vals) w := by
    have he : a.eval (Operand.func f) = .func (.func f) #[] #[] := rfl
    simp [execOp, hop, resolve, invoke, hv, he, Deferred.ofValue, hE]
  rw [h, Oper.upon_enter]
  refine hC.mono ?_
  rintro e w' ⟨v', rfl, hr⟩
  exact hK v' w' hr

end Go.Proofs.Ytfhgjnfichgdiaa
