/- In a region that draws its order: a load of a block known whole. Nothing of the program. -/
import Derived.Test.YtpiadeedgjmmkaaDoorWhole
import Derived.StillTailTactics
namespace Go.Proofs.YtpiadeedgjmmkaaDoor
open Go.RowKit
set_option linter.unusedVariables false

section
variable {P : Program}
theorem wpStill_load_row {ops : Array Oper} {w : World} {Q : Act → Prop} {a : Act} {op : Oper} {rest : List Oper} (hgd : op.guard = none) (ty : TypeId) (x : Operand) (ho : op.op = .load ty x)
    (g : Nat) (u : TypeId) (cs : Array Value) (hx : a.eval x = .pointer (some ⟨g, 0, none⟩)) (hr : Row w g u cs) (d : TypeDesc) (hu : P.underlying ty = some d) (hd : d.isRow = true) (hi : (P.info? ty).map (·.size) = some cs.size)
    (h : wpStill P ops w Q rest (a.put op.dst (.agg cs))) : wpStill P ops w Q (op :: rest) a :=
  wpStill_step fun K hK => by
    have e : (execOp a.eval op).run P w = .ok (.value (.agg cs)) w := by
      unfold execOp
      simp only [ho, hx, Instr.loadAt, Instr.sureAddr, Sem.run_bind, Sem.run_pure, Result.andThen_ok, loadVar_row hr hu hd hi]
    rw [if_pos (by unfold Region.wanted; rw [hgd])]
    unfold Oper.still
    rw [e, Oper.stillUpon_value]
    exact hK _ h
end
end Go.Proofs.YtpiadeedgjmmkaaDoor
