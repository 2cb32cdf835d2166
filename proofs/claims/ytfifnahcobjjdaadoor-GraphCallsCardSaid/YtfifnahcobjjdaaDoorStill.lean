/- A statement whose last operation alone writes ('go_still_tail'): an operation that its guard leaves out, by looking. -/
import Derived.Test.YtfifnahcobjjdaaDoorPk16
import Derived.StillTailTactics
namespace Go.Proofs.YtfifnahcobjjdaaDoor

section
variable {P : Program} {ops : Array Oper} {w : World} {Q : Act → Prop} {a : Act} {o : Oper} {rest : List Oper}
theorem still_skip (hw : Region.wanted o (yielded ops a.tmps) = false) (h : wpStill P ops w Q rest (a.put o.dst undef)) : wpStill P ops w Q (o :: rest) a := by
  unfold wpStill
  rw [if_neg (by rw [hw]; exact Bool.false_ne_true)]
  exact h
theorem still_move (hw : Region.wanted o (yielded ops a.tmps) = true) (x : Operand) (v : Value) (ho : o.op = .move x) (hv : a.eval x = v) (h : wpStill P ops w Q rest (a.put o.dst v)) : wpStill P ops w Q (o :: rest) a := by
  subst hv
  have e : (execOp a.eval o).run P w = .ok (.value (a.eval x)) w := by
    unfold execOp
    rw [ho]
    rfl
  unfold wpStill
  rw [if_pos hw]
  unfold Oper.still
  rw [e]
  exact ⟨rfl, h⟩
theorem still_pick (hw : Region.wanted o (yielded ops a.tmps) = true) (c x y : Operand) (b : Bool) (v : Value) (ho : o.op = .pick c x y) (hc : a.eval c = .bool b) (hv : (if b then a.eval x else a.eval y) = v) (h : wpStill P ops w Q rest (a.put o.dst v)) : wpStill P ops w Q (o :: rest) a := by
  subst hv
  have e : (execOp a.eval o).run P w = .ok (.value (if b then a.eval x else a.eval y)) w := by
    unfold execOp
    rw [ho]
    cases b <;> (simp [hc]; rfl)
  unfold wpStill
  rw [if_pos hw]
  unfold Oper.still
  rw [e]
  exact ⟨rfl, h⟩
end
end Go.Proofs.YtfifnahcobjjdaaDoor
