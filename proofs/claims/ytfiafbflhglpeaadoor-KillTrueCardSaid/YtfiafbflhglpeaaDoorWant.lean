/- Blocks read whole, under a guard. -/
import Derived.Test.YtfiafbflhglpeaaDoorPk1
import Derived.BigFrame
namespace Go.Proofs.YtfiafbflhglpeaaDoor
open Go.RowKit
theorem lR {P : Program} {ops : Array Oper} {rest : List Oper} {o : Oper} {a : Act} {w : World} {Q : Exit → Act → World → Prop} (hgd : Region.wanted o (yielded ops a.tmps) = true) (ty : TypeId) (x : Operand) (ho : o.op = .load ty x)
    (g : Nat) (hx : a.eval x = .pointer (some ⟨g,0,none⟩)) (t : TypeId) (cs : List Value) (d : TypeDesc) (hg : Blk w g t cs)
    (hu : P.underlying ty = some d) (hd : (match d with | .struct _ | .array _ _ => true | _ => false) = true) (hi : (P.info? ty).map (·.size) = some cs.length)
    (h : wpList P ops Q rest (a.put o.dst (.agg cs.toArray)) w) : wpList P ops Q (o :: rest) a w:=by
  exact BigFrame.wpList_want hgd fun _ hK => wp_load_row ty x ho g hx t cs.toArray (0,0) d hg hu hd (by simpa using hi) (hK _ _ h)
end Go.Proofs.YtfiafbflhglpeaaDoor
