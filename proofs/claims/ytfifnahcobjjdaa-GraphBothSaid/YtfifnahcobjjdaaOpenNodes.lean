/- A slice of nodes that comes in as an argument. -/
import Derived.Test.YtfifnahcobjjdaaPk1
namespace Go.Proofs.Ytfifnahcobjjdaa
open Go.ChangeShapes Go.WideShapes Go.RowKit Go.Deep

section
variable {H : Type} {enc : TypeId × Value → H} {P : Program} {w : World} {base : Nat} {held : Bool}
theorem slice_nodes {t e : TypeId} {f0 f1 f2 f3 : Field} {a : Option Addr} {len cap : Nat} {d : DataW H} {ps : List MemPlace} (ht : P.underlying t = some (.slice e)) (he : P.underlying e = some (.struct #[f0, f1, f2, f3]))
    (hone : oneCellFields P #[f0, f1, f2, f3] = true) (hC : P.cellsOf e = 4) (h0 : P.underlying f0.type = some (.int .i64)) (h1 : P.underlying f1.type = some (.int .i64)) (h2 : P.underlying f2.type = some (.int .i64)) (h3 : P.underlying f3.type = some (.int .i64))
    (h : DataW.Trod enc P w base (fun _ => true) held t (.slice a len cap) d ps) : ∃ f : Fn, f.A = a ∧ f.len = len ∧ f.cap = cap ∧ f.Ok w w.heap.size := by
  obtain ⟨fuel, h⟩ := h
  obtain ⟨f, e1, hf⟩ := cell_nodes ht he hone hC h0 h1 h2 h3 h
  unfold fnV at e1
  injection e1 with e2 e3 e4
  exact ⟨f, e2.symm, e3.symm, e4.symm, hf⟩
end
end Go.Proofs.Ytfifnahcobjjdaa
