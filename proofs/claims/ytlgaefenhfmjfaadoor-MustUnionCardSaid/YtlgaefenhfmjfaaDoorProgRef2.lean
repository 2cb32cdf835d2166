/- The document's own telling of nodes, walked: Row, size, May. -/
import Derived.Test.YtlgaefenhfmjfaaDoorPu1
import Derived.Test.YtlgaefenhfmjfaaDoorPu2
namespace Go.Proofs.YtlgaefenhfmjfaaDoor
open Go.RowKit
theorem kinds (k : Int) (h0 : 0 ≤ k) (h9 : k ≤ 9) : k = 0 ∨ k = 1 ∨ k = 2 ∨ k = 3 ∨ k = 4 ∨ k = 5 ∨ k = 6 ∨ k = 7 ∨ k = 8 ∨ k = 9:=by omega
theorem jI : (Tryd.prog.info? 24).map (·.size) = some 4:=by kernel_rfl
end Go.Proofs.YtlgaefenhfmjfaaDoor
