/- The document's own functions of layer 6, walked: Reach. -/
import Derived.Test.YtlgaefenhfmjfaaDoorPu4
namespace Go.Proofs.YtlgaefenhfmjfaaDoor
open Go.RowKit
end Go.Proofs.YtlgaefenhfmjfaaDoor
