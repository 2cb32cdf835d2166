/- What the document's own turning of a word does, walked. -/
import Derived.Test.YtoagmmelklkoaaaDoorRows
import Derived.Test.YtoagmmelklkoaaaDoorBase
import Derived.Test.YtoagmmelklkoaaaDoorShaMath
import Derived.Deep.QuietTactic
import Derived.BigQuiet
namespace Go.Proofs.YtoagmmelklkoaaaDoor
open Go.RowKit

set_option maxRecDepth 100000 in
set_option maxHeartbeats 400000 in
theorem ref_r (x n : Nat) (hx : x < 4294967296) (hn : n ≤ 32) (w : World) :
    Calls Tryd.prog 16 #[.int .u32 (x : Int), .int .i64 (n : Int)] w fun e w' => e = .returned (.int .u32 (H.rot x n : Int)) ∧ ∃ k, w' = w.drewN k := by
  go_enter Tryd.func16, Tryd.ntmps16
  go_wp2
  go_quiet (fail)
  go_wp2
  go_ret
  exact ⟨ret_int (H.rot_bits x n hx), _, rfl⟩
end Go.Proofs.YtoagmmelklkoaaaDoor
