/- What the program does with more bytes, walked. -/
import Derived.Test.YtoagmmelklkoaaaDoorShaP3
import Derived.Test.YtoagmmelklkoaaaDoorShaHold
import Derived.Test.YtoagmmelklkoaaaDoorArr2
namespace Go.Proofs.YtoagmmelklkoaaaDoor
open Go.RowKit

/-- Block g is a digest on its way, to which bs came. -/
def Holds (w : World) (g : Nat) (bs : List Nat) : Prop := ∃ ws blk, H.HoldM bs ws blk ∧ Blk w g 48 (stC ws blk bs.length)

theorem build_words : ∀ w, (Instr.build 44 #[(0, .int .u32 1779033703), (1, .int .u32 3144134277), (2, .int .u32 1013904242), (3, .int .u32 2773480762), (4, .int .u32 1359893119), (5, .int .u32 2600822924), (6, .int .u32 528734635), (7, .int .u32 1541459225)]).run Tryd.prog w = .ok (.agg #[.int .u32 1779033703, .int .u32 3144134277, .int .u32 1013904242, .int .u32 2773480762, .int .u32 1359893119, .int .u32 2600822924, .int .u32 528734635, .int .u32 1541459225]) w := by
  intro w; kernel_rfl
theorem build_state : ∀ w, (Instr.build 48 #[(0, .agg #[.int .u32 1779033703, .int .u32 3144134277, .int .u32 1013904242, .int .u32 2773480762, .int .u32 1359893119, .int .u32 2600822924, .int .u32 528734635, .int .u32 1541459225])]).run Tryd.prog w = .ok (.agg (stC H.L0 (List.replicate 64 0) 0).toArray) w := by
  intro w; kernel_rfl

set_option maxRecDepth 100000 in
theorem new_any (w : World) : Calls Tryd.prog 10 #[] w fun e w' => ∃ g, e = .returned (.pointer (some ⟨g, 0, none⟩)) ∧ w.heap.size ≤ g ∧ Holds w' g [] ∧ Below w.heap.size w w' := by
  go_enter Tryd.func10, Tryd.ntmps10
  go_wp2_with (first
    | ((with_reducible refine wpList_build_run (o := ⟨some 1, _, _, _, _, _⟩) rfl _ _ rfl _ ?_ _ build_words ?_); · rfl)
    | ((with_reducible show wpList _ _ _ (⟨some 2, _, _, _, _, _⟩ :: _) _ _); go_must (refine wpList_build_run rfl _ _ rfl _ (by simp [Act.eval]) _ build_state ?_))
    | ((with_reducible refine wpList_box_agg rfl 48 (.tmp 2) rfl (stC H.L0 (List.replicate 64 0) 0) rfl ?_); intro g1 w1 hg1 hk1 hw1; have HG1 := kp hg1; have HK1 := kp hk1; have HW1 := kp hw1; clear hg1 hk1 hw1))
  go_wp2
  go_ret
  exact ⟨g1, rfl, HG1.out, ⟨_, _, H.hold_nil, HK1.out⟩, HW1.out⟩
end Go.Proofs.YtoagmmelklkoaaaDoor
