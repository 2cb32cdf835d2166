/- What the listed table gives, and a world that holds it. -/
import Derived.Test.YtoagmmelklkoaaaDoorRows
import Derived.Test.YtoagmmelklkoaaaDoorShaLaw1
import Derived.Test.YtoagmmelklkoaaaDoorOpen
import Derived.Deep.DeepHandedRow
import Derived.Lib.LaidTab
namespace Go.Proofs.YtoagmmelklkoaaaDoor
open Go.RowKit

theorem gKeys : Tryd.prog.globalNamed "alibi/sha.keys" = some 0 := by kernel_rfl
theorem gKeysT : (Tryd.prog.globals[0]?).map (·.type) = some 50 := by kernel_rfl
theorem cellsKeys : Tryd.prog.cellsOf 50 = 64 := by kernel_rfl
theorem cellsWord : Tryd.prog.cellsOf 41 = 1 := by kernel_rfl
theorem laid_is : (Rows.laid_alibi_sha_keys : DataW Unit) = Lib.tabData .u32 (H.K.map fun n : Nat => (n : Int)) := by kernel_rfl
theorem laid_keys {W : World} (h : laidMetH Tryd.prog [("alibi/sha.keys", Rows.laid_alibi_sha_keys)] W) : Row wordV W 1 (some ⟨0, 0, none⟩) 64 H.K := by
  have h2 : laidMet Tryd.prog [("alibi/sha.keys", Rows.laid_alibi_sha_keys)] W := h
  rw [laid_is] at h2
  have ht := Lib.tabIs_of_head (rest := []) gKeys gKeysT Tryd.underlying50 Tryd.underlying41 cellsWord cellsKeys h2
  refine ⟨rfl, fun _ => ⟨_, rfl, by decide, fun k hk => ?_⟩⟩
  have hadd : (⟨0, 0, none⟩ : Addr).add k = ⟨0, k, none⟩ := by unfold Addr.add; split <;> simp_all
  have hkl : k < H.K.length := hk
  rw [hadd, ht.cell gKeys k (by rw [List.length_map]; exact hkl), List.getElem?_eq_getElem hkl, List.getD_eq_getElem?_getD, List.getElem?_map, List.getElem?_eq_getElem hkl]
  rfl
/-- The settled world, the table laid. -/
noncomputable def laidWorld (os : Os) : World :=
  { World.holding Tryd.prog os ⟨#[], #[], []⟩ with heap := (World.holding Tryd.prog os ⟨#[], #[], []⟩).heap.modify 0 fun
      | .cells _ t frozen => .cells (H.K.map wordV).toArray t frozen
      | o => o }
end Go.Proofs.YtoagmmelklkoaaaDoor
