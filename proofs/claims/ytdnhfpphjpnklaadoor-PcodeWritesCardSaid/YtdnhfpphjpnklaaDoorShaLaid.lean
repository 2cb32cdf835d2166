/- What the listed table gives, and a world that holds it. -/
import Derived.Test.YtdnhfpphjpnklaaDoorRows
import Derived.Test.YtdnhfpphjpnklaaDoorPk18
import Derived.Test.YtdnhfpphjpnklaaDoorPk1
import Derived.Deep.DeepHandedRow
import Derived.Lib.LaidTab
namespace Go.Proofs.YtdnhfpphjpnklaaDoor
open Go.RowKit

theorem gKeys : Tryd.prog.globalNamed "alibi/sha.keys" = some 0 := by kernel_rfl
theorem gKeysT : (Tryd.prog.globals[0]?).map (·.type) = some 97 := by kernel_rfl
theorem cellsKeys : Tryd.prog.cellsOf 97 = 64 := by kernel_rfl
theorem cellsWord : Tryd.prog.cellsOf 66 = 1 := by kernel_rfl
theorem laid_is : (Rows.laid_alibi_sha_keys : DataW Unit) = Lib.tabData .u32 (H.K.map fun n : Nat => (n : Int)) := by kernel_rfl
theorem laid_keys {W : World} (h : laidMetH Tryd.prog [("alibi/sha.keys", Rows.laid_alibi_sha_keys)] W) : Row wordV W 1 (some ⟨0, 0, none⟩) 64 H.K := by
  have h2 : laidMet Tryd.prog [("alibi/sha.keys", Rows.laid_alibi_sha_keys)] W := h
  rw [laid_is] at h2
  have ht := Lib.tabIs_of_head (rest := []) gKeys gKeysT Tryd.underlying97 Tryd.underlying66 cellsWord cellsKeys h2
  refine ⟨rfl, fun _ => ⟨_, rfl, by decide, fun k hk => ?_⟩⟩
  have hadd : (⟨0, 0, none⟩ : Addr).add k = ⟨0, k, none⟩ := by unfold Addr.add; split <;> simp_all
  have hkl : k < H.K.length := hk
  rw [hadd, ht.cell gKeys k (by rw [List.length_map]; exact hkl), List.getElem?_eq_getElem hkl, List.getD_eq_getElem?_getD, List.getElem?_map, List.getElem?_eq_getElem hkl]
  rfl
/-- The settled world, the table laid. -/
noncomputable def laidWorld (os : Os) : World :=
  { World.holding Tryd.prog os ⟨#[], #[], []⟩ with heap := (World.holding Tryd.prog os ⟨#[], #[], []⟩).heap.modify 0 fun
      | .cells _ t frozen => .cells (H.K.map wordV).toArray t frozen
      | o => o }
end Go.Proofs.YtdnhfpphjpnklaaDoor
