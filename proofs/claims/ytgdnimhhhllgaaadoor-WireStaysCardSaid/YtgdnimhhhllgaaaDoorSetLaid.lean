/- What the listed table gives, and a world that holds it. -/
import Derived.Test.YtgdnimhhhllgaaaDoorRows
import Derived.Test.YtgdnimhhhllgaaaDoorSetLaw1
import Derived.Test.YtgdnimhhhllgaaaDoorOpen
import Derived.Deep.DeepHandedRow
import Derived.Lib.LaidTab
namespace Go.Proofs.YtgdnimhhhllgaaaDoor
open Go.RowKit

theorem gTab : Tryd.prog.globalNamed "math/bits.deBruijn32tab" = some 0 := by kernel_rfl
theorem gTabT : (Tryd.prog.globals[0]?).map (·.type) = some 75 := by kernel_rfl
theorem cellsTab : Tryd.prog.cellsOf 75 = 32 := by kernel_rfl
theorem cellsByte : Tryd.prog.cellsOf 5 = 1 := by kernel_rfl
theorem laid_is : (Rows.laid_math_bits_deBruijn32tab : DataW Unit) = Lib.tabData .u8 (bruijn.map fun n : Nat => (n : Int)) := by kernel_rfl
theorem laid_tab {W : World} (h : laidMetH Tryd.prog [("math/bits.deBruijn32tab", Rows.laid_math_bits_deBruijn32tab)] W) : Tab W := by
  have h2 : laidMet Tryd.prog [("math/bits.deBruijn32tab", Rows.laid_math_bits_deBruijn32tab)] W := h
  rw [laid_is] at h2
  have ht := Lib.tabIs_of_head (rest := []) gTab gTabT Tryd.underlying75 Tryd.underlying5 cellsByte cellsTab h2
  refine ⟨rfl, fun _ => ⟨_, rfl, by decide, fun k hk => ?_⟩⟩
  have hadd := add_start 0 k
  have hkl : k < bruijn.length := hk
  rw [hadd, ht.cell gTab k (by rw [List.length_map]; exact hkl), List.getElem?_eq_getElem hkl, List.getD_eq_getElem?_getD, List.getElem?_map, List.getElem?_eq_getElem hkl]
  rfl
/-- The settled world, the table laid. -/
noncomputable def laidWorld (os : Os) : World :=
  { World.holding Tryd.prog os ⟨#[], #[], []⟩ with heap := (World.holding Tryd.prog os ⟨#[], #[], []⟩).heap.modify 0 fun
      | .cells _ t frozen => .cells (bruijn.map byteV).toArray t frozen
      | o => o }
end Go.Proofs.YtgdnimhhhllgaaaDoor
