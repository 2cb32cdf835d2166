/- SetLaw1, SetLaid, in one text. -/
import Derived.Test.YtfifnahcobjjdaaDoorPk7
import Derived.BigQuiet
import Derived.Deep.QuietTactic
import Derived.Test.YtfifnahcobjjdaaDoorRows
import Derived.Test.YtfifnahcobjjdaaDoorOpen
import Derived.Deep.DeepHandedRow
import Derived.Lib.LaidTab
/- What the statements of sets begin with, walked: same, awake. -/
namespace Go.Proofs.YtfifnahcobjjdaaDoor
open Go.RowKit

theorem take_diff {α : Type} [BEq α] (a b : List α) (i : Nat) (x y : α) (hx : a[i]? = some x) (hy : b[i]? = some y) (h : x ≠ y) : a ≠ b := by
  rintro rfl
  rw [hx] at hy
  exact h (Option.some.inj hy)

theorem ids_13 : S.ids 13 32 = [0, 2, 3] := by decide
theorem of_21 : ofMask [2, 1] 9 = 0 ∧ S.first [2, 1] 9 2 = 5 := by decide
end Go.Proofs.YtfifnahcobjjdaaDoor

/- What the listed table gives, and a world that holds it. -/
namespace Go.Proofs.YtfifnahcobjjdaaDoor
open Go.RowKit

theorem gTab : Tryd.prog.globalNamed "math/bits.deBruijn32tab" = some 0 := by kernel_rfl
theorem gTabT : (Tryd.prog.globals[0]?).map (·.type) = some 78 := by kernel_rfl
theorem cellsTab : Tryd.prog.cellsOf 78 = 32 := by kernel_rfl
theorem cellsByte : Tryd.prog.cellsOf 5 = 1 := by kernel_rfl
theorem laid_is : (Rows.laid_math_bits_deBruijn32tab : DataW Unit) = Lib.tabData .u8 (bruijn.map fun n : Nat => (n : Int)) := by kernel_rfl
theorem laid_tab {W : World} (h : laidMetH Tryd.prog [("math/bits.deBruijn32tab", Rows.laid_math_bits_deBruijn32tab)] W) : Tab W := by
  have h2 : laidMet Tryd.prog [("math/bits.deBruijn32tab", Rows.laid_math_bits_deBruijn32tab)] W := h
  rw [laid_is] at h2
  have ht := Lib.tabIs_of_head (rest := []) gTab gTabT Tryd.underlying78 Tryd.underlying5 cellsByte cellsTab h2
  refine ⟨rfl, fun _ => ⟨_, rfl, by decide, fun k hk => ?_⟩⟩
  have hadd := add_start 0 k
  have hkl : k < bruijn.length := hk
  rw [hadd, ht.cell gTab k (by rw [List.length_map]; exact hkl), List.getElem?_eq_getElem hkl, List.getD_eq_getElem?_getD, List.getElem?_map, List.getElem?_eq_getElem hkl]
  rfl
/-- The settled world, the table laid. -/
noncomputable def laidWorld (os : Os) : World :=
  { World.holding Tryd.prog os ⟨#[], #[], []⟩ with heap := (World.holding Tryd.prog os ⟨#[], #[], []⟩).heap.modify 0 fun
      | .cells _ t frozen => .cells (bruijn.map byteV).toArray t frozen
      | o => o }
end Go.Proofs.YtfifnahcobjjdaaDoor
