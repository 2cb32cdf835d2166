/- What the statements of sets begin with, walked: same, awake. -/
import Derived.Test.YtgdnimhhhllgaaaDoorSetP2
import Derived.Test.YtgdnimhhhllgaaaDoorSetP3
import Derived.BigQuiet
import Derived.Deep.QuietTactic
namespace Go.Proofs.YtgdnimhhhllgaaaDoor
open Go.RowKit

theorem take_diff {α : Type} [BEq α] (a b : List α) (i : Nat) (x y : α) (hx : a[i]? = some x) (hy : b[i]? = some y) (h : x ≠ y) : a ≠ b := by
  rintro rfl
  rw [hx] at hy
  exact h (Option.some.inj hy)

theorem ids_13 : S.ids 13 32 = [0, 2, 3] := by decide
theorem of_21 : ofMask [2, 1] 9 = 0 ∧ S.first [2, 1] 9 2 = 5 := by decide
end Go.Proofs.YtgdnimhhhllgaaaDoor
