/- The program's reader, walked: Fault, Raw. -/
import Derived.Test.YtdnhfpphjpnklaaDoorWireP1
import Derived.Test.YtdnhfpphjpnklaaDoorPk5
import Derived.Test.YtdnhfpphjpnklaaDoorPk3
import Derived.Deep.RegionWith
namespace Go.Proofs.YtdnhfpphjpnklaaDoor
open Go.RowKit

/-- A fault stands where the reader stands; without one nothing is kept. -/
def R.Fit (s : R.St) : Prop := s.wh = if s.why = 0 then 0 else s.at_
theorem R.fail_fit {s : R.St} (h : R.Fit s) {e : Nat} (he : e ≠ 0) : R.Fit (R.fail s e) := by
  unfold R.fail
  by_cases h0 : s.why = 0
  · rw [if_pos h0]
    show s.at_ = if e = 0 then 0 else s.at_
    rw [if_neg he]
  · rw [if_neg h0]; exact h
theorem R.num_fit (bs : List Nat) {s : R.St} (h : R.Fit s) (most : Int) : R.Fit (R.num bs s most).2 := by
  unfold R.num
  split
  · rename_i h0
    split
    · split
      · exact R.fail_fit h (by decide)
      · unfold R.Fit at *
        rw [if_pos h0] at h
        exact h
    · rename_i h1
      exact R.fail_fit h h1
  · exact h
theorem R.raw_fit (bs : List Nat) {s : R.St} (h : R.Fit s) (n : Int) : R.Fit (R.raw bs s n).2 := by
  unfold R.raw
  split
  · rename_i h0
    split
    · exact R.fail_fit h (by decide)
    · split
      · exact R.fail_fit h (by decide)
      · unfold R.Fit at *
        rw [if_pos h0] at h
        exact h
  · exact h
theorem R.ids_fit (bs : List Nat) (most : Int) : ∀ (k : Nat) (l : List Nat) (s : R.St), R.Fit s → R.Fit (R.ids bs most k l s).2
  | 0, l, s, h => h
  | k + 1, l, s, h => by
    have h1 := R.num_fit bs h most
    unfold R.ids
    split
    · rename_i h0
      split
      · refine R.fail_fit ?_ (by decide)
        unfold R.Fit at *
        rw [if_pos h0] at h1
        show (R.num bs s most).2.wh = if (R.num bs s most).2.why = 0 then 0 else s.at_
        rw [if_pos h0]
        exact h1
      · exact R.ids_fit bs most k _ _ h1
    · exact h1
theorem R.set_fit (bs : List Nat) {s : R.St} (h : R.Fit s) (size : Int) : R.Fit (R.set bs s size).2 := R.ids_fit bs _ _ _ _ (R.num_fit bs h _)
end Go.Proofs.YtdnhfpphjpnklaaDoor
