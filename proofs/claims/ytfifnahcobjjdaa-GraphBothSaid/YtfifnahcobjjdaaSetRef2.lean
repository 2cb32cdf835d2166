/- The document's own making of sets, walked: Mask, Of. -/
import Derived.Test.YtfifnahcobjjdaaRows
import Derived.Test.YtfifnahcobjjdaaArr
import Derived.Test.YtfifnahcobjjdaaKit
import Derived.Test.YtfifnahcobjjdaaPk5
import Derived.Deep.QuietTactic
import Derived.BigQuiet
import Derived.Deep.RegionWith
namespace Go.Proofs.Ytfifnahcobjjdaa
open Go.RowKit

theorem pow_le31 (k : Nat) (h : k ≤ 31) : 2 ^ k ≤ 2147483648 := Nat.pow_le_pow_right (by decide) h

theorem bad_one (l : List Int) (size x : Int) (i : Nat) (h : l[i]? = some x) (hx : x < 0 ∨ size ≤ x ∨ 31 < x) : S.bad l size i = 1 := by
  unfold S.bad
  simp only [List.getD_eq_getElem?_getD, h, Option.getD_some]
  rw [if_pos hx]
theorem bad_five (l : List Int) (size x y : Int) (i : Nat) (h : l[i]? = some x) (hx : ¬ (x < 0 ∨ size ≤ x ∨ 31 < x)) (h0 : 0 < i) (hy : l[i - 1]? = some y) (hxy : x ≤ y) : S.bad l size i = 5 := by
  unfold S.bad
  simp only [List.getD_eq_getElem?_getD, h, hy, Option.getD_some]
  rw [if_neg hx, if_pos ⟨h0, hxy⟩]
theorem bad_none (l : List Int) (size x : Int) (i : Nat) (h : l[i]? = some x) (hx : ¬ (x < 0 ∨ size ≤ x ∨ 31 < x)) (hy : ¬ (0 < i ∧ x ≤ l.getD (i - 1) 0)) : S.bad l size i = 0 := by
  unfold S.bad
  simp only [List.getD_eq_getElem?_getD, h, Option.getD_some] at *
  rw [if_neg hx, if_neg hy]
theorem bad_zero (l : List Int) (size x : Int) (i : Nat) (h : l[i]? = some x) (hb : S.bad l size i = 0) : 0 ≤ x ∧ x < size ∧ x ≤ 31 := by
  unfold S.bad at hb
  simp only [List.getD_eq_getElem?_getD, h, Option.getD_some] at hb
  split at hb
  · cases hb
  · omega
theorem first_at (l : List Int) (size : Int) (n i : Nat) (h0 : S.first l size i = 0) (hi : i < n) (hb : S.bad l size i ≠ 0) : S.first l size n = S.bad l size i := by
  have h1 : S.first l size (i + 1) = S.bad l size i := by simp only [S.first]; rw [if_pos h0]
  have := S.first_stays l size (i + 1) (by rw [h1]; exact hb) (n - (i + 1))
  rw [show i + 1 + (n - (i + 1)) = n by omega] at this
  rw [this, h1]
/-- What Of answers. -/
def ofMask (l : List Int) (size : Int) : Nat := if S.first l size l.length = 0 then S.mask (l.map Int.toNat) % 4294967296 else 0
end Go.Proofs.Ytfifnahcobjjdaa
