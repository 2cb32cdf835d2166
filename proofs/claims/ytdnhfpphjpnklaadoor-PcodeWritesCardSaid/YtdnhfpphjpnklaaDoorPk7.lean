/- SetRef2, SetP1, SetP2, WireRef4, in one text. -/
import Derived.Test.YtdnhfpphjpnklaaDoorRows
import Derived.Test.YtdnhfpphjpnklaaDoorPk3
import Derived.Test.YtdnhfpphjpnklaaDoorPk1
import Derived.Test.YtdnhfpphjpnklaaDoorPk2
import Derived.Deep.QuietTactic
import Derived.BigQuiet
import Derived.Deep.RegionWith
import Derived.Laws.BitsAllLaws
import Derived.Test.YtdnhfpphjpnklaaDoorPk4
/- The document's own making of sets, walked: Mask, Of. -/
namespace Go.Proofs.YtdnhfpphjpnklaaDoor
open Go.RowKit

theorem pow_le31 (k : Nat) (h : k ≤ 31) : 2 ^ k ≤ 2147483648 := Nat.pow_le_pow_right (by decide) h

theorem bad_one (l : List Int) (size x : Int) (i : Nat) (h : l[i]? = some x) (hx : x < 0 ∨ size ≤ x ∨ 31 < x) : S.bad l size i = 1 := by
  unfold S.bad
  simp only [List.getD_eq_getElem?_getD, h, Option.getD_some]
  rw [if_pos hx]
theorem bad_five (l : List Int) (size x y : Int) (i : Nat) (h : l[i]? = some x) (hx : ¬ (x < 0 ∨ size ≤ x ∨ 31 < x)) (h0 : 0 < i) (hy : l[i - 1]? = some y) (hxy : x ≤ y) : S.bad l size i = 5 := by
  unfold S.bad
  simp only [List.getD_eq_getElem?_getD, h, hy, Option.getD_some]
  rw [if_neg hx, if_pos ⟨h0, hxy⟩]
theorem bad_none (l : List Int) (size x : Int) (i : Nat) (h : l[i]? = some x) (hx : ¬ (x < 0 ∨ size ≤ x ∨ 31 < x)) (hy : ¬ (0 < i ∧ x ≤ l.getD (i - 1) 0)) : S.bad l size i = 0 := by
  unfold S.bad
  simp only [List.getD_eq_getElem?_getD, h, Option.getD_some] at *
  rw [if_neg hx, if_neg hy]
theorem bad_zero (l : List Int) (size x : Int) (i : Nat) (h : l[i]? = some x) (hb : S.bad l size i = 0) : 0 ≤ x ∧ x < size ∧ x ≤ 31 := by
  unfold S.bad at hb
  simp only [List.getD_eq_getElem?_getD, h, Option.getD_some] at hb
  split at hb
  · cases hb
  · omega
theorem first_at (l : List Int) (size : Int) (n i : Nat) (h0 : S.first l size i = 0) (hi : i < n) (hb : S.bad l size i ≠ 0) : S.first l size n = S.bad l size i := by
  have h1 : S.first l size (i + 1) = S.bad l size i := by simp only [S.first]; rw [if_pos h0]
  have := S.first_stays l size (i + 1) (by rw [h1]; exact hb) (n - (i + 1))
  rw [show i + 1 + (n - (i + 1)) = n by omega] at this
  rw [this, h1]
/-- What Of answers. -/
def ofMask (l : List Int) (size : Int) : Nat := if S.first l size l.length = 0 then S.mask (l.map Int.toNat) % 4294967296 else 0
end Go.Proofs.YtdnhfpphjpnklaaDoor

/- The program's functions on sets, walked: One, All, Has, Within, rest. -/
namespace Go.Proofs.YtdnhfpphjpnklaaDoor
open Go.RowKit

theorem pow_cast (n : Nat) : (2 : Int) ^ n = ((2 ^ n : Nat) : Int) := (Int.natCast_pow 2 n).symm
theorem ne_cast (x : Nat) : (((x : Nat) : Int) != 0) = decide (x ≠ 0) := by rw [Bool.eq_iff_iff]; simp
theorem eq_cast (x : Nat) : (((x : Nat) : Int) == 0) = decide (x = 0) := by rw [Bool.eq_iff_iff]; simp
end Go.Proofs.YtdnhfpphjpnklaaDoor

/- The program's functions on sets, walked: TrailingZeros32, Least, Count, List. -/
namespace Go.Proofs.YtdnhfpphjpnklaaDoor
open Go.RowKit

theorem mul_mod_div (p a b c : Nat) (A B C : Int) (hA : A = (a : Int)) (hB : B = (b : Int)) (hC : C = (c : Int)) : ((p : Int) * A % B / C).toNat = p * a % b / c := by
  rw [hA, hB, hC, ← Int.natCast_mul, ← Int.natCast_emod, ← Int.natCast_ediv, Int.toNat_natCast]
/-- The table by which the lowest bit is told. -/
def bruijn : List Nat := [0, 1, 28, 2, 29, 14, 24, 3, 30, 22, 20, 15, 25, 17, 4, 8, 31, 27, 13, 23, 21, 19, 16, 7, 26, 12, 18, 6, 11, 5, 10, 9]
/-- The world holds that table. -/
def Tab (w : World) : Prop := Row byteV w 1 (some ⟨0, 0, none⟩) 32 bruijn
theorem Tab.below {w w' : World} {B : Nat} (h : Tab w) (hb : Below B w w') (hB : 1 ≤ B) : Tab w' := Row.below h (hb.mono hB)
theorem Tab.size {w : World} (h : Tab w) : 1 ≤ w.heap.size := by
  obtain ⟨ad, x, e, hb, _, hc⟩ := Row.get h (k := 0) (by omega)
  have := cell_block hc
  omega
theorem bruijn_at : ∀ k, k ≤ 31 → bruijn[2 ^ k * 125613361 % 4294967296 / 134217728]? = some k ∧ 2 ^ k * 125613361 % 4294967296 / 134217728 < 32 := by decide
end Go.Proofs.YtdnhfpphjpnklaaDoor

/- The document's own bytes of a set, walked. -/
namespace Go.Proofs.YtdnhfpphjpnklaaDoor
open Go.RowKit

theorem row_le (l : List Nat) (h : ∀ x ∈ l, x < 4294967296) : (V.row l).length ≤ 5 * l.length := by rw [V.row_len l h]; exact V.sizes_le l
end Go.Proofs.YtdnhfpphjpnklaaDoor
