/- The program's functions on sets, walked: Of, Meet. -/
import Derived.Test.YtgdnimhhhllgaaaDoorSetP1
namespace Go.Proofs.YtgdnimhhhllgaaaDoor
open Go.RowKit

theorem or_lt32 (a b : Nat) (ha : a < 4294967296) (hb : b < 4294967296) : a ||| b < 4294967296 := Nat.or_lt_two_pow (n := 32) ha hb
/-- What lies in a rising list above all of a mask's ids is added by or. -/
theorem or_add (m x : Nat) (hm : m < 2 ^ x) : m ||| 2 ^ x = m + 2 ^ x := by
  have := Nat.two_pow_add_eq_or_of_lt hm 1
  rw [Nat.mul_one] at this
  rw [Nat.or_comm, ← this, Nat.add_comm]
/-- As far as a list has no fault: its mask is below what may come next. -/
theorem mask_bound (l : List Int) (size : Int) : ∀ n, n ≤ l.length → S.first l size n = 0 → S.mask ((l.take n).map Int.toNat) < 4294967296 ∧ ∀ x, l[n]? = some x → S.bad l size n = 0 → S.mask ((l.take n).map Int.toNat) < 2 ^ x.toNat
  | 0, _, _ => by
    refine ⟨by simp [S.mask], fun x _ _ => ?_⟩
    have : 0 < 2 ^ x.toNat := Nat.pow_pos (by decide)
    simpa [S.mask] using this
  | n + 1, hn, hf => by
    have h0 : S.first l size n = 0 := by
      by_cases h : S.first l size n = 0
      · exact h
      · simp only [S.first] at hf; rwa [if_neg h] at hf
    have hb : S.bad l size n = 0 := by simp only [S.first] at hf; rwa [if_pos h0] at hf
    have hnl : n < l.length := by omega
    obtain ⟨h1, h2⟩ := mask_bound l size n (by omega) h0
    have hx := List.getElem?_eq_getElem hnl
    have h3 := h2 _ hx hb
    obtain ⟨b1, b2, b3⟩ := bad_zero l size _ n hx hb
    have e : S.mask ((l.take (n + 1)).map Int.toNat) = S.mask ((l.take n).map Int.toNat) + 2 ^ (l[n].toNat) := by
      rw [List.take_add_one, hx, List.map_append]; exact S.mask_snoc _ _
    rw [e]
    have hp : 2 ^ l[n].toNat ≤ 2147483648 := pow_le31 _ (by omega)
    refine ⟨by omega, fun y hy hby => ?_⟩
    have hlt : l[n] < y := by
      unfold S.bad at hby
      simp only [List.getD_eq_getElem?_getD, hy, Option.getD_some, Nat.add_sub_cancel, hx] at hby
      split at hby
      · cases hby
      · split at hby
        · cases hby
        · omega
    have hle : 2 ^ (l[n].toNat + 1) ≤ 2 ^ y.toNat := Nat.pow_le_pow_right (by decide) (by omega)
    rw [Nat.pow_succ] at hle
    omega
theorem mask_or (l : List Int) (size x : Int) (n : Nat) (hn : n ≤ l.length) (h0 : S.first l size n = 0) (hx : l[n]? = some x) (hb : S.bad l size n = 0) :
    S.mask ((l.take (n + 1)).map Int.toNat) = S.mask ((l.take n).map Int.toNat) ||| S.one x := by
  have h3 := (mask_bound l size n hn h0).2 x hx hb
  obtain ⟨b1, b2, b3⟩ := bad_zero l size x n hx hb
  obtain ⟨k, rfl⟩ : ∃ k : Nat, x = (k : Int) := ⟨x.toNat, by omega⟩
  rw [Int.toNat_natCast] at h3
  rw [S.one_nat k (by omega), or_add _ _ h3, List.take_add_one, hx, List.map_append]
  exact S.mask_snoc _ _
end Go.Proofs.YtgdnimhhhllgaaaDoor
