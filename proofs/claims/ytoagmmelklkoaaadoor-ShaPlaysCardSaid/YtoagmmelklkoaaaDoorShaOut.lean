/- The digest's bytes, as the document lays them. -/
import Derived.Test.YtoagmmelklkoaaaDoorShaMath
namespace Go.Proofs.YtoagmmelklkoaaaDoor.H

/-- The bytes of the first i words, zeros behind. -/
def out (l : List Nat) (i : Nat) : List Nat := (l.take i).flatMap (be 4) ++ List.replicate (32 - 4 * i) 0
/-- Of one word more the last bytes. -/
def outS (l : List Nat) (i x s : Nat) : List Nat := (l.take i).flatMap (be 4) ++ (List.replicate s 0 ++ (be (4 - s) x ++ List.replicate (28 - 4 * i) 0))
theorem pre_len : ∀ (l : List Nat), (l.flatMap (be 4)).length = 4 * l.length
  | [] => rfl
  | y :: r => by rw [List.flatMap_cons, List.length_append, pre_len r, be_len, List.length_cons]; omega
theorem pre_take (l : List Nat) (i : Nat) (hl : l.length = 8) (hi : i ≤ 8) : ((l.take i).flatMap (be 4)).length = 4 * i := by rw [pre_len, List.length_take, hl, Nat.min_eq_left hi]
theorem out_len (l : List Nat) (i : Nat) (hl : l.length = 8) (hi : i ≤ 8) : (out l i).length = 32 := by
  unfold out; rw [List.length_append, pre_take l i hl hi, List.length_replicate]; omega
theorem out_zero (l : List Nat) : out l 0 = List.replicate 32 0 := by simp [out]
theorem out_end (l : List Nat) (hl : l.length = 8) : out l 8 = l.flatMap (be 4) := by
  unfold out; rw [List.take_of_length_le (by omega)]; simp
theorem outS_four (l : List Nat) (i x : Nat) (hi : i < 8) : outS l i x 4 = out l i := by
  unfold outS out
  rw [show 32 - 4 * i = 4 + (28 - 4 * i) by omega, ← List.replicate_append_replicate]
  simp [be]
theorem outS_none (l : List Nat) (i x : Nat) (hi : i < 8) (hx : l[i]? = some x) : outS l i x 0 = out l (i + 1) := by
  unfold outS out
  rw [List.take_add_one, hx, List.flatMap_append, show 32 - 4 * (i + 1) = 28 - 4 * i by omega]
  simp
theorem outS_at (l : List Nat) (i x s : Nat) (hl : l.length = 8) (hi : i < 8) : (outS l i x (s + 1))[4 * i + s]? = some 0 := by
  unfold outS
  have h := pre_take l i hl (by omega)
  rw [List.getElem?_append_right (by omega), h, show 4 * i + s - 4 * i = s by omega, List.getElem?_append_left (by simp), List.getElem?_replicate, if_pos (by omega)]
theorem outS_set (l : List Nat) (i x s : Nat) (hl : l.length = 8) (hi : i < 8) (hs : s < 4) : (outS l i x (s + 1)).set (4 * i + s) (x / 256 ^ (3 - s) % 256) = outS l i x s := by
  unfold outS
  have h := pre_take l i hl (by omega)
  rw [List.set_append_right _ _ (by omega), h, show 4 * i + s - 4 * i = s by omega, List.replicate_succ', List.append_assoc, List.set_append_right _ _ (by simp), List.length_replicate, Nat.sub_self]
  rw [show 4 - s = (3 - s) + 1 by omega, be_cons (3 - s) x, show 4 - (s + 1) = 3 - s by omega]
  rfl
end Go.Proofs.YtoagmmelklkoaaaDoor.H
