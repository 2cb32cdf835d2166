/- SetP1, SetP2, in one text. -/
import Derived.Test.YtfifnahcobjjdaaPk5
import Derived.Test.YtfifnahcobjjdaaSetRef2
import Derived.Laws.BitsAllLaws
import Derived.Test.YtfifnahcobjjdaaArr2
import Derived.Test.YtfifnahcobjjdaaCell
/- The program's functions on sets, walked: One, All, Has, Within, rest. -/
namespace Go.Proofs.Ytfifnahcobjjdaa
open Go.RowKit

theorem pow_cast (n : Nat) : (2 : Int) ^ n = ((2 ^ n : Nat) : Int) := (Int.natCast_pow 2 n).symm
theorem ne_cast (x : Nat) : (((x : Nat) : Int) != 0) = decide (x ≠ 0) := by rw [Bool.eq_iff_iff]; simp
theorem eq_cast (x : Nat) : (((x : Nat) : Int) == 0) = decide (x = 0) := by rw [Bool.eq_iff_iff]; simp

set_option maxRecDepth 100000 in
set_option maxHeartbeats 800000 in
theorem one_any (id : Int) (hid : -9223372036854775808 ≤ id ∧ id ≤ 9223372036854775807) (m : Nat) (hm : S.one id = m) (w : World) :
    Calls Try.prog 21 #[.int .i64 id] w fun e w' => e = .returned (.int .u32 (m : Int)) ∧ w = w' := by
  have HM := kp hm; clear hm
  obtain ⟨hid1, hid2⟩ := hid
  by_cases h : id < 0
  · have HF : Kept (0 = m) := kp <| by rw [← HM.out, S.one_out id (.inl h)]
    go_enter Try.func21, Try.ntmps21
    go_wp2
    go_ret
    exact ⟨ret_int (by rw [← HF.out]; rfl), rfl⟩
  · by_cases h2 : 31 < id
    · have HF : Kept (0 = m) := kp <| by rw [← HM.out, S.one_out id (.inr h2)]
      go_enter Try.func21, Try.ntmps21
      go_wp2
      go_ret
      exact ⟨ret_int (by rw [← HF.out]; rfl), rfl⟩
    · obtain ⟨n, rfl⟩ : ∃ n : Nat, id = (n : Int) := ⟨id.toNat, by omega⟩
      have hn : n ≤ 31 := by omega
      have HF : Kept (2 ^ n = m) := kp <| by rw [← HM.out, S.one_nat n hn]
      have hp := pow_le31 n hn
      clear h h2 hid1 hid2
      go_enter Try.func21, Try.ntmps21
      go_wp2
      go_ret
      refine ⟨ret_int ?_, rfl⟩
      rw [← HF.out, pow_cast]
      generalize 2 ^ n = p at *
      omega
end Go.Proofs.Ytfifnahcobjjdaa

/- The program's functions on sets, walked: TrailingZeros32, Least, Count, List. -/
namespace Go.Proofs.Ytfifnahcobjjdaa
open Go.RowKit

theorem mul_mod_div (p a b c : Nat) (A B C : Int) (hA : A = (a : Int)) (hB : B = (b : Int)) (hC : C = (c : Int)) : ((p : Int) * A % B / C).toNat = p * a % b / c := by
  rw [hA, hB, hC, ← Int.natCast_mul, ← Int.natCast_emod, ← Int.natCast_ediv, Int.toNat_natCast]
/-- The table by which the lowest bit is told. -/
def bruijn : List Nat := [0, 1, 28, 2, 29, 14, 24, 3, 30, 22, 20, 15, 25, 17, 4, 8, 31, 27, 13, 23, 21, 19, 16, 7, 26, 12, 18, 6, 11, 5, 10, 9]
/-- The world holds that table. -/
def Tab (w : World) : Prop := Row byteV w 1 (some ⟨0, 0, none⟩) 32 bruijn
theorem Tab.below {w w' : World} {B : Nat} (h : Tab w) (hb : Below B w w') (hB : 1 ≤ B) : Tab w' := Row.below h (hb.mono hB)
theorem Tab.size {w : World} (h : Tab w) : 1 ≤ w.heap.size := by
  obtain ⟨ad, x, e, hb, _, hc⟩ := Row.get h (k := 0) (by omega)
  have := cell_block hc
  omega
theorem bruijn_at : ∀ k, k ≤ 31 → bruijn[2 ^ k * 125613361 % 4294967296 / 134217728]? = some k ∧ 2 ^ k * 125613361 % 4294967296 / 134217728 < 32 := by decide
end Go.Proofs.Ytfifnahcobjjdaa
