/- The program's functions on sets, walked: One, All, Has, Within, rest. -/
import Derived.Test.YtgdnimhhhllgaaaDoorSetMath2
import Derived.Test.YtgdnimhhhllgaaaDoorSetRef2
import Derived.Laws.BitsAllLaws
namespace Go.Proofs.YtgdnimhhhllgaaaDoor
open Go.RowKit

theorem pow_cast (n : Nat) : (2 : Int) ^ n = ((2 ^ n : Nat) : Int) := (Int.natCast_pow 2 n).symm
theorem ne_cast (x : Nat) : (((x : Nat) : Int) != 0) = decide (x ≠ 0) := by rw [Bool.eq_iff_iff]; simp
theorem eq_cast (x : Nat) : (((x : Nat) : Int) == 0) = decide (x = 0) := by rw [Bool.eq_iff_iff]; simp

set_option maxRecDepth 100000 in
set_option maxHeartbeats 800000 in
theorem one_any (id : Int) (hid : -9223372036854775808 ≤ id ∧ id ≤ 9223372036854775807) (m : Nat) (hm : S.one id = m) (w : World) :
    Calls Tryd.prog 38 #[.int .i64 id] w fun e w' => e = .returned (.int .u32 (m : Int)) ∧ w = w' := by
  have HM := kp hm; clear hm
  obtain ⟨hid1, hid2⟩ := hid
  by_cases h : id < 0
  · have HF : Kept (0 = m) := kp <| by rw [← HM.out, S.one_out id (.inl h)]
    go_enter Tryd.func38, Tryd.ntmps38
    go_wp2
    go_ret
    exact ⟨ret_int (by rw [← HF.out]; rfl), rfl⟩
  · by_cases h2 : 31 < id
    · have HF : Kept (0 = m) := kp <| by rw [← HM.out, S.one_out id (.inr h2)]
      go_enter Tryd.func38, Tryd.ntmps38
      go_wp2
      go_ret
      exact ⟨ret_int (by rw [← HF.out]; rfl), rfl⟩
    · obtain ⟨n, rfl⟩ : ∃ n : Nat, id = (n : Int) := ⟨id.toNat, by omega⟩
      have hn : n ≤ 31 := by omega
      have HF : Kept (2 ^ n = m) := kp <| by rw [← HM.out, S.one_nat n hn]
      have hp := pow_le31 n hn
      clear h h2 hid1 hid2
      go_enter Tryd.func38, Tryd.ntmps38
      go_wp2
      go_ret
      refine ⟨ret_int ?_, rfl⟩
      rw [← HF.out, pow_cast]
      generalize 2 ^ n = p at *
      omega

set_option maxRecDepth 100000 in
set_option maxHeartbeats 800000 in
theorem rest_any (m : Nat) (hm : m < 4294967296) (h0 : m ≠ 0) (r : Nat) (hr : S.rest m = r) (w : World) :
    Calls Tryd.prog 41 #[.int .u32 (m : Int)] w fun e w' => e = .returned (.int .u32 (r : Int)) ∧ w = w' := by
  have HA : Kept ((m &&& (m - 1)) = r) := kp <| by rw [← hr]; rfl
  have HBits : Kept (bits .and .u32 (m : Int) ((m : Int) - 1) = ((m &&& (m - 1) : Nat) : Int)) := kp <| by rw [← u32_and_nat m (m - 1) hm (by omega)]; congr 1; omega
  clear hr
  go_enter Tryd.func41, Tryd.ntmps41
  go_wp2
  go_ret
  refine ⟨ret_int ?_, rfl⟩
  rw [← HA.out]
  exact HBits.out
end Go.Proofs.YtgdnimhhhllgaaaDoor
