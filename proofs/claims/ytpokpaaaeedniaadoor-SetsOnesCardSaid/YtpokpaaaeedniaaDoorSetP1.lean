/- The program's functions on sets, walked: One, All, Has, Within, rest. -/
import Derived.Test.YtpokpaaaeedniaaDoorSetMath2
import Derived.Test.YtpokpaaaeedniaaDoorSetRef2
import Derived.Laws.BitsAllLaws
namespace Go.Proofs.YtpokpaaaeedniaaDoor
open Go.RowKit

theorem pow_cast (n : Nat) : (2 : Int) ^ n = ((2 ^ n : Nat) : Int) := (Int.natCast_pow 2 n).symm
theorem ne_cast (x : Nat) : (((x : Nat) : Int) != 0) = decide (x ≠ 0) := by rw [Bool.eq_iff_iff]; simp
theorem eq_cast (x : Nat) : (((x : Nat) : Int) == 0) = decide (x = 0) := by rw [Bool.eq_iff_iff]; simp

set_option maxRecDepth 100000 in
set_option maxHeartbeats 800000 in
theorem one_any (id : Int) (hid : -9223372036854775808 ≤ id ∧ id ≤ 9223372036854775807) (m : Nat) (hm : S.one id = m) (w : World) :
    Calls Tryd.prog 20 #[.int .i64 id] w fun e w' => e = .returned (.int .u32 (m : Int)) ∧ w = w' := by
  have HM := kp hm; clear hm
  obtain ⟨hid1, hid2⟩ := hid
  by_cases h : id < 0
  · have HF : Kept (0 = m) := kp <| by rw [← HM.out, S.one_out id (.inl h)]
    go_enter Tryd.func20, Tryd.ntmps20
    go_wp2
    go_ret
    exact ⟨ret_int (by rw [← HF.out]; rfl), rfl⟩
  · by_cases h2 : 31 < id
    · have HF : Kept (0 = m) := kp <| by rw [← HM.out, S.one_out id (.inr h2)]
      go_enter Tryd.func20, Tryd.ntmps20
      go_wp2
      go_ret
      exact ⟨ret_int (by rw [← HF.out]; rfl), rfl⟩
    · obtain ⟨n, rfl⟩ : ∃ n : Nat, id = (n : Int) := ⟨id.toNat, by omega⟩
      have hn : n ≤ 31 := by omega
      have HF : Kept (2 ^ n = m) := kp <| by rw [← HM.out, S.one_nat n hn]
      have hp := pow_le31 n hn
      clear h h2 hid1 hid2
      go_enter Tryd.func20, Tryd.ntmps20
      go_wp2
      go_ret
      refine ⟨ret_int ?_, rfl⟩
      rw [← HF.out, pow_cast]
      generalize 2 ^ n = p at *
      omega

set_option maxRecDepth 100000 in
set_option maxHeartbeats 800000 in
theorem all_any (n : Int) (hn : -9223372036854775808 ≤ n ∧ n ≤ 9223372036854775807) (m : Nat) (hm : S.all n = m) (w : World) :
    Calls Tryd.prog 21 #[.int .i64 n] w fun e w' => e = .returned (.int .u32 (m : Int)) ∧ w = w' := by
  have HM := kp hm; clear hm
  obtain ⟨hn1, hn2⟩ := hn
  by_cases h0 : n ≤ 0
  · have HE : Kept (0 = m) := kp <| by rw [← HM.out]; unfold S.all; rw [if_pos h0]
    go_enter Tryd.func21, Tryd.ntmps21
    go_wp2
    all_goals go_ret
    all_goals refine ⟨ret_int ?_, rfl⟩
    all_goals rw [← HE.out]
    all_goals first | rfl | (rw [show n = 0 by omega]; rfl)
  · by_cases h32 : 32 ≤ n
    · have HE : Kept (4294967295 = m) := kp <| by rw [← HM.out]; unfold S.all; rw [if_neg h0, if_pos h32]
      go_enter Tryd.func21, Tryd.ntmps21
      go_wp2
      all_goals go_ret
      all_goals refine ⟨ret_int ?_, rfl⟩
      all_goals rw [← HE.out]
      all_goals first | rfl | (rw [show n = 32 by omega]; rfl)
    · obtain ⟨k, rfl⟩ : ∃ k : Nat, n = (k : Int) := ⟨n.toNat, by omega⟩
      have hk : k ≤ 31 := by omega
      have HE : Kept (2 ^ k - 1 = m) := kp <| by rw [← HM.out, S.all_nat k (by omega)]
      have hp := pow_le31 k hk
      have hp0 : 0 < 2 ^ k := Nat.pow_pos (by decide)
      clear h0 h32
      go_enter Tryd.func21, Tryd.ntmps21
      go_wp2
      all_goals go_ret
      all_goals refine ⟨ret_int ?_, rfl⟩
      all_goals rw [← HE.out]
      all_goals (rw [pow_cast]; generalize 2 ^ k = p at *; omega)

set_option maxRecDepth 100000 in
set_option maxHeartbeats 800000 in
theorem has_any (m : Nat) (hm : m < 4294967296) (id : Int) (hid : -9223372036854775808 ≤ id ∧ id ≤ 9223372036854775807) (b : Bool) (hb : S.has m id = b) (w : World) :
    Calls Tryd.prog 12 #[.int .u32 (m : Int), .int .i64 id] w fun e w' => e = .returned (.bool b) ∧ w = w' := by
  have HB : Kept (decide ((m &&& S.one id) ≠ 0) = b) := kp <| by rw [← hb, S.has_one]
  have HI := kp hid
  have ho := S.one_lt id
  obtain ⟨o, he⟩ : ∃ o, S.one id = o := ⟨_, rfl⟩
  have HE := kp he
  rw [he] at ho
  have HA : Kept (decide ((m &&& o) ≠ 0) = b) := kp <| by rw [← HE.out]; exact HB.out
  have HBits : Kept (bits .and .u32 (m : Int) (o : Int) = ((m &&& o : Nat) : Int)) := kp <| u32_and_nat m o hm ho
  clear he hb hid
  go_enter Tryd.func12, Tryd.ntmps12
  go_wp2_with (go_at_call 20; go_must (refine (one_any id HI.out o HE.out _).mono ?_); rintro e w' ⟨rfl, rfl⟩)
  go_ret
  refine ⟨ret_bool ?_, rfl⟩
  rw [← HA.out]
  rw [HBits.out, ne_cast]

set_option maxRecDepth 100000 in
set_option maxHeartbeats 800000 in
theorem within_any (a b : Nat) (ha : a < 4294967296) (hb : b < 4294967296) (r : Bool) (hr : S.within a b 32 = r) (w : World) :
    Calls Tryd.prog 14 #[.int .u32 (a : Int), .int .u32 (b : Int)] w fun e w' => e = .returned (.bool r) ∧ w = w' := by
  have HA : Kept (decide ((a &&& (4294967295 - b)) = 0) = r) := kp <| by rw [← hr, S.within_not a b ha hb]
  have HBits : Kept (bits .andNot .u32 (a : Int) (b : Int) = ((a &&& (4294967295 - b) : Nat) : Int)) := kp <| u32_andNot_nat a b ha hb
  clear hr
  go_enter Tryd.func14, Tryd.ntmps14
  go_wp2
  go_ret
  refine ⟨ret_bool ?_, rfl⟩
  rw [← HA.out]
  rw [HBits.out, eq_cast]

set_option maxRecDepth 100000 in
set_option maxHeartbeats 800000 in
theorem rest_any (m : Nat) (hm : m < 4294967296) (h0 : m ≠ 0) (r : Nat) (hr : S.rest m = r) (w : World) :
    Calls Tryd.prog 25 #[.int .u32 (m : Int)] w fun e w' => e = .returned (.int .u32 (r : Int)) ∧ w = w' := by
  have HA : Kept ((m &&& (m - 1)) = r) := kp <| by rw [← hr]; rfl
  have HBits : Kept (bits .and .u32 (m : Int) ((m : Int) - 1) = ((m &&& (m - 1) : Nat) : Int)) := kp <| by rw [← u32_and_nat m (m - 1) hm (by omega)]; congr 1; omega
  clear hr
  go_enter Tryd.func25, Tryd.ntmps25
  go_wp2
  go_ret
  refine ⟨ret_int ?_, rfl⟩
  rw [← HA.out]
  exact HBits.out
end Go.Proofs.YtpokpaaaeedniaaDoor
