/- What the program's turning of a word does, walked. -/
import Derived.Test.YtoagmmelklkoaaaDoorShaRef1
namespace Go.Proofs.YtoagmmelklkoaaaDoor
open Go.RowKit

theorem rot_comm (x n : Nat) (hx : x < 4294967296) : bits .or .u32 ((x * 2 ^ (32 - n) % 4294967296 : Nat) : Int) ((x / 2 ^ n : Nat) : Int) = ((H.rot x n : Nat) : Int) := by
  rw [u32_or_nat _ _ (Nat.mod_lt _ (by decide)) (Nat.lt_of_le_of_lt (Nat.div_le_self _ _) hx), Nat.or_comm]; rfl

/-- For each number of places: what the walk spells of it. -/
theorem rotl_one (x n : Nat) (hm : bits BinOp.and IntKind.u64 (IntKind.u64.wrap (-(n : Int))) 31 = 32 - (n : Int)) (hx : x < 4294967296) (h1 : 2 ≤ n) (h2 : n ≤ 25) (w : World) :
    Calls Tryd.prog 21 #[.int .u32 (x : Int), .int .i64 (-(n : Int))] w fun e w' => e = .returned (.int .u32 (H.rot x n : Int)) ∧ w = w' := by
  have HC := Lib.hid (rot_comm x n hx)
  have HE : Hid (32 - (32 - n) = n) := by show _ = _; omega
  go_enter Tryd.func21, Tryd.ntmps21
  go_wp2
  go_ret
  refine ⟨ret_int ?_, rfl⟩
  rw [HE.out, ← HC.out, Int.natCast_emod, Int.natCast_mul, Int.natCast_pow, Int.natCast_ediv, Int.natCast_pow]; rfl
theorem rotl_any (x n : Nat) (hx : x < 4294967296) (hn : n = 2 ∨ n = 6 ∨ n = 7 ∨ n = 11 ∨ n = 13 ∨ n = 17 ∨ n = 18 ∨ n = 19 ∨ n = 22 ∨ n = 25) (w : World) :
    Calls Tryd.prog 21 #[.int .u32 (x : Int), .int .i64 (-(n : Int))] w fun e w' => e = .returned (.int .u32 (H.rot x n : Int)) ∧ w = w' := by
  rcases hn with rfl | rfl | rfl | rfl | rfl | rfl | rfl | rfl | rfl | rfl <;> exact rotl_one x _ (by decide +kernel) hx (by omega) (by omega) w

set_option maxRecDepth 100000 in
set_option maxHeartbeats 800000 in
theorem right_any (x n : Nat) (hx : x < 4294967296) (hn : n = 2 ∨ n = 6 ∨ n = 7 ∨ n = 11 ∨ n = 13 ∨ n = 17 ∨ n = 18 ∨ n = 19 ∨ n = 22 ∨ n = 25) (w : World) :
    Calls Tryd.prog 20 #[.int .u32 (x : Int), .int .i64 (n : Int)] w fun e w' => e = .returned (.int .u32 (H.rot x n : Int)) ∧ w = w' := by
  have HN := Lib.hid hn
  have hn2 : n ≤ 25 := by omega
  clear hn
  go_enter Tryd.func20, Tryd.ntmps20
  go_wp2_with (go_at_call 21; go_must (refine (rotl_any x n hx HN.out _).mono ?_); rintro e w' ⟨rfl, rfl⟩)
  go_ret
  exact ⟨rfl, rfl⟩
end Go.Proofs.YtoagmmelklkoaaaDoor
