/- What SemLocks uses, too. -/
import Derived.Test.YtkblgafackmckaaSemLaw2
namespace Go.Proofs.Ytkblgafackmckaa
open Go.RowKit

/-- A new node variable. -/
def Fact.nodeNew (K : Nat) : Fact :=
  ⟨fun v W => ∃ g, v = .pointer (some ⟨g, 0, none⟩) ∧ Blk W g 47 [.int .i64 0, .int .i64 0, .int .i64 0, .int .i64 0] ∧ K ≤ g, fun _ _ _ hb ⟨g, h1, h2, h3⟩ => ⟨g, h1, h2.below hb h2.lt, h3⟩⟩
theorem andNot_bit (a b : Nat) (hb : b < 4294967296) (h : a &&& (4294967295 - b) ≠ 0) : ∃ k, a.testBit k = true ∧ b.testBit k = false := by
  obtain ⟨k, hk⟩ := Nat.exists_testBit_of_ne_zero h
  rw [Nat.testBit_and, show 4294967295 - b = 2 ^ 32 - (b + 1) by omega, Nat.testBit_two_pow_sub_succ (by omega)] at hk
  simp only [Bool.and_eq_true, Bool.not_eq_true', decide_eq_true_eq] at hk
  exact ⟨k, hk.1, hk.2.2⟩
end Go.Proofs.Ytkblgafackmckaa
