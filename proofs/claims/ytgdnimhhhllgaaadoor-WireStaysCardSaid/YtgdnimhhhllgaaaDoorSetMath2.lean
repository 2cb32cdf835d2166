/- Taking the least id off a set, on plain numbers: nothing here speaks of the program. -/
import Derived.Test.YtgdnimhhhllgaaaDoorSetMath
namespace Go.Proofs.YtgdnimhhhllgaaaDoor.S

/-- A set without its least id. -/
def rest (m : Nat) : Nat := m &&& (m - 1)
theorem low_split : ∀ m : Nat, 0 < m → ∃ k q, m = 2 ^ (k + 1) * q + 2 ^ k := by
  intro m
  induction m using Nat.strongRecOn with
  | _ m ih =>
    intro h
    by_cases ho : m % 2 = 1
    · exact ⟨0, m / 2, by omega⟩
    · obtain ⟨k, q, e⟩ := ih (m / 2) (by omega) (by omega)
      refine ⟨k + 1, q, ?_⟩
      have e1 : 2 ^ (k + 1 + 1) * q = 2 * (2 ^ (k + 1) * q) := by rw [Nat.pow_succ 2 (k + 1)]; rw [Nat.mul_comm (2 ^ (k + 1)) 2, Nat.mul_assoc]
      have e2 : 2 ^ (k + 1) = 2 * 2 ^ k := by rw [Nat.pow_succ]; omega
      rw [e1]
      generalize 2 ^ (k + 1) * q = z at *
      omega
theorem bit_split (k q i : Nat) : (2 ^ (k + 1) * q + 2 ^ k).testBit i = (decide (i = k) || (decide (k < i) && q.testBit (i - (k + 1)))) := by
  have h2 : 2 ^ k < 2 ^ (k + 1) := Nat.pow_lt_pow_right (by decide) (by omega)
  rw [Nat.testBit_two_pow_mul_add q h2]
  by_cases hi : i < k + 1
  · rw [if_pos hi, Nat.testBit_two_pow, decide_eq_false (by omega : ¬ k < i)]
    simp [eq_comm]
  · rw [if_neg hi, decide_eq_false (by omega : ¬ i = k), decide_eq_true (by omega : k < i)]
    simp
theorem bit_pred (k q i : Nat) : (2 ^ (k + 1) * q + 2 ^ k - 1).testBit i = (decide (i < k) || (decide (k < i) && q.testBit (i - (k + 1)))) := by
  have h1 : 0 < 2 ^ k := Nat.pow_pos (by decide)
  have h2 : 2 ^ k - 1 < 2 ^ (k + 1) := by have : 2 ^ k < 2 ^ (k + 1) := Nat.pow_lt_pow_right (by decide) (by omega); omega
  rw [show 2 ^ (k + 1) * q + 2 ^ k - 1 = 2 ^ (k + 1) * q + (2 ^ k - 1) by omega, Nat.testBit_two_pow_mul_add q h2]
  by_cases hi : i < k + 1
  · rw [if_pos hi, Nat.testBit_two_pow_sub_one, decide_eq_false (by omega : ¬ k < i)]
    simp
  · rw [if_neg hi, decide_eq_false (by omega : ¬ i < k), decide_eq_true (by omega : k < i)]
    simp
theorem rest_bit (k q i : Nat) : (rest (2 ^ (k + 1) * q + 2 ^ k)).testBit i = (decide (k < i) && q.testBit (i - (k + 1))) := by
  unfold rest
  rw [Nat.testBit_and, bit_split, bit_pred]
  by_cases h : k < i
  · rw [decide_eq_true h, decide_eq_false (by omega : ¬ i = k)]; cases q.testBit (i - (k + 1)) <;> simp
  · rw [decide_eq_false h]
    by_cases h2 : i = k
    · rw [decide_eq_true h2, decide_eq_false (by omega : ¬ i < k)]; simp
    · rw [decide_eq_false h2]; simp
theorem ids_split (k q : Nat) : ∀ n, ids (2 ^ (k + 1) * q + 2 ^ k) n = if k < n then k :: ids (rest (2 ^ (k + 1) * q + 2 ^ k)) n else ids (rest (2 ^ (k + 1) * q + 2 ^ k)) n
  | 0 => by simp [ids]
  | n + 1 => by
    rw [ids_succ, ids_succ, ids_split k q n, rest_bit, bit_split]
    by_cases h1 : k < n
    · rw [if_pos h1, if_pos (by omega : k < n + 1), decide_eq_false (by omega : ¬ n = k)]; rfl
    · rw [if_neg h1]
      by_cases h2 : n = k
      · subst h2
        have e : ids (rest (2 ^ (n + 1) * q + 2 ^ n)) n = [] := by
          unfold ids
          rw [List.filter_eq_nil_iff]
          intro i hi
          have := List.mem_range.1 hi
          rw [rest_bit, decide_eq_false (by omega)]; simp
        rw [e]; simp
      · rw [decide_eq_false h2, decide_eq_false h1, if_neg (show ¬ k < n + 1 by omega)]; rfl
theorem neg_bit (k q : Nat) (hm : 2 ^ (k + 1) * q + 2 ^ k < 4294967296) : ((2 ^ (k + 1) * q + 2 ^ k) &&& (4294967296 - (2 ^ (k + 1) * q + 2 ^ k))) = 2 ^ k := by
  have h1 : 0 < 2 ^ k := Nat.pow_pos (by decide)
  apply Nat.eq_of_testBit_eq
  intro j
  have e : 4294967296 - (2 ^ (k + 1) * q + 2 ^ k) = 2 ^ 32 - ((2 ^ (k + 1) * q + 2 ^ k - 1) + 1) := by
    have : 4294967296 = 2 ^ 32 := by decide
    omega
  rw [Nat.testBit_and, e, Nat.testBit_two_pow_sub_succ (by omega), bit_split, bit_pred, Nat.testBit_two_pow]
  by_cases h2 : j = k
  · subst h2
    have : j < 32 := by
      rcases Nat.lt_or_ge j 32 with h | h
      · exact h
      · have := Nat.pow_le_pow_right (by decide : 0 < 2) h
        omega
    simp [this]
  · rw [decide_eq_false h2, decide_eq_false (by omega : ¬ k = j)]
    by_cases h3 : k < j
    · rw [decide_eq_true h3, decide_eq_false (by omega : ¬ j < k)]
      cases q.testBit (j - (k + 1)) <;> simp
    · rw [decide_eq_false h3]; simp
/-- All of it, of a set that isn't empty. -/
theorem low (m : Nat) (h0 : m ≠ 0) (hm : m < 4294967296) : ∃ k, k ≤ 31 ∧ ids m 32 = k :: ids (rest m) 32 ∧ (m &&& (4294967296 - m)) = 2 ^ k ∧ rest m < m := by
  obtain ⟨k, q, rfl⟩ := low_split m (by omega)
  have h1 : 0 < 2 ^ k := Nat.pow_pos (by decide)
  have hk : k < 32 := by
    rcases Nat.lt_or_ge k 32 with h | h
    · exact h
    · have := Nat.pow_le_pow_right (by decide : 0 < 2) h
      omega
  refine ⟨k, by omega, ?_, neg_bit k q hm, ?_⟩
  · have := ids_split k q 32
    rw [if_pos hk] at this
    exact this
  · unfold rest
    exact Nat.lt_of_le_of_lt Nat.and_le_right (by omega)
theorem ids_zero (n : Nat) : ids 0 n = [] := by simp [ids]
theorem count_zero : count 0 = 0 := by simp [count, ids_zero]
theorem count_rest (m : Nat) (h0 : m ≠ 0) (hm : m < 4294967296) : count m = count (rest m) + 1 := by
  obtain ⟨k, _, h, _⟩ := low m h0 hm
  unfold count
  rw [h]; rfl
theorem count_le (m : Nat) : count m ≤ 32 := ids_len m 32
theorem least_low (m k : Nat) (l : List Nat) (h : ids m 32 = k :: l) : least m = k := by unfold least; rw [h]
/-- What the program asks instead of 'within'. -/
theorem within_not (a b : Nat) (ha : a < 4294967296) (hb : b < 4294967296) : within a b 32 = decide ((a &&& (4294967295 - b)) = 0) := by
  have hbit : ∀ i, (4294967295 - b).testBit i = (decide (i < 32) && !b.testBit i) := fun i => by
    have := Nat.testBit_two_pow_sub_succ (n := 32) (x := b) hb i
    rw [← this, show 2 ^ 32 - (b + 1) = 4294967295 - b by omega]
  rw [Bool.eq_iff_iff, within_iff, decide_eq_true_iff]
  constructor
  · intro h
    apply Nat.eq_of_testBit_eq
    intro i
    rw [Nat.testBit_and, hbit, Nat.zero_testBit]
    rcases Nat.lt_or_ge i 32 with hi | hi
    · cases h1 : a.testBit i
      · rfl
      · rw [h i hi h1]; simp
    · rw [bit_high a i ha hi]; rfl
  · intro h i hi h1
    have := congrArg (·.testBit i) h
    simp only [Nat.testBit_and, hbit, h1, Nat.zero_testBit, decide_eq_true hi, Bool.true_and] at this
    simpa using this
theorem has_one (m : Nat) (id : Int) : has m id = decide ((m &&& one id) ≠ 0) := by
  by_cases h : 0 ≤ id ∧ id ≤ 31
  · obtain ⟨n, rfl⟩ : ∃ n : Nat, id = (n : Int) := ⟨id.toNat, by omega⟩
    have hn : n ≤ 31 := by omega
    rw [has_in m n hn, one_nat n hn, Bool.eq_iff_iff, decide_eq_true_iff]
    constructor
    · intro h1 h2
      have := congrArg (·.testBit n) h2
      simp [Nat.testBit_and, h1] at this
    · intro h1
      cases h2 : m.testBit n
      · exfalso
        apply h1
        apply Nat.eq_of_testBit_eq
        intro i
        rw [Nat.testBit_and, Nat.testBit_two_pow, Nat.zero_testBit]
        by_cases hi : n = i
        · subst hi; rw [h2]; rfl
        · rw [decide_eq_false hi, Bool.and_false]
      · rfl
  · rw [has_out m id (by omega), one_out id (by omega)]; simp
theorem has_all (n id : Int) (hn : id < n) (h0 : 0 ≤ id) (h1 : id ≤ 31) : has (all n) id = true := by
  obtain ⟨i, rfl⟩ : ∃ i : Nat, id = (i : Int) := ⟨id.toNat, by omega⟩
  rw [has_in _ i (by omega)]
  by_cases h : 32 ≤ n
  · have e : all n = all ((32 : Nat) : Int) := by unfold all; rw [if_neg (by omega), if_pos h]; rfl
    rw [e, all_bit 32 i (by omega)]; simp; omega
  · obtain ⟨k, rfl⟩ : ∃ k : Nat, n = (k : Int) := ⟨n.toNat, by omega⟩
    rw [all_bit k i (by omega)]; simp; omega
theorem has_all_not (n id : Int) (h : id < 0 ∨ n ≤ id ∨ 31 < id) : has (all n) id = false := by
  by_cases ho : id < 0 ∨ 31 < id
  · exact has_out _ _ ho
  · obtain ⟨i, rfl⟩ : ∃ i : Nat, id = (i : Int) := ⟨id.toNat, by omega⟩
    rw [has_in _ i (by omega)]
    by_cases h0 : n ≤ 0
    · unfold all; rw [if_pos h0]; simp
    · obtain ⟨k, rfl⟩ : ∃ k : Nat, n = (k : Int) := ⟨n.toNat, by omega⟩
      rw [all_bit k i (by omega)]; simp; omega
end Go.Proofs.YtgdnimhhhllgaaaDoor.S
