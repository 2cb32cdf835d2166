/- SetMath, SetMath2, in one text. -/
import Derived.WalkKit
/- Sets of ids from 0 to 31 as masks, on plain numbers: nothing here speaks of the program. -/
namespace Go.Proofs.YtfifnahcobjjdaaDoor.S

def has (m : Nat) (id : Int) : Bool := decide (0 ≤ id ∧ id ≤ 31) && m.testBit id.toNat
theorem has_out (m : Nat) (id : Int) (h : id < 0 ∨ 31 < id) : has m id = false := by
  unfold has; rw [decide_eq_false (by omega)]; rfl
theorem has_in (m : Nat) (i : Nat) (h : i ≤ 31) : has m (i : Int) = m.testBit i := by
  unfold has; rw [decide_eq_true (by omega)]; simp
theorem bit_div (m i : Nat) : m.testBit i = decide (m / 2 ^ i % 2 = 1) := Nat.testBit_eq_decide_div_mod_eq
/-- All ids of a set. -/
def ids (m : Nat) (n : Nat) : List Nat := (List.range n).filter fun i => m.testBit i
theorem ids_succ (m n : Nat) : ids m (n + 1) = ids m n ++ (if m.testBit n then [n] else []) := by
  unfold ids
  rw [List.range_succ, List.filter_append]
  by_cases h : m.testBit n <;> simp [h]
theorem ids_len (m n : Nat) : (ids m n).length ≤ n := by
  have := List.length_filter_le (fun i => m.testBit i) (List.range n)
  simpa [ids] using this
theorem ids_mem (m n x : Nat) : x ∈ ids m n ↔ x < n ∧ m.testBit x = true := by simp [ids]

/-- The sum of the ids' values. -/
def mask (l : List Nat) : Nat := (l.map (2 ^ ·)).sum
theorem mask_snoc (l : List Nat) (x : Nat) : mask (l ++ [x]) = mask l + 2 ^ x := by simp [mask]
theorem mask_le (l : List Nat) (h : ∀ x ∈ l, x ≤ 31) : mask l ≤ l.length * 2147483648 := by
  induction l with
  | nil => simp [mask]
  | cons x r ih =>
    have h1 := ih fun y hy => h y (by simp [hy])
    have h2 : 2 ^ x ≤ 2 ^ 31 := Nat.pow_le_pow_right (by decide) (h x (by simp))
    simp only [mask, List.map_cons, List.sum_cons, List.length_cons] at *
    omega
/-- The first n ids of a set make its lowest n bits. -/
theorem mask_ids (m : Nat) : ∀ n, mask (ids m n) = m % 2 ^ n
  | 0 => by simp [mask, ids, Nat.mod_one]
  | n + 1 => by
    have hb := bit_div m n
    have hm : m / 2 ^ n % 2 = 0 ∨ m / 2 ^ n % 2 = 1 := by omega
    rw [ids_succ, Nat.mod_pow_succ, ← mask_ids m n]
    rcases hm with h | h
    · rw [h] at hb ⊢
      rw [if_neg (by rw [hb]; decide), List.append_nil]; simp
    · rw [h] at hb ⊢
      rw [if_pos (by rw [hb]; decide), mask_snoc]; simp

/-- All of a in b? -/
def within (a b n : Nat) : Bool := (List.range n).all fun i => !a.testBit i || b.testBit i
theorem within_succ (a b n : Nat) : within a b (n + 1) = (within a b n && (!a.testBit n || b.testBit n)) := by
  simp [within, List.range_succ, List.all_append]

/-- What is wrong at place i of a list. -/
def bad (l : List Int) (size : Int) (i : Nat) : Nat :=
  let x := l.getD i 0
  if x < 0 ∨ size ≤ x ∨ 31 < x then 1 else if 0 < i ∧ x ≤ l.getD (i - 1) 0 then 5 else 0
/-- What is wrong first among the first n. -/
def first (l : List Int) (size : Int) : Nat → Nat
  | 0 => 0
  | n + 1 => if first l size n = 0 then bad l size n else first l size n
theorem first_zero (l : List Int) (size : Int) : ∀ n, first l size n = 0 → ∀ i, i < n → bad l size i = 0
  | 0, _, i, hi => by omega
  | n + 1, h, i, hi => by
    simp only [first] at h
    by_cases h0 : first l size n = 0
    · rw [if_pos h0] at h
      by_cases e : i = n
      · subst e; exact h
      · exact first_zero l size n h0 i (by omega)
    · rw [if_neg h0] at h; exact absurd h h0
theorem first_stays (l : List Int) (size : Int) (n : Nat) (h : first l size n ≠ 0) : ∀ k, first l size (n + k) = first l size n
  | 0 => rfl
  | k + 1 => by
    rw [← Nat.add_assoc]
    simp only [first]
    rw [first_stays l size n h k, if_neg h]

/-- How many ids. -/
def count (m : Nat) : Nat := (ids m 32).length
theorem ids_or_and (a b : Nat) : ∀ n, (ids a n).length + (ids b n).length = (ids (a ||| b) n).length + (ids (a &&& b) n).length
  | 0 => by simp [ids]
  | n + 1 => by
    have ih := ids_or_and a b n
    simp only [ids_succ, List.length_append, Nat.testBit_or, Nat.testBit_and]
    cases a.testBit n <;> cases b.testBit n <;> simp <;> omega
theorem count_or_and (a b : Nat) : count a + count b = count (a ||| b) + count (a &&& b) := ids_or_and a b 32
/-- The least id; -1 of none. -/
def least (m : Nat) : Int := match ids m 32 with | [] => -1 | x :: _ => (x : Int)
theorem bit_high (m i : Nat) (hm : m < 4294967296) (hi : 32 ≤ i) : m.testBit i = false :=
  Nat.testBit_lt_two_pow (Nat.lt_of_lt_of_le hm ((Nat.pow_le_pow_right (by decide) hi : 2 ^ 32 ≤ 2 ^ i)))
theorem within_iff (a b : Nat) : within a b 32 = true ↔ ∀ i, i < 32 → a.testBit i = true → b.testBit i = true := by
  simp only [within, List.all_eq_true, List.mem_range]
  constructor
  · intro h i hi ha
    have := h i hi
    rw [ha] at this; simpa using this
  · intro h i hi
    cases ha : a.testBit i
    · rfl
    · simp [h i hi ha]
theorem within_or (a b : Nat) (ha : a < 4294967296) (_ : b < 4294967296) : within a b 32 = decide (a ||| b = b) := by
  rw [Bool.eq_iff_iff, within_iff, decide_eq_true_iff]
  constructor
  · intro h
    apply Nat.eq_of_testBit_eq
    intro i
    rw [Nat.testBit_or]
    rcases Nat.lt_or_ge i 32 with hi | hi
    · cases h1 : a.testBit i
      · rfl
      · rw [h i hi h1]; rfl
    · rw [bit_high a i ha hi]; rfl
  · intro h i _ h1
    have := congrArg (·.testBit i) h
    simp only [Nat.testBit_or, h1, Bool.true_or] at this
    exact this.symm
theorem within_trans (a b c : Nat) (h1 : within a b 32 = true) (h2 : within b c 32 = true) : within a c 32 = true := by
  rw [within_iff] at *
  exact fun i hi h => h2 i hi (h1 i hi h)
theorem eq_of_bits (a b : Nat) (ha : a < 4294967296) (hb : b < 4294967296) (h : ∀ i, i < 32 → a.testBit i = b.testBit i) : a = b := by
  apply Nat.eq_of_testBit_eq
  intro i
  rcases Nat.lt_or_ge i 32 with hi | hi
  · exact h i hi
  · rw [bit_high a i ha hi, bit_high b i hb hi]
theorem within_both (a b : Nat) (ha : a < 4294967296) (hb : b < 4294967296) : (within a b 32 && within b a 32) = decide (a = b) := by
  rw [Bool.eq_iff_iff, Bool.and_eq_true, decide_eq_true_iff, within_iff, within_iff]
  constructor
  · rintro ⟨h1, h2⟩
    refine eq_of_bits a b ha hb fun i hi => ?_
    rw [Bool.eq_iff_iff]
    exact ⟨h1 i hi, h2 i hi⟩
  · rintro rfl
    exact ⟨fun _ _ h => h, fun _ _ h => h⟩
/-- The set of the ids below n. -/
def all (n : Int) : Nat := if n ≤ 0 then 0 else if 32 ≤ n then 4294967295 else 2 ^ n.toNat - 1
theorem all_nat (n : Nat) (h : n ≤ 32) : all (n : Int) = 2 ^ n - 1 := by
  unfold all
  by_cases h0 : n = 0
  · subst h0; rfl
  · rw [if_neg (by omega)]
    by_cases h1 : n = 32
    · subst h1; rfl
    · rw [if_neg (by omega), Int.toNat_natCast]
theorem all_bit (n i : Nat) (h : n ≤ 32) : (all (n : Int)).testBit i = decide (i < n) := by
  rw [all_nat n h, Nat.testBit_two_pow_sub_one]
theorem all_lt (n : Int) : all n < 4294967296 := by
  unfold all
  split
  · decide
  · split
    · decide
    · have : 2 ^ n.toNat ≤ 2 ^ 31 := Nat.pow_le_pow_right (by decide) (by omega)
      omega
/-- The set of that id alone. -/
def one (id : Int) : Nat := if 0 ≤ id ∧ id ≤ 31 then 2 ^ id.toNat else 0
theorem one_nat (i : Nat) (h : i ≤ 31) : one (i : Int) = 2 ^ i := by unfold one; rw [if_pos (by omega), Int.toNat_natCast]
theorem one_out (id : Int) (h : id < 0 ∨ 31 < id) : one id = 0 := by unfold one; rw [if_neg (by omega)]
theorem one_lt (id : Int) : one id < 4294967296 := by
  unfold one
  split
  · have : 2 ^ id.toNat ≤ 2 ^ 31 := Nat.pow_le_pow_right (by decide) (by omega)
    omega
  · decide
theorem ids_one (i : Nat) (h : i ≤ 31) : ids (2 ^ i) 32 = [i] := by
  have hn : ∀ n, ids (2 ^ i) n = if i < n then [i] else [] := by
    intro n
    induction n with
    | zero => simp [ids]
    | succ n ih =>
      rw [ids_succ, ih, Nat.testBit_two_pow]
      by_cases h1 : i < n
      · rw [if_pos h1, if_pos (show i < n + 1 by omega), if_neg (by simp; omega), List.append_nil]
      · rw [if_neg h1]
        by_cases h2 : i = n
        · rw [if_pos (by simpa using h2), if_pos (by omega), h2]; rfl
        · rw [if_neg (by simpa using h2), if_neg (by omega)]; rfl
  rw [hn, if_pos (by omega)]
theorem all_or_one (i : Nat) (h : i ≤ 31) : all (i : Int) ||| 2 ^ i = all ((i + 1 : Nat) : Int) := by
  apply Nat.eq_of_testBit_eq
  intro j
  rw [Nat.testBit_or, all_bit i j (by omega), all_bit (i + 1) j (by omega), Nat.testBit_two_pow]
  by_cases h1 : j < i
  · rw [decide_eq_true h1, decide_eq_true (by omega : j < i + 1)]; rfl
  · rw [decide_eq_false h1]
    by_cases h2 : i = j
    · rw [decide_eq_true h2, decide_eq_true (by omega : j < i + 1)]; rfl
    · rw [decide_eq_false h2, decide_eq_false (by omega)]; rfl
theorem all_and_one (i : Nat) (h : i ≤ 31) : all (i : Int) &&& 2 ^ i = 0 := by
  apply Nat.eq_of_testBit_eq
  intro j
  rw [Nat.testBit_and, all_bit i j (by omega), Nat.testBit_two_pow, Nat.zero_testBit]
  by_cases h1 : j < i
  · rw [decide_eq_true h1, decide_eq_false (by omega : ¬ i = j)]; rfl
  · rw [decide_eq_false h1]; rfl
/-- What is in all of the sets. -/
def meet (l : List Nat) : Nat := l.foldl (fun m x => m &&& x) 4294967295
theorem meet_snoc (l : List Nat) (x : Nat) : meet (l ++ [x]) = meet l &&& x := by simp [meet]
theorem meet_bit (l : List Nat) (i : Nat) (hi : i < 32) : (meet l).testBit i = l.all fun x => x.testBit i := by
  have h : ∀ (l : List Nat) (m : Nat), (l.foldl (fun m x => m &&& x) m).testBit i = (m.testBit i && l.all fun x => x.testBit i) := by
    intro l
    induction l with
    | nil => intro m; simp
    | cons x r ih => intro m; rw [List.foldl_cons, ih, Nat.testBit_and, List.all_cons, Bool.and_assoc]
  have e : (4294967295 : Nat).testBit i = true := by
    have := Nat.testBit_two_pow_sub_one 32 i
    rw [decide_eq_true hi] at this
    exact this
  unfold meet
  rw [h, e, Bool.true_and]
end Go.Proofs.YtfifnahcobjjdaaDoor.S

/- Taking the least id off a set, on plain numbers: nothing here speaks of the program. -/
namespace Go.Proofs.YtfifnahcobjjdaaDoor.S

/-- A set without its least id. -/
def rest (m : Nat) : Nat := m &&& (m - 1)
theorem low_split : ∀ m : Nat, 0 < m → ∃ k q, m = 2 ^ (k + 1) * q + 2 ^ k := by
  intro m
  induction m using Nat.strongRecOn with
  | _ m ih =>
    intro h
    by_cases ho : m % 2 = 1
    · exact ⟨0, m / 2, by omega⟩
    · obtain ⟨k, q, e⟩ := ih (m / 2) (by omega) (by omega)
      refine ⟨k + 1, q, ?_⟩
      have e1 : 2 ^ (k + 1 + 1) * q = 2 * (2 ^ (k + 1) * q) := by rw [Nat.pow_succ 2 (k + 1)]; rw [Nat.mul_comm (2 ^ (k + 1)) 2, Nat.mul_assoc]
      have e2 : 2 ^ (k + 1) = 2 * 2 ^ k := by rw [Nat.pow_succ]; omega
      rw [e1]
      generalize 2 ^ (k + 1) * q = z at *
      omega
theorem bit_split (k q i : Nat) : (2 ^ (k + 1) * q + 2 ^ k).testBit i = (decide (i = k) || (decide (k < i) && q.testBit (i - (k + 1)))) := by
  have h2 : 2 ^ k < 2 ^ (k + 1) := Nat.pow_lt_pow_right (by decide) (by omega)
  rw [Nat.testBit_two_pow_mul_add q h2]
  by_cases hi : i < k + 1
  · rw [if_pos hi, Nat.testBit_two_pow, decide_eq_false (by omega : ¬ k < i)]
    simp [eq_comm]
  · rw [if_neg hi, decide_eq_false (by omega : ¬ i = k), decide_eq_true (by omega : k < i)]
    simp
theorem bit_pred (k q i : Nat) : (2 ^ (k + 1) * q + 2 ^ k - 1).testBit i = (decide (i < k) || (decide (k < i) && q.testBit (i - (k + 1)))) := by
  have h1 : 0 < 2 ^ k := Nat.pow_pos (by decide)
  have h2 : 2 ^ k - 1 < 2 ^ (k + 1) := by have : 2 ^ k < 2 ^ (k + 1) := Nat.pow_lt_pow_right (by decide) (by omega); omega
  rw [show 2 ^ (k + 1) * q + 2 ^ k - 1 = 2 ^ (k + 1) * q + (2 ^ k - 1) by omega, Nat.testBit_two_pow_mul_add q h2]
  by_cases hi : i < k + 1
  · rw [if_pos hi, Nat.testBit_two_pow_sub_one, decide_eq_false (by omega : ¬ k < i)]
    simp
  · rw [if_neg hi, decide_eq_false (by omega : ¬ i < k), decide_eq_true (by omega : k < i)]
    simp
theorem rest_bit (k q i : Nat) : (rest (2 ^ (k + 1) * q + 2 ^ k)).testBit i = (decide (k < i) && q.testBit (i - (k + 1))) := by
  unfold rest
  rw [Nat.testBit_and, bit_split, bit_pred]
  by_cases h : k < i
  · rw [decide_eq_true h, decide_eq_false (by omega : ¬ i = k)]; cases q.testBit (i - (k + 1)) <;> simp
  · rw [decide_eq_false h]
    by_cases h2 : i = k
    · rw [decide_eq_true h2, decide_eq_false (by omega : ¬ i < k)]; simp
    · rw [decide_eq_false h2]; simp
theorem ids_split (k q : Nat) : ∀ n, ids (2 ^ (k + 1) * q + 2 ^ k) n = if k < n then k :: ids (rest (2 ^ (k + 1) * q + 2 ^ k)) n else ids (rest (2 ^ (k + 1) * q + 2 ^ k)) n
  | 0 => by simp [ids]
  | n + 1 => by
    rw [ids_succ, ids_succ, ids_split k q n, rest_bit, bit_split]
    by_cases h1 : k < n
    · rw [if_pos h1, if_pos (by omega : k < n + 1), decide_eq_false (by omega : ¬ n = k)]; rfl
    · rw [if_neg h1]
      by_cases h2 : n = k
      · subst h2
        have e : ids (rest (2 ^ (n + 1) * q + 2 ^ n)) n = [] := by
          unfold ids
          rw [List.filter_eq_nil_iff]
          intro i hi
          have := List.mem_range.1 hi
          rw [rest_bit, decide_eq_false (by omega)]; simp
        rw [e]; simp
      · rw [decide_eq_false h2, decide_eq_false h1, if_neg (show ¬ k < n + 1 by omega)]; rfl
theorem neg_bit (k q : Nat) (hm : 2 ^ (k + 1) * q + 2 ^ k < 4294967296) : ((2 ^ (k + 1) * q + 2 ^ k) &&& (4294967296 - (2 ^ (k + 1) * q + 2 ^ k))) = 2 ^ k := by
  have h1 : 0 < 2 ^ k := Nat.pow_pos (by decide)
  apply Nat.eq_of_testBit_eq
  intro j
  have e : 4294967296 - (2 ^ (k + 1) * q + 2 ^ k) = 2 ^ 32 - ((2 ^ (k + 1) * q + 2 ^ k - 1) + 1) := by
    have : 4294967296 = 2 ^ 32 := by decide
    omega
  rw [Nat.testBit_and, e, Nat.testBit_two_pow_sub_succ (by omega), bit_split, bit_pred, Nat.testBit_two_pow]
  by_cases h2 : j = k
  · subst h2
    have : j < 32 := by
      rcases Nat.lt_or_ge j 32 with h | h
      · exact h
      · have := Nat.pow_le_pow_right (by decide : 0 < 2) h
        omega
    simp [this]
  · rw [decide_eq_false h2, decide_eq_false (by omega : ¬ k = j)]
    by_cases h3 : k < j
    · rw [decide_eq_true h3, decide_eq_false (by omega : ¬ j < k)]
      cases q.testBit (j - (k + 1)) <;> simp
    · rw [decide_eq_false h3]; simp
/-- All of it, of a set that isn't empty. -/
theorem low (m : Nat) (h0 : m ≠ 0) (hm : m < 4294967296) : ∃ k, k ≤ 31 ∧ ids m 32 = k :: ids (rest m) 32 ∧ (m &&& (4294967296 - m)) = 2 ^ k ∧ rest m < m := by
  obtain ⟨k, q, rfl⟩ := low_split m (by omega)
  have h1 : 0 < 2 ^ k := Nat.pow_pos (by decide)
  have hk : k < 32 := by
    rcases Nat.lt_or_ge k 32 with h | h
    · exact h
    · have := Nat.pow_le_pow_right (by decide : 0 < 2) h
      omega
  refine ⟨k, by omega, ?_, neg_bit k q hm, ?_⟩
  · have := ids_split k q 32
    rw [if_pos hk] at this
    exact this
  · unfold rest
    exact Nat.lt_of_le_of_lt Nat.and_le_right (by omega)
theorem ids_zero (n : Nat) : ids 0 n = [] := by simp [ids]
theorem count_zero : count 0 = 0 := by simp [count, ids_zero]
theorem count_rest (m : Nat) (h0 : m ≠ 0) (hm : m < 4294967296) : count m = count (rest m) + 1 := by
  obtain ⟨k, _, h, _⟩ := low m h0 hm
  unfold count
  rw [h]; rfl
theorem count_le (m : Nat) : count m ≤ 32 := ids_len m 32
theorem least_low (m k : Nat) (l : List Nat) (h : ids m 32 = k :: l) : least m = k := by unfold least; rw [h]
/-- What the program asks instead of 'within'. -/
theorem within_not (a b : Nat) (ha : a < 4294967296) (hb : b < 4294967296) : within a b 32 = decide ((a &&& (4294967295 - b)) = 0) := by
  have hbit : ∀ i, (4294967295 - b).testBit i = (decide (i < 32) && !b.testBit i) := fun i => by
    have := Nat.testBit_two_pow_sub_succ (n := 32) (x := b) hb i
    rw [← this, show 2 ^ 32 - (b + 1) = 4294967295 - b by omega]
  rw [Bool.eq_iff_iff, within_iff, decide_eq_true_iff]
  constructor
  · intro h
    apply Nat.eq_of_testBit_eq
    intro i
    rw [Nat.testBit_and, hbit, Nat.zero_testBit]
    rcases Nat.lt_or_ge i 32 with hi | hi
    · cases h1 : a.testBit i
      · rfl
      · rw [h i hi h1]; simp
    · rw [bit_high a i ha hi]; rfl
  · intro h i hi h1
    have := congrArg (·.testBit i) h
    simp only [Nat.testBit_and, hbit, h1, Nat.zero_testBit, decide_eq_true hi, Bool.true_and] at this
    simpa using this
theorem has_one (m : Nat) (id : Int) : has m id = decide ((m &&& one id) ≠ 0) := by
  by_cases h : 0 ≤ id ∧ id ≤ 31
  · obtain ⟨n, rfl⟩ : ∃ n : Nat, id = (n : Int) := ⟨id.toNat, by omega⟩
    have hn : n ≤ 31 := by omega
    rw [has_in m n hn, one_nat n hn, Bool.eq_iff_iff, decide_eq_true_iff]
    constructor
    · intro h1 h2
      have := congrArg (·.testBit n) h2
      simp [Nat.testBit_and, h1] at this
    · intro h1
      cases h2 : m.testBit n
      · exfalso
        apply h1
        apply Nat.eq_of_testBit_eq
        intro i
        rw [Nat.testBit_and, Nat.testBit_two_pow, Nat.zero_testBit]
        by_cases hi : n = i
        · subst hi; rw [h2]; rfl
        · rw [decide_eq_false hi, Bool.and_false]
      · rfl
  · rw [has_out m id (by omega), one_out id (by omega)]; simp
theorem has_all (n id : Int) (hn : id < n) (h0 : 0 ≤ id) (h1 : id ≤ 31) : has (all n) id = true := by
  obtain ⟨i, rfl⟩ : ∃ i : Nat, id = (i : Int) := ⟨id.toNat, by omega⟩
  rw [has_in _ i (by omega)]
  by_cases h : 32 ≤ n
  · have e : all n = all ((32 : Nat) : Int) := by unfold all; rw [if_neg (by omega), if_pos h]; rfl
    rw [e, all_bit 32 i (by omega)]; simp; omega
  · obtain ⟨k, rfl⟩ : ∃ k : Nat, n = (k : Int) := ⟨n.toNat, by omega⟩
    rw [all_bit k i (by omega)]; simp; omega
theorem has_all_not (n id : Int) (h : id < 0 ∨ n ≤ id ∨ 31 < id) : has (all n) id = false := by
  by_cases ho : id < 0 ∨ 31 < id
  · exact has_out _ _ ho
  · obtain ⟨i, rfl⟩ : ∃ i : Nat, id = (i : Int) := ⟨id.toNat, by omega⟩
    rw [has_in _ i (by omega)]
    by_cases h0 : n ≤ 0
    · unfold all; rw [if_pos h0]; simp
    · obtain ⟨k, rfl⟩ : ∃ k : Nat, n = (k : Int) := ⟨n.toNat, by omega⟩
      rw [all_bit k i (by omega)]; simp; omega
end Go.Proofs.YtfifnahcobjjdaaDoor.S
