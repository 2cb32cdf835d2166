/- Math1, SetMath, SetMath2, in one text. -/
import Derived.WalkKit
/- Plain arithmetic of variable-length integers: nothing here speaks of the program. -/
namespace Go.Proofs.YtiojobajcnifpaaDoor.V

def size (n : Nat) : Nat := if n < 128 then 1 else if n < 16384 then 2 else if n < 2097152 then 3 else if n < 268435456 then 4 else 5

theorem size_le (n : Nat) : size n ≤ 5 := by unfold size; split <;> (try split) <;> (try split) <;> (try split) <;> omega
theorem size_pos (n : Nat) : 1 ≤ size n := by unfold size; split <;> (try split) <;> (try split) <;> (try split) <;> omega

/-- Behind k bytes of n this is left. -/
def left (n k : Nat) : Nat := n / 128 ^ k
theorem left_zero (n : Nat) : left n 0 = n := by simp [left]
theorem left_succ (n k : Nat) : left n (k + 1) = left n k / 128 := by
  unfold left; rw [Nat.pow_succ, Nat.div_div_eq_div_mul]
theorem left_lt (n k : Nat) (h : n < 4294967296) : left n k < 4294967296 := Nat.lt_of_le_of_lt (Nat.div_le_self _ _) h
theorem size_at (n k : Nat) (hk : k < 5) (hn : n < 4294967296) (h : k = 0 ∨ left n k ≠ 0) (h1 : left n k / 128 = 0) : size n = k + 1 := by
  unfold left at h h1
  unfold size
  match k, hk with
  | 0, _ => simp at *; (repeat' split) <;> omega
  | 1, _ => simp at *; (repeat' split) <;> omega
  | 2, _ => simp at *; (repeat' split) <;> omega
  | 3, _ => simp at *; (repeat' split) <;> omega
  | 4, _ => simp at *; (repeat' split) <;> omega
theorem left_five (n : Nat) (hn : n < 4294967296) : left n 5 = 0 := by
  unfold left; simp; omega

/-- What bytes begin with, from the k-th on, acc being what those before it say. -/
def go : Nat → Nat → List Nat → Nat × Nat × Nat
  | _, _, [] => (0, 0, 2)
  | k, acc, x :: r =>
    if k = 4 ∧ 15 < x then (0, 0, 4) else if 0 < k ∧ x = 0 then (0, 0, 3)
    else if x < 128 then (acc + x * 128 ^ k, k + 1, 0) else go (k + 1) (acc + (x - 128) * 128 ^ k) r

theorem go_nil (k acc : Nat) : go k acc [] = (0, 0, 2) := by unfold go; rfl
theorem go_long (k acc x : Nat) (r : List Nat) (h : k = 4 ∧ 15 < x) : go k acc (x :: r) = (0, 0, 4) := by
  rw [go, if_pos h]
theorem go_form (k acc x : Nat) (r : List Nat) (h : ¬ (k = 4 ∧ 15 < x)) (h1 : 0 < k ∧ x = 0) : go k acc (x :: r) = (0, 0, 3) := by
  rw [go, if_neg h, if_pos h1]
theorem go_last (k acc x : Nat) (r : List Nat) (h : ¬ (k = 4 ∧ 15 < x)) (h1 : ¬ (0 < k ∧ x = 0)) (h2 : x < 128) : go k acc (x :: r) = (acc + x * 128 ^ k, k + 1, 0) := by
  rw [go, if_neg h, if_neg h1, if_pos h2]
theorem go_on (k acc x : Nat) (r : List Nat) (h : ¬ (k = 4 ∧ 15 < x)) (h2 : ¬ x < 128) : go k acc (x :: r) = go (k + 1) (acc + (x - 128) * 128 ^ k) r := by
  rw [go, if_neg h, if_neg (by omega), if_neg h2]

theorem pow_at (k : Nat) (hk : k ≤ 4) : (k ≤ 3 ∧ 128 ^ k ≤ 2097152) ∨ (k = 4 ∧ 128 ^ k = 268435456) := by
  rcases (by omega : k = 0 ∨ k = 1 ∨ k = 2 ∨ k = 3 ∨ k = 4) with rfl | rfl | rfl | rfl | rfl
  · exact .inl ⟨by omega, by decide⟩
  · exact .inl ⟨by omega, by decide⟩
  · exact .inl ⟨by omega, by decide⟩
  · exact .inl ⟨by omega, by decide⟩
  · exact .inr ⟨rfl, by decide⟩
theorem pow_le (k : Nat) (hk : k ≤ 4) : 128 ^ k ≤ 268435456 := by rcases pow_at k hk with ⟨_, h⟩ | ⟨_, h⟩ <;> omega
theorem part_lt (k x : Nat) (hk : k ≤ 4) (hx : x < 256) (h4 : ¬ (k = 4 ∧ 15 < x)) : x % 128 * 128 ^ k < 4294967296 := by
  rcases pow_at k hk with ⟨h3, h⟩ | ⟨h3, h⟩
  · have := Nat.mul_le_mul (by omega : x % 128 ≤ 127) h
    omega
  · rw [h]; omega
theorem or_step (k acc x : Nat) (hk : k ≤ 4) (ha : acc < 128 ^ k) (hx : x < 256) (h4 : ¬ (k = 4 ∧ 15 < x)) :
    bits .or .u32 (acc : Int) ((x : Int) % 128 * 2 ^ (7 * k) % 4294967296) = ((acc + x % 128 * 128 ^ k : Nat) : Int) := by
  have hp := pow_le k hk
  have h2 : (2 : Nat) ^ (7 * k) = 128 ^ k := by rw [Nat.pow_mul]
  have hlt := part_lt k x hk hx h4
  have e : (x : Int) % 128 * 2 ^ (7 * k) % 4294967296 = ((x % 128 * 128 ^ k : Nat) : Int) := by
    rw [← h2] at hlt ⊢
    have e1 : (x : Int) % 128 * 2 ^ (7 * k) = ((x % 128 * 2 ^ (7 * k) : Nat) : Int) := by rw [Int.natCast_mul, Int.natCast_emod, Int.natCast_pow]; rfl
    rw [e1]
    exact Int.emod_eq_of_lt (Int.natCast_nonneg _) (Int.ofNat_lt.2 hlt)
  rw [e, u32_or_nat _ _ (by omega) hlt, ← h2, Nat.mul_comm (x % 128), Nat.or_comm, ← Nat.two_pow_add_eq_or_of_lt (by rw [h2]; exact ha)]
  congr 1; omega
theorem acc_step (k acc x : Nat) (ha : acc < 128 ^ k) : acc + x % 128 * 128 ^ k < 128 ^ (k + 1) := by
  have h : x % 128 * 128 ^ k ≤ 127 * 128 ^ k := Nat.mul_le_mul_right _ (by omega)
  rw [Nat.pow_succ]; omega

def get (l : List Nat) : Nat × Nat × Nat := go 0 0 l

/-- A number's bytes. -/
def put (n : Nat) : List Nat := if n < 128 then [n] else (n % 128 + 128) :: put (n / 128)
  termination_by n
  decreasing_by omega

theorem put_last (n : Nat) (h : n < 128) : put n = [n] := by rw [put, if_pos h]
theorem put_on (n : Nat) (h : ¬ n < 128) : put n = (n % 128 + 128) :: put (n / 128) := by rw [put, if_neg h]
theorem size_last (n : Nat) (h : n < 128) : size n = 1 := by unfold size; rw [if_pos h]
theorem size_on (n : Nat) (h : ¬ n < 128) (hn : n < 4294967296) : size n = 1 + size (n / 128) := by
  unfold size; (repeat' split) <;> omega
theorem five (n : Nat) (hn : n < 4294967296) : n < 128 ^ 5 := by
  have h : (128 : Nat) ^ 5 = 34359738368 := by decide
  omega
theorem put_len : ∀ (k n : Nat), n < 128 ^ k → n < 4294967296 → (put n).length = size n
  | 0, n, h, _ => by simp at h; subst h; rw [put_last _ (by omega), size_last _ (by omega)]; rfl
  | k + 1, n, h, hn => by
    by_cases h1 : n < 128
    · rw [put_last _ h1, size_last _ h1]; rfl
    · rw [put_on _ h1, size_on _ h1 hn, List.length_cons, put_len k (n / 128) (by rw [Nat.pow_succ] at h; omega) (by omega)]; omega
theorem len_put (n : Nat) (hn : n < 4294967296) : (put n).length = size n := put_len 5 n (five n hn) hn
theorem put_bytes : ∀ (k n : Nat), n < 128 ^ k → ∀ x ∈ put n, x < 256
  | 0, n, h, x, hx => by simp at h; subst h; rw [put_last _ (by omega)] at hx; simp at hx; omega
  | k + 1, n, h, x, hx => by
    by_cases h1 : n < 128
    · rw [put_last _ h1] at hx; simp at hx; omega
    · rw [put_on _ h1] at hx
      rcases List.mem_cons.1 hx with rfl | hx
      · omega
      · exact put_bytes k (n / 128) (by rw [Nat.pow_succ] at h; omega) x hx
theorem put_byte (n : Nat) (hn : n < 4294967296) : ∀ x ∈ put n, x < 256 := put_bytes 5 n (five n hn)

/-- Two more bytes to come just where the number is 128 and more. -/
theorem size_two (n : Nat) : 2 ≤ size n ↔ ¬ n < 128 := by unfold size; (repeat' split) <;> omega

/-- A row's bytes, and how many these are. -/
def row (l : List Nat) : List Nat := l.flatMap put
def sizes : List Nat → Nat
  | [] => 0
  | n :: r => size n + sizes r
theorem sizes_snoc (l : List Nat) (n : Nat) : sizes (l ++ [n]) = sizes l + size n := by
  induction l with
  | nil => simp [sizes]
  | cons m r ih => simp [sizes, ih]; omega
theorem row_snoc (l : List Nat) (n : Nat) : row (l ++ [n]) = row l ++ put n := by simp [row]
theorem sizes_le (l : List Nat) : sizes l ≤ 5 * l.length := by
  induction l with
  | nil => simp [sizes]
  | cons n r ih => have := size_le n; simp [sizes]; omega
theorem row_len (l : List Nat) (h : ∀ n ∈ l, n < 4294967296) : (row l).length = sizes l := by
  induction l with
  | nil => rfl
  | cons n r ih =>
    have h1 := ih fun x hx => h x (List.mem_cons_of_mem _ hx)
    have h2 := len_put n (h n (List.mem_cons_self))
    simp only [row, List.flatMap_cons, List.length_append, sizes] at *
    omega
theorem take_snoc {α : Type} (l : List α) (k : Nat) (x : α) (h : l[k]? = some x) : l.take (k + 1) = l.take k ++ [x] := by
  rw [List.take_add_one, h]; rfl

/-- What get answers is small. -/
theorem go_small : ∀ (l : List Nat) (k acc : Nat), (∀ x ∈ l, x < 256) → k ≤ 4 → acc < 128 ^ k → (go k acc l).1 < 4294967296 ∧ (go k acc l).2.1 ≤ 5 ∧ (go k acc l).2.2 ≤ 4
  | [], k, acc, _, _, _ => by rw [go_nil]; simp
  | x :: r, k, acc, hb, hk, ha => by
    have hx := hb x (List.mem_cons_self)
    by_cases h : k = 4 ∧ 15 < x
    · rw [go_long _ _ _ _ h]; simp
    · by_cases h1 : 0 < k ∧ x = 0
      · rw [go_form _ _ _ _ h h1]; simp
      · by_cases h2 : x < 128
        · rw [go_last _ _ _ _ h h1 h2]
          refine ⟨?_, by simp; omega, by simp⟩
          rcases pow_at k hk with ⟨h3, hp⟩ | ⟨h3, hp⟩
          · have := Nat.mul_le_mul (by omega : x ≤ 127) hp
            simp only; omega
          · simp only
            rw [hp] at ha ⊢
            omega
        · rw [go_on _ _ _ _ h h2]
          refine go_small r (k + 1) _ (fun y hy => hb y (List.mem_cons_of_mem _ hy)) (by omega) ?_
          have := acc_step k acc x ha
          rwa [show x % 128 = x - 128 by omega] at this
theorem get_small (l : List Nat) (h : ∀ x ∈ l, x < 256) : (get l).1 < 4294967296 ∧ (get l).2.1 ≤ 5 ∧ (get l).2.2 ≤ 4 := go_small l 0 0 h (by omega) (by simp)

/-- What is read has just these bytes. -/
theorem go_once : ∀ (l : List Nat) (k acc : Nat), (∀ x ∈ l, x < 256) → k ≤ 4 → (go k acc l).2.2 = 0 →
    ∃ m, (go k acc l).1 = acc + m * 128 ^ k ∧ (go k acc l).2.1 = k + (put m).length ∧ (put m).length ≤ l.length ∧ put m = l.take (put m).length ∧ (0 < k → m ≠ 0)
  | [], k, acc, _, _, h0 => by rw [go_nil] at h0; simp at h0
  | x :: r, k, acc, hb, hk, h0 => by
    have hx := hb x (List.mem_cons_self)
    by_cases h : k = 4 ∧ 15 < x
    · rw [go_long _ _ _ _ h] at h0; simp at h0
    · by_cases h1 : 0 < k ∧ x = 0
      · rw [go_form _ _ _ _ h h1] at h0; simp at h0
      · by_cases h2 : x < 128
        · rw [go_last _ _ _ _ h h1 h2]
          exact ⟨x, rfl, by rw [put_last x h2]; rfl, by rw [put_last x h2]; simp, by rw [put_last x h2]; rfl, by omega⟩
        · rw [go_on _ _ _ _ h h2] at h0 ⊢
          obtain ⟨m, e1, e2, e3, e4, e5⟩ := go_once r (k + 1) _ (fun y hy => hb y (List.mem_cons_of_mem _ hy)) (by omega) h0
          have hm := e5 (by omega)
          have hp : put (x - 128 + 128 * m) = x :: put m := by
            rw [put_on _ (by omega)]
            congr 1
            · omega
            · congr 1; omega
          refine ⟨x - 128 + 128 * m, ?_, ?_, ?_, ?_, by omega⟩
          · rw [e1, Nat.pow_succ, Nat.add_mul, Nat.add_assoc]
            congr 2
            rw [Nat.mul_comm (128 ^ k) 128, ← Nat.mul_assoc, Nat.mul_comm m 128]
          · rw [e2, hp]; simp; omega
          · rw [hp]; simp; omega
          · rw [hp]; simp; rw [← e4]
theorem get_once (l : List Nat) (h : ∀ x ∈ l, x < 256) (h0 : (get l).2.2 = 0) : put (get l).1 = l.take (get l).2.1 ∧ 1 ≤ (get l).2.1 ∧ (get l).2.1 ≤ l.length := by
  obtain ⟨m, e1, e2, e3, e4, _⟩ := go_once l 0 0 h (by omega) h0
  have e1' : (get l).1 = m := by unfold get; rw [e1]; simp
  have e2' : (get l).2.1 = (put m).length := by unfold get; rw [e2]; simp
  rw [e1', e2']
  refine ⟨e4, ?_, e3⟩
  by_cases h1 : m < 128
  · rw [put_last _ h1]; simp
  · rw [put_on _ h1]; simp
theorem go_zero : ∀ (l : List Nat) (k acc : Nat), (go k acc l).2.2 ≠ 0 → (go k acc l).1 = 0 ∧ (go k acc l).2.1 = 0
  | [], k, acc, _ => by rw [go_nil]; simp
  | x :: r, k, acc, h0 => by
    by_cases h : k = 4 ∧ 15 < x
    · rw [go_long _ _ _ _ h]; simp
    · by_cases h1 : 0 < k ∧ x = 0
      · rw [go_form _ _ _ _ h h1]; simp
      · by_cases h2 : x < 128
        · rw [go_last _ _ _ _ h h1 h2] at h0; simp at h0
        · rw [go_on _ _ _ _ h h2] at h0 ⊢; exact go_zero r _ _ h0
theorem get_zero (l : List Nat) (h0 : (get l).2.2 ≠ 0) : (get l).1 = 0 ∧ (get l).2.1 = 0 := go_zero l 0 0 h0

/-- What is put is read as it was, whatever stands behind. -/
theorem go_put : ∀ (f m k acc : Nat) (more : List Nat), m < 128 ^ f → k ≤ 4 → m * 128 ^ k < 4294967296 → (0 < k → m ≠ 0) →
    go k acc (put m ++ more) = (acc + m * 128 ^ k, k + (put m).length, 0) ∧ ∀ c, c < (put m).length → go k acc ((put m).take c) = (0, 0, 2)
  | 0, m, k, acc, more, h, hk, hm, h0 => by
    simp at h; subst h
    have hk0 : k = 0 := by
      rcases Nat.eq_zero_or_pos k with h | h
      · exact h
      · exact absurd rfl (h0 h)
    subst hk0
    rw [put_last _ (by omega)]
    refine ⟨?_, fun c hc => ?_⟩
    · rw [List.cons_append, go_last _ _ _ _ (by omega) (by omega) (by omega)]; rfl
    · have : c = 0 := by simp at hc; exact hc
      subst this; rw [List.take_zero, go_nil]
  | f + 1, m, k, acc, more, h, hk, hm, h0 => by
    have h4 : k = 4 → m ≤ 15 := by
      rintro rfl
      have : (128 : Nat) ^ 4 = 268435456 := by decide
      rw [this] at hm; omega
    by_cases h1 : m < 128
    · rw [put_last _ h1]
      refine ⟨?_, fun c hc => ?_⟩
      · rw [List.cons_append, go_last _ _ _ _ (by omega) (by omega) h1]; rfl
      · have : c = 0 := by simp at hc; exact hc
        subst this; rw [List.take_zero, go_nil]
    · have hp : m / 128 * 128 ^ (k + 1) ≤ m * 128 ^ k := by
        rw [Nat.pow_succ, Nat.mul_comm (128 ^ k) 128, ← Nat.mul_assoc]
        exact Nat.mul_le_mul_right _ (Nat.div_mul_le_self m 128)
      have hpos : 0 < 128 ^ k := Nat.pow_pos (by omega)
      obtain ⟨i1, i2⟩ := go_put f (m / 128) (k + 1) (acc + m % 128 * 128 ^ k) more (by rw [Nat.pow_succ] at h; omega) (by omega) (by omega) (by omega)
      rw [put_on _ h1]
      refine ⟨?_, fun c hc => ?_⟩
      · rw [List.cons_append, go_on _ _ _ _ (by omega) (by omega), Nat.add_sub_cancel, i1]
        refine Prod.ext ?_ (Prod.ext ?_ rfl)
        · show acc + m % 128 * 128 ^ k + m / 128 * 128 ^ (k + 1) = acc + m * 128 ^ k
          rw [Nat.pow_succ, Nat.mul_comm (128 ^ k) 128, ← Nat.mul_assoc, Nat.add_assoc, ← Nat.add_mul]
          congr 2; omega
        · show k + 1 + (put (m / 128)).length = k + ((m % 128 + 128) :: put (m / 128)).length
          simp; omega
      · match c, hc with
        | 0, _ => rw [List.take_zero, go_nil]
        | c + 1, hc =>
          rw [List.take_succ_cons, go_on _ _ _ _ (by omega) (by omega), Nat.add_sub_cancel]
          exact i2 c (by simp at hc; exact hc)
theorem get_put (n : Nat) (hn : n < 4294967296) (more : List Nat) : get (put n ++ more) = (n, size n, 0) := by
  have h := (go_put 5 n 0 0 more (five n hn) (by omega) (by simpa using hn) (by omega)).1
  rw [len_put n hn] at h
  simpa [get] using h
theorem get_cut (n : Nat) (hn : n < 4294967296) (c : Nat) (hc : c < size n) : get ((put n).take c) = (0, 0, 2) :=
  (go_put 5 n 0 0 [] (five n hn) (by omega) (by simpa using hn) (by omega)).2 c (by rw [len_put n hn]; exact hc)
theorem size_mono (a b : Nat) (h : a ≤ b) : size a ≤ size b := by unfold size; (repeat' split) <;> omega
theorem size_128 (a : Nat) (h : a < 33554432) (h0 : a ≠ 0) : size (128 * a) = size a + 1 := by
  rw [size_on _ (by omega) (by omega), Nat.mul_div_cancel_left _ (by omega)]; omega

end Go.Proofs.YtiojobajcnifpaaDoor.V

/- Sets of ids from 0 to 31 as masks, on plain numbers: nothing here speaks of the program. -/
namespace Go.Proofs.YtiojobajcnifpaaDoor.S

def has (m : Nat) (id : Int) : Bool := decide (0 ≤ id ∧ id ≤ 31) && m.testBit id.toNat
theorem has_out (m : Nat) (id : Int) (h : id < 0 ∨ 31 < id) : has m id = false := by
  unfold has; rw [decide_eq_false (by omega)]; rfl
theorem has_in (m : Nat) (i : Nat) (h : i ≤ 31) : has m (i : Int) = m.testBit i := by
  unfold has; rw [decide_eq_true (by omega)]; simp
theorem bit_div (m i : Nat) : m.testBit i = decide (m / 2 ^ i % 2 = 1) := Nat.testBit_eq_decide_div_mod_eq
/-- All ids of a set. -/
def ids (m : Nat) (n : Nat) : List Nat := (List.range n).filter fun i => m.testBit i
theorem ids_succ (m n : Nat) : ids m (n + 1) = ids m n ++ (if m.testBit n then [n] else []) := by
  unfold ids
  rw [List.range_succ, List.filter_append]
  by_cases h : m.testBit n <;> simp [h]
theorem ids_len (m n : Nat) : (ids m n).length ≤ n := by
  have := List.length_filter_le (fun i => m.testBit i) (List.range n)
  simpa [ids] using this
theorem ids_mem (m n x : Nat) : x ∈ ids m n ↔ x < n ∧ m.testBit x = true := by simp [ids]

/-- The sum of the ids' values. -/
def mask (l : List Nat) : Nat := (l.map (2 ^ ·)).sum
theorem mask_snoc (l : List Nat) (x : Nat) : mask (l ++ [x]) = mask l + 2 ^ x := by simp [mask]
theorem mask_le (l : List Nat) (h : ∀ x ∈ l, x ≤ 31) : mask l ≤ l.length * 2147483648 := by
  induction l with
  | nil => simp [mask]
  | cons x r ih =>
    have h1 := ih fun y hy => h y (by simp [hy])
    have h2 : 2 ^ x ≤ 2 ^ 31 := Nat.pow_le_pow_right (by decide) (h x (by simp))
    simp only [mask, List.map_cons, List.sum_cons, List.length_cons] at *
    omega
/-- The first n ids of a set make its lowest n bits. -/
theorem mask_ids (m : Nat) : ∀ n, mask (ids m n) = m % 2 ^ n
  | 0 => by simp [mask, ids, Nat.mod_one]
  | n + 1 => by
    have hb := bit_div m n
    have hm : m / 2 ^ n % 2 = 0 ∨ m / 2 ^ n % 2 = 1 := by omega
    rw [ids_succ, Nat.mod_pow_succ, ← mask_ids m n]
    rcases hm with h | h
    · rw [h] at hb ⊢
      rw [if_neg (by rw [hb]; decide), List.append_nil]; simp
    · rw [h] at hb ⊢
      rw [if_pos (by rw [hb]; decide), mask_snoc]; simp

/-- All of a in b? -/
def within (a b n : Nat) : Bool := (List.range n).all fun i => !a.testBit i || b.testBit i
theorem within_succ (a b n : Nat) : within a b (n + 1) = (within a b n && (!a.testBit n || b.testBit n)) := by
  simp [within, List.range_succ, List.all_append]

/-- What is wrong at place i of a list. -/
def bad (l : List Int) (size : Int) (i : Nat) : Nat :=
  let x := l.getD i 0
  if x < 0 ∨ size ≤ x ∨ 31 < x then 1 else if 0 < i ∧ x ≤ l.getD (i - 1) 0 then 5 else 0
/-- What is wrong first among the first n. -/
def first (l : List Int) (size : Int) : Nat → Nat
  | 0 => 0
  | n + 1 => if first l size n = 0 then bad l size n else first l size n
theorem first_zero (l : List Int) (size : Int) : ∀ n, first l size n = 0 → ∀ i, i < n → bad l size i = 0
  | 0, _, i, hi => by omega
  | n + 1, h, i, hi => by
    simp only [first] at h
    by_cases h0 : first l size n = 0
    · rw [if_pos h0] at h
      by_cases e : i = n
      · subst e; exact h
      · exact first_zero l size n h0 i (by omega)
    · rw [if_neg h0] at h; exact absurd h h0
theorem first_stays (l : List Int) (size : Int) (n : Nat) (h : first l size n ≠ 0) : ∀ k, first l size (n + k) = first l size n
  | 0 => rfl
  | k + 1 => by
    rw [← Nat.add_assoc]
    simp only [first]
    rw [first_stays l size n h k, if_neg h]

/-- How many ids. -/
def count (m : Nat) : Nat := (ids m 32).length
theorem ids_or_and (a b : Nat) : ∀ n, (ids a n).length + (ids b n).length = (ids (a ||| b) n).length + (ids (a &&& b) n).length
  | 0 => by simp [ids]
  | n + 1 => by
    have ih := ids_or_and a b n
    simp only [ids_succ, List.length_append, Nat.testBit_or, Nat.testBit_and]
    cases a.testBit n <;> cases b.testBit n <;> simp <;> omega
theorem count_or_and (a b : Nat) : count a + count b = count (a ||| b) + count (a &&& b) := ids_or_and a b 32
/-- The least id; -1 of none. -/
def least (m : Nat) : Int := match ids m 32 with | [] => -1 | x :: _ => (x : Int)
theorem bit_high (m i : Nat) (hm : m < 4294967296) (hi : 32 ≤ i) : m.testBit i = false :=
  Nat.testBit_lt_two_pow (Nat.lt_of_lt_of_le hm ((Nat.pow_le_pow_right (by decide) hi : 2 ^ 32 ≤ 2 ^ i)))
theorem within_iff (a b : Nat) : within a b 32 = true ↔ ∀ i, i < 32 → a.testBit i = true → b.testBit i = true := by
  simp only [within, List.all_eq_true, List.mem_range]
  constructor
  · intro h i hi ha
    have := h i hi
    rw [ha] at this; simpa using this
  · intro h i hi
    cases ha : a.testBit i
    · rfl
    · simp [h i hi ha]
theorem within_or (a b : Nat) (ha : a < 4294967296) (_ : b < 4294967296) : within a b 32 = decide (a ||| b = b) := by
  rw [Bool.eq_iff_iff, within_iff, decide_eq_true_iff]
  constructor
  · intro h
    apply Nat.eq_of_testBit_eq
    intro i
    rw [Nat.testBit_or]
    rcases Nat.lt_or_ge i 32 with hi | hi
    · cases h1 : a.testBit i
      · rfl
      · rw [h i hi h1]; rfl
    · rw [bit_high a i ha hi]; rfl
  · intro h i _ h1
    have := congrArg (·.testBit i) h
    simp only [Nat.testBit_or, h1, Bool.true_or] at this
    exact this.symm
theorem within_trans (a b c : Nat) (h1 : within a b 32 = true) (h2 : within b c 32 = true) : within a c 32 = true := by
  rw [within_iff] at *
  exact fun i hi h => h2 i hi (h1 i hi h)
theorem eq_of_bits (a b : Nat) (ha : a < 4294967296) (hb : b < 4294967296) (h : ∀ i, i < 32 → a.testBit i = b.testBit i) : a = b := by
  apply Nat.eq_of_testBit_eq
  intro i
  rcases Nat.lt_or_ge i 32 with hi | hi
  · exact h i hi
  · rw [bit_high a i ha hi, bit_high b i hb hi]
theorem within_both (a b : Nat) (ha : a < 4294967296) (hb : b < 4294967296) : (within a b 32 && within b a 32) = decide (a = b) := by
  rw [Bool.eq_iff_iff, Bool.and_eq_true, decide_eq_true_iff, within_iff, within_iff]
  constructor
  · rintro ⟨h1, h2⟩
    refine eq_of_bits a b ha hb fun i hi => ?_
    rw [Bool.eq_iff_iff]
    exact ⟨h1 i hi, h2 i hi⟩
  · rintro rfl
    exact ⟨fun _ _ h => h, fun _ _ h => h⟩
/-- The set of the ids below n. -/
def all (n : Int) : Nat := if n ≤ 0 then 0 else if 32 ≤ n then 4294967295 else 2 ^ n.toNat - 1
theorem all_nat (n : Nat) (h : n ≤ 32) : all (n : Int) = 2 ^ n - 1 := by
  unfold all
  by_cases h0 : n = 0
  · subst h0; rfl
  · rw [if_neg (by omega)]
    by_cases h1 : n = 32
    · subst h1; rfl
    · rw [if_neg (by omega), Int.toNat_natCast]
theorem all_bit (n i : Nat) (h : n ≤ 32) : (all (n : Int)).testBit i = decide (i < n) := by
  rw [all_nat n h, Nat.testBit_two_pow_sub_one]
theorem all_lt (n : Int) : all n < 4294967296 := by
  unfold all
  split
  · decide
  · split
    · decide
    · have : 2 ^ n.toNat ≤ 2 ^ 31 := Nat.pow_le_pow_right (by decide) (by omega)
      omega
/-- The set of that id alone. -/
def one (id : Int) : Nat := if 0 ≤ id ∧ id ≤ 31 then 2 ^ id.toNat else 0
theorem one_nat (i : Nat) (h : i ≤ 31) : one (i : Int) = 2 ^ i := by unfold one; rw [if_pos (by omega), Int.toNat_natCast]
theorem one_out (id : Int) (h : id < 0 ∨ 31 < id) : one id = 0 := by unfold one; rw [if_neg (by omega)]
theorem one_lt (id : Int) : one id < 4294967296 := by
  unfold one
  split
  · have : 2 ^ id.toNat ≤ 2 ^ 31 := Nat.pow_le_pow_right (by decide) (by omega)
    omega
  · decide
theorem ids_one (i : Nat) (h : i ≤ 31) : ids (2 ^ i) 32 = [i] := by
  have hn : ∀ n, ids (2 ^ i) n = if i < n then [i] else [] := by
    intro n
    induction n with
    | zero => simp [ids]
    | succ n ih =>
      rw [ids_succ, ih, Nat.testBit_two_pow]
      by_cases h1 : i < n
      · rw [if_pos h1, if_pos (show i < n + 1 by omega), if_neg (by simp; omega), List.append_nil]
      · rw [if_neg h1]
        by_cases h2 : i = n
        · rw [if_pos (by simpa using h2), if_pos (by omega), h2]; rfl
        · rw [if_neg (by simpa using h2), if_neg (by omega)]; rfl
  rw [hn, if_pos (by omega)]
theorem all_or_one (i : Nat) (h : i ≤ 31) : all (i : Int) ||| 2 ^ i = all ((i + 1 : Nat) : Int) := by
  apply Nat.eq_of_testBit_eq
  intro j
  rw [Nat.testBit_or, all_bit i j (by omega), all_bit (i + 1) j (by omega), Nat.testBit_two_pow]
  by_cases h1 : j < i
  · rw [decide_eq_true h1, decide_eq_true (by omega : j < i + 1)]; rfl
  · rw [decide_eq_false h1]
    by_cases h2 : i = j
    · rw [decide_eq_true h2, decide_eq_true (by omega : j < i + 1)]; rfl
    · rw [decide_eq_false h2, decide_eq_false (by omega)]; rfl
theorem all_and_one (i : Nat) (h : i ≤ 31) : all (i : Int) &&& 2 ^ i = 0 := by
  apply Nat.eq_of_testBit_eq
  intro j
  rw [Nat.testBit_and, all_bit i j (by omega), Nat.testBit_two_pow, Nat.zero_testBit]
  by_cases h1 : j < i
  · rw [decide_eq_true h1, decide_eq_false (by omega : ¬ i = j)]; rfl
  · rw [decide_eq_false h1]; rfl
/-- What is in all of the sets. -/
def meet (l : List Nat) : Nat := l.foldl (fun m x => m &&& x) 4294967295
theorem meet_snoc (l : List Nat) (x : Nat) : meet (l ++ [x]) = meet l &&& x := by simp [meet]
theorem meet_bit (l : List Nat) (i : Nat) (hi : i < 32) : (meet l).testBit i = l.all fun x => x.testBit i := by
  have h : ∀ (l : List Nat) (m : Nat), (l.foldl (fun m x => m &&& x) m).testBit i = (m.testBit i && l.all fun x => x.testBit i) := by
    intro l
    induction l with
    | nil => intro m; simp
    | cons x r ih => intro m; rw [List.foldl_cons, ih, Nat.testBit_and, List.all_cons, Bool.and_assoc]
  have e : (4294967295 : Nat).testBit i = true := by
    have := Nat.testBit_two_pow_sub_one 32 i
    rw [decide_eq_true hi] at this
    exact this
  unfold meet
  rw [h, e, Bool.true_and]
end Go.Proofs.YtiojobajcnifpaaDoor.S

/- Taking the least id off a set, on plain numbers: nothing here speaks of the program. -/
namespace Go.Proofs.YtiojobajcnifpaaDoor.S

/-- A set without its least id. -/
def rest (m : Nat) : Nat := m &&& (m - 1)
theorem low_split : ∀ m : Nat, 0 < m → ∃ k q, m = 2 ^ (k + 1) * q + 2 ^ k := by
  intro m
  induction m using Nat.strongRecOn with
  | _ m ih =>
    intro h
    by_cases ho : m % 2 = 1
    · exact ⟨0, m / 2, by omega⟩
    · obtain ⟨k, q, e⟩ := ih (m / 2) (by omega) (by omega)
      refine ⟨k + 1, q, ?_⟩
      have e1 : 2 ^ (k + 1 + 1) * q = 2 * (2 ^ (k + 1) * q) := by rw [Nat.pow_succ 2 (k + 1)]; rw [Nat.mul_comm (2 ^ (k + 1)) 2, Nat.mul_assoc]
      have e2 : 2 ^ (k + 1) = 2 * 2 ^ k := by rw [Nat.pow_succ]; omega
      rw [e1]
      generalize 2 ^ (k + 1) * q = z at *
      omega
theorem bit_split (k q i : Nat) : (2 ^ (k + 1) * q + 2 ^ k).testBit i = (decide (i = k) || (decide (k < i) && q.testBit (i - (k + 1)))) := by
  have h2 : 2 ^ k < 2 ^ (k + 1) := Nat.pow_lt_pow_right (by decide) (by omega)
  rw [Nat.testBit_two_pow_mul_add q h2]
  by_cases hi : i < k + 1
  · rw [if_pos hi, Nat.testBit_two_pow, decide_eq_false (by omega : ¬ k < i)]
    simp [eq_comm]
  · rw [if_neg hi, decide_eq_false (by omega : ¬ i = k), decide_eq_true (by omega : k < i)]
    simp
theorem bit_pred (k q i : Nat) : (2 ^ (k + 1) * q + 2 ^ k - 1).testBit i = (decide (i < k) || (decide (k < i) && q.testBit (i - (k + 1)))) := by
  have h1 : 0 < 2 ^ k := Nat.pow_pos (by decide)
  have h2 : 2 ^ k - 1 < 2 ^ (k + 1) := by have : 2 ^ k < 2 ^ (k + 1) := Nat.pow_lt_pow_right (by decide) (by omega); omega
  rw [show 2 ^ (k + 1) * q + 2 ^ k - 1 = 2 ^ (k + 1) * q + (2 ^ k - 1) by omega, Nat.testBit_two_pow_mul_add q h2]
  by_cases hi : i < k + 1
  · rw [if_pos hi, Nat.testBit_two_pow_sub_one, decide_eq_false (by omega : ¬ k < i)]
    simp
  · rw [if_neg hi, decide_eq_false (by omega : ¬ i < k), decide_eq_true (by omega : k < i)]
    simp
theorem rest_bit (k q i : Nat) : (rest (2 ^ (k + 1) * q + 2 ^ k)).testBit i = (decide (k < i) && q.testBit (i - (k + 1))) := by
  unfold rest
  rw [Nat.testBit_and, bit_split, bit_pred]
  by_cases h : k < i
  · rw [decide_eq_true h, decide_eq_false (by omega : ¬ i = k)]; cases q.testBit (i - (k + 1)) <;> simp
  · rw [decide_eq_false h]
    by_cases h2 : i = k
    · rw [decide_eq_true h2, decide_eq_false (by omega : ¬ i < k)]; simp
    · rw [decide_eq_false h2]; simp
theorem ids_split (k q : Nat) : ∀ n, ids (2 ^ (k + 1) * q + 2 ^ k) n = if k < n then k :: ids (rest (2 ^ (k + 1) * q + 2 ^ k)) n else ids (rest (2 ^ (k + 1) * q + 2 ^ k)) n
  | 0 => by simp [ids]
  | n + 1 => by
    rw [ids_succ, ids_succ, ids_split k q n, rest_bit, bit_split]
    by_cases h1 : k < n
    · rw [if_pos h1, if_pos (by omega : k < n + 1), decide_eq_false (by omega : ¬ n = k)]; rfl
    · rw [if_neg h1]
      by_cases h2 : n = k
      · subst h2
        have e : ids (rest (2 ^ (n + 1) * q + 2 ^ n)) n = [] := by
          unfold ids
          rw [List.filter_eq_nil_iff]
          intro i hi
          have := List.mem_range.1 hi
          rw [rest_bit, decide_eq_false (by omega)]; simp
        rw [e]; simp
      · rw [decide_eq_false h2, decide_eq_false h1, if_neg (show ¬ k < n + 1 by omega)]; rfl
theorem neg_bit (k q : Nat) (hm : 2 ^ (k + 1) * q + 2 ^ k < 4294967296) : ((2 ^ (k + 1) * q + 2 ^ k) &&& (4294967296 - (2 ^ (k + 1) * q + 2 ^ k))) = 2 ^ k := by
  have h1 : 0 < 2 ^ k := Nat.pow_pos (by decide)
  apply Nat.eq_of_testBit_eq
  intro j
  have e : 4294967296 - (2 ^ (k + 1) * q + 2 ^ k) = 2 ^ 32 - ((2 ^ (k + 1) * q + 2 ^ k - 1) + 1) := by
    have : 4294967296 = 2 ^ 32 := by decide
    omega
  rw [Nat.testBit_and, e, Nat.testBit_two_pow_sub_succ (by omega), bit_split, bit_pred, Nat.testBit_two_pow]
  by_cases h2 : j = k
  · subst h2
    have : j < 32 := by
      rcases Nat.lt_or_ge j 32 with h | h
      · exact h
      · have := Nat.pow_le_pow_right (by decide : 0 < 2) h
        omega
    simp [this]
  · rw [decide_eq_false h2, decide_eq_false (by omega : ¬ k = j)]
    by_cases h3 : k < j
    · rw [decide_eq_true h3, decide_eq_false (by omega : ¬ j < k)]
      cases q.testBit (j - (k + 1)) <;> simp
    · rw [decide_eq_false h3]; simp
/-- All of it, of a set that isn't empty. -/
theorem low (m : Nat) (h0 : m ≠ 0) (hm : m < 4294967296) : ∃ k, k ≤ 31 ∧ ids m 32 = k :: ids (rest m) 32 ∧ (m &&& (4294967296 - m)) = 2 ^ k ∧ rest m < m := by
  obtain ⟨k, q, rfl⟩ := low_split m (by omega)
  have h1 : 0 < 2 ^ k := Nat.pow_pos (by decide)
  have hk : k < 32 := by
    rcases Nat.lt_or_ge k 32 with h | h
    · exact h
    · have := Nat.pow_le_pow_right (by decide : 0 < 2) h
      omega
  refine ⟨k, by omega, ?_, neg_bit k q hm, ?_⟩
  · have := ids_split k q 32
    rw [if_pos hk] at this
    exact this
  · unfold rest
    exact Nat.lt_of_le_of_lt Nat.and_le_right (by omega)
theorem ids_zero (n : Nat) : ids 0 n = [] := by simp [ids]
theorem count_zero : count 0 = 0 := by simp [count, ids_zero]
theorem count_rest (m : Nat) (h0 : m ≠ 0) (hm : m < 4294967296) : count m = count (rest m) + 1 := by
  obtain ⟨k, _, h, _⟩ := low m h0 hm
  unfold count
  rw [h]; rfl
theorem count_le (m : Nat) : count m ≤ 32 := ids_len m 32
theorem least_low (m k : Nat) (l : List Nat) (h : ids m 32 = k :: l) : least m = k := by unfold least; rw [h]
/-- What the program asks instead of 'within'. -/
theorem within_not (a b : Nat) (ha : a < 4294967296) (hb : b < 4294967296) : within a b 32 = decide ((a &&& (4294967295 - b)) = 0) := by
  have hbit : ∀ i, (4294967295 - b).testBit i = (decide (i < 32) && !b.testBit i) := fun i => by
    have := Nat.testBit_two_pow_sub_succ (n := 32) (x := b) hb i
    rw [← this, show 2 ^ 32 - (b + 1) = 4294967295 - b by omega]
  rw [Bool.eq_iff_iff, within_iff, decide_eq_true_iff]
  constructor
  · intro h
    apply Nat.eq_of_testBit_eq
    intro i
    rw [Nat.testBit_and, hbit, Nat.zero_testBit]
    rcases Nat.lt_or_ge i 32 with hi | hi
    · cases h1 : a.testBit i
      · rfl
      · rw [h i hi h1]; simp
    · rw [bit_high a i ha hi]; rfl
  · intro h i hi h1
    have := congrArg (·.testBit i) h
    simp only [Nat.testBit_and, hbit, h1, Nat.zero_testBit, decide_eq_true hi, Bool.true_and] at this
    simpa using this
theorem has_one (m : Nat) (id : Int) : has m id = decide ((m &&& one id) ≠ 0) := by
  by_cases h : 0 ≤ id ∧ id ≤ 31
  · obtain ⟨n, rfl⟩ : ∃ n : Nat, id = (n : Int) := ⟨id.toNat, by omega⟩
    have hn : n ≤ 31 := by omega
    rw [has_in m n hn, one_nat n hn, Bool.eq_iff_iff, decide_eq_true_iff]
    constructor
    · intro h1 h2
      have := congrArg (·.testBit n) h2
      simp [Nat.testBit_and, h1] at this
    · intro h1
      cases h2 : m.testBit n
      · exfalso
        apply h1
        apply Nat.eq_of_testBit_eq
        intro i
        rw [Nat.testBit_and, Nat.testBit_two_pow, Nat.zero_testBit]
        by_cases hi : n = i
        · subst hi; rw [h2]; rfl
        · rw [decide_eq_false hi, Bool.and_false]
      · rfl
  · rw [has_out m id (by omega), one_out id (by omega)]; simp
theorem has_all (n id : Int) (hn : id < n) (h0 : 0 ≤ id) (h1 : id ≤ 31) : has (all n) id = true := by
  obtain ⟨i, rfl⟩ : ∃ i : Nat, id = (i : Int) := ⟨id.toNat, by omega⟩
  rw [has_in _ i (by omega)]
  by_cases h : 32 ≤ n
  · have e : all n = all ((32 : Nat) : Int) := by unfold all; rw [if_neg (by omega), if_pos h]; rfl
    rw [e, all_bit 32 i (by omega)]; simp; omega
  · obtain ⟨k, rfl⟩ : ∃ k : Nat, n = (k : Int) := ⟨n.toNat, by omega⟩
    rw [all_bit k i (by omega)]; simp; omega
theorem has_all_not (n id : Int) (h : id < 0 ∨ n ≤ id ∨ 31 < id) : has (all n) id = false := by
  by_cases ho : id < 0 ∨ 31 < id
  · exact has_out _ _ ho
  · obtain ⟨i, rfl⟩ : ∃ i : Nat, id = (i : Int) := ⟨id.toNat, by omega⟩
    rw [has_in _ i (by omega)]
    by_cases h0 : n ≤ 0
    · unfold all; rw [if_pos h0]; simp
    · obtain ⟨k, rfl⟩ : ∃ k : Nat, n = (k : Int) := ⟨n.toNat, by omega⟩
      rw [all_bit k i (by omega)]; simp; omega
end Go.Proofs.YtiojobajcnifpaaDoor.S
