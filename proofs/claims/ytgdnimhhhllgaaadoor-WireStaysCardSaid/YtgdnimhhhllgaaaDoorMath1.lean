/- Plain arithmetic of variable-length integers: nothing here speaks of the program. -/
import Derived.WalkKit
namespace Go.Proofs.YtgdnimhhhllgaaaDoor.V

def size (n : Nat) : Nat := if n < 128 then 1 else if n < 16384 then 2 else if n < 2097152 then 3 else if n < 268435456 then 4 else 5

theorem size_le (n : Nat) : size n ≤ 5 := by unfold size; split <;> (try split) <;> (try split) <;> (try split) <;> omega
theorem size_pos (n : Nat) : 1 ≤ size n := by unfold size; split <;> (try split) <;> (try split) <;> (try split) <;> omega

/-- Behind k bytes of n this is left. -/
def left (n k : Nat) : Nat := n / 128 ^ k
theorem left_zero (n : Nat) : left n 0 = n := by simp [left]
theorem left_succ (n k : Nat) : left n (k + 1) = left n k / 128 := by
  unfold left; rw [Nat.pow_succ, Nat.div_div_eq_div_mul]
theorem left_lt (n k : Nat) (h : n < 4294967296) : left n k < 4294967296 := Nat.lt_of_le_of_lt (Nat.div_le_self _ _) h
theorem size_at (n k : Nat) (hk : k < 5) (hn : n < 4294967296) (h : k = 0 ∨ left n k ≠ 0) (h1 : left n k / 128 = 0) : size n = k + 1 := by
  unfold left at h h1
  unfold size
  match k, hk with
  | 0, _ => simp at *; (repeat' split) <;> omega
  | 1, _ => simp at *; (repeat' split) <;> omega
  | 2, _ => simp at *; (repeat' split) <;> omega
  | 3, _ => simp at *; (repeat' split) <;> omega
  | 4, _ => simp at *; (repeat' split) <;> omega
theorem left_five (n : Nat) (hn : n < 4294967296) : left n 5 = 0 := by
  unfold left; simp; omega

/-- What bytes begin with, from the k-th on, acc being what those before it say. -/
def go : Nat → Nat → List Nat → Nat × Nat × Nat
  | _, _, [] => (0, 0, 2)
  | k, acc, x :: r =>
    if k = 4 ∧ 15 < x then (0, 0, 4) else if 0 < k ∧ x = 0 then (0, 0, 3)
    else if x < 128 then (acc + x * 128 ^ k, k + 1, 0) else go (k + 1) (acc + (x - 128) * 128 ^ k) r

theorem go_nil (k acc : Nat) : go k acc [] = (0, 0, 2) := by unfold go; rfl
theorem go_long (k acc x : Nat) (r : List Nat) (h : k = 4 ∧ 15 < x) : go k acc (x :: r) = (0, 0, 4) := by
  rw [go, if_pos h]
theorem go_form (k acc x : Nat) (r : List Nat) (h : ¬ (k = 4 ∧ 15 < x)) (h1 : 0 < k ∧ x = 0) : go k acc (x :: r) = (0, 0, 3) := by
  rw [go, if_neg h, if_pos h1]
theorem go_last (k acc x : Nat) (r : List Nat) (h : ¬ (k = 4 ∧ 15 < x)) (h1 : ¬ (0 < k ∧ x = 0)) (h2 : x < 128) : go k acc (x :: r) = (acc + x * 128 ^ k, k + 1, 0) := by
  rw [go, if_neg h, if_neg h1, if_pos h2]
theorem go_on (k acc x : Nat) (r : List Nat) (h : ¬ (k = 4 ∧ 15 < x)) (h2 : ¬ x < 128) : go k acc (x :: r) = go (k + 1) (acc + (x - 128) * 128 ^ k) r := by
  rw [go, if_neg h, if_neg (by omega), if_neg h2]

theorem pow_at (k : Nat) (hk : k ≤ 4) : (k ≤ 3 ∧ 128 ^ k ≤ 2097152) ∨ (k = 4 ∧ 128 ^ k = 268435456) := by
  rcases (by omega : k = 0 ∨ k = 1 ∨ k = 2 ∨ k = 3 ∨ k = 4) with rfl | rfl | rfl | rfl | rfl
  · exact .inl ⟨by omega, by decide⟩
  · exact .inl ⟨by omega, by decide⟩
  · exact .inl ⟨by omega, by decide⟩
  · exact .inl ⟨by omega, by decide⟩
  · exact .inr ⟨rfl, by decide⟩
theorem pow_le (k : Nat) (hk : k ≤ 4) : 128 ^ k ≤ 268435456 := by rcases pow_at k hk with ⟨_, h⟩ | ⟨_, h⟩ <;> omega
theorem part_lt (k x : Nat) (hk : k ≤ 4) (hx : x < 256) (h4 : ¬ (k = 4 ∧ 15 < x)) : x % 128 * 128 ^ k < 4294967296 := by
  rcases pow_at k hk with ⟨h3, h⟩ | ⟨h3, h⟩
  · have := Nat.mul_le_mul (by omega : x % 128 ≤ 127) h
    omega
  · rw [h]; omega
theorem or_step (k acc x : Nat) (hk : k ≤ 4) (ha : acc < 128 ^ k) (hx : x < 256) (h4 : ¬ (k = 4 ∧ 15 < x)) :
    bits .or .u32 (acc : Int) ((x : Int) % 128 * 2 ^ (7 * k) % 4294967296) = ((acc + x % 128 * 128 ^ k : Nat) : Int) := by
  have hp := pow_le k hk
  have h2 : (2 : Nat) ^ (7 * k) = 128 ^ k := by rw [Nat.pow_mul]
  have hlt := part_lt k x hk hx h4
  have e : (x : Int) % 128 * 2 ^ (7 * k) % 4294967296 = ((x % 128 * 128 ^ k : Nat) : Int) := by
    rw [← h2] at hlt ⊢
    have e1 : (x : Int) % 128 * 2 ^ (7 * k) = ((x % 128 * 2 ^ (7 * k) : Nat) : Int) := by rw [Int.natCast_mul, Int.natCast_emod, Int.natCast_pow]; rfl
    rw [e1]
    exact Int.emod_eq_of_lt (Int.natCast_nonneg _) (Int.ofNat_lt.2 hlt)
  rw [e, u32_or_nat _ _ (by omega) hlt, ← h2, Nat.mul_comm (x % 128), Nat.or_comm, ← Nat.two_pow_add_eq_or_of_lt (by rw [h2]; exact ha)]
  congr 1; omega
theorem acc_step (k acc x : Nat) (ha : acc < 128 ^ k) : acc + x % 128 * 128 ^ k < 128 ^ (k + 1) := by
  have h : x % 128 * 128 ^ k ≤ 127 * 128 ^ k := Nat.mul_le_mul_right _ (by omega)
  rw [Nat.pow_succ]; omega

def get (l : List Nat) : Nat × Nat × Nat := go 0 0 l

/-- A number's bytes. -/
def put (n : Nat) : List Nat := if n < 128 then [n] else (n % 128 + 128) :: put (n / 128)
  termination_by n
  decreasing_by omega

theorem put_last (n : Nat) (h : n < 128) : put n = [n] := by rw [put, if_pos h]
theorem put_on (n : Nat) (h : ¬ n < 128) : put n = (n % 128 + 128) :: put (n / 128) := by rw [put, if_neg h]
theorem size_last (n : Nat) (h : n < 128) : size n = 1 := by unfold size; rw [if_pos h]
theorem size_on (n : Nat) (h : ¬ n < 128) (hn : n < 4294967296) : size n = 1 + size (n / 128) := by
  unfold size; (repeat' split) <;> omega
theorem five (n : Nat) (hn : n < 4294967296) : n < 128 ^ 5 := by
  have h : (128 : Nat) ^ 5 = 34359738368 := by decide
  omega
theorem put_len : ∀ (k n : Nat), n < 128 ^ k → n < 4294967296 → (put n).length = size n
  | 0, n, h, _ => by simp at h; subst h; rw [put_last _ (by omega), size_last _ (by omega)]; rfl
  | k + 1, n, h, hn => by
    by_cases h1 : n < 128
    · rw [put_last _ h1, size_last _ h1]; rfl
    · rw [put_on _ h1, size_on _ h1 hn, List.length_cons, put_len k (n / 128) (by rw [Nat.pow_succ] at h; omega) (by omega)]; omega
theorem len_put (n : Nat) (hn : n < 4294967296) : (put n).length = size n := put_len 5 n (five n hn) hn
theorem put_bytes : ∀ (k n : Nat), n < 128 ^ k → ∀ x ∈ put n, x < 256
  | 0, n, h, x, hx => by simp at h; subst h; rw [put_last _ (by omega)] at hx; simp at hx; omega
  | k + 1, n, h, x, hx => by
    by_cases h1 : n < 128
    · rw [put_last _ h1] at hx; simp at hx; omega
    · rw [put_on _ h1] at hx
      rcases List.mem_cons.1 hx with rfl | hx
      · omega
      · exact put_bytes k (n / 128) (by rw [Nat.pow_succ] at h; omega) x hx
theorem put_byte (n : Nat) (hn : n < 4294967296) : ∀ x ∈ put n, x < 256 := put_bytes 5 n (five n hn)

/-- Two more bytes to come just where the number is 128 and more. -/
theorem size_two (n : Nat) : 2 ≤ size n ↔ ¬ n < 128 := by unfold size; (repeat' split) <;> omega

/-- A row's bytes, and how many these are. -/
def row (l : List Nat) : List Nat := l.flatMap put
def sizes : List Nat → Nat
  | [] => 0
  | n :: r => size n + sizes r
theorem sizes_snoc (l : List Nat) (n : Nat) : sizes (l ++ [n]) = sizes l + size n := by
  induction l with
  | nil => simp [sizes]
  | cons m r ih => simp [sizes, ih]; omega
theorem row_snoc (l : List Nat) (n : Nat) : row (l ++ [n]) = row l ++ put n := by simp [row]
theorem sizes_le (l : List Nat) : sizes l ≤ 5 * l.length := by
  induction l with
  | nil => simp [sizes]
  | cons n r ih => have := size_le n; simp [sizes]; omega
theorem row_len (l : List Nat) (h : ∀ n ∈ l, n < 4294967296) : (row l).length = sizes l := by
  induction l with
  | nil => rfl
  | cons n r ih =>
    have h1 := ih fun x hx => h x (List.mem_cons_of_mem _ hx)
    have h2 := len_put n (h n (List.mem_cons_self))
    simp only [row, List.flatMap_cons, List.length_append, sizes] at *
    omega
theorem take_snoc {α : Type} (l : List α) (k : Nat) (x : α) (h : l[k]? = some x) : l.take (k + 1) = l.take k ++ [x] := by
  rw [List.take_add_one, h]; rfl

/-- What get answers is small. -/
theorem go_small : ∀ (l : List Nat) (k acc : Nat), (∀ x ∈ l, x < 256) → k ≤ 4 → acc < 128 ^ k → (go k acc l).1 < 4294967296 ∧ (go k acc l).2.1 ≤ 5 ∧ (go k acc l).2.2 ≤ 4
  | [], k, acc, _, _, _ => by rw [go_nil]; simp
  | x :: r, k, acc, hb, hk, ha => by
    have hx := hb x (List.mem_cons_self)
    by_cases h : k = 4 ∧ 15 < x
    · rw [go_long _ _ _ _ h]; simp
    · by_cases h1 : 0 < k ∧ x = 0
      · rw [go_form _ _ _ _ h h1]; simp
      · by_cases h2 : x < 128
        · rw [go_last _ _ _ _ h h1 h2]
          refine ⟨?_, by simp; omega, by simp⟩
          rcases pow_at k hk with ⟨h3, hp⟩ | ⟨h3, hp⟩
          · have := Nat.mul_le_mul (by omega : x ≤ 127) hp
            simp only; omega
          · simp only
            rw [hp] at ha ⊢
            omega
        · rw [go_on _ _ _ _ h h2]
          refine go_small r (k + 1) _ (fun y hy => hb y (List.mem_cons_of_mem _ hy)) (by omega) ?_
          have := acc_step k acc x ha
          rwa [show x % 128 = x - 128 by omega] at this
theorem get_small (l : List Nat) (h : ∀ x ∈ l, x < 256) : (get l).1 < 4294967296 ∧ (get l).2.1 ≤ 5 ∧ (get l).2.2 ≤ 4 := go_small l 0 0 h (by omega) (by simp)

/-- What is read has just these bytes. -/
theorem go_once : ∀ (l : List Nat) (k acc : Nat), (∀ x ∈ l, x < 256) → k ≤ 4 → (go k acc l).2.2 = 0 →
    ∃ m, (go k acc l).1 = acc + m * 128 ^ k ∧ (go k acc l).2.1 = k + (put m).length ∧ (put m).length ≤ l.length ∧ put m = l.take (put m).length ∧ (0 < k → m ≠ 0)
  | [], k, acc, _, _, h0 => by rw [go_nil] at h0; simp at h0
  | x :: r, k, acc, hb, hk, h0 => by
    have hx := hb x (List.mem_cons_self)
    by_cases h : k = 4 ∧ 15 < x
    · rw [go_long _ _ _ _ h] at h0; simp at h0
    · by_cases h1 : 0 < k ∧ x = 0
      · rw [go_form _ _ _ _ h h1] at h0; simp at h0
      · by_cases h2 : x < 128
        · rw [go_last _ _ _ _ h h1 h2]
          exact ⟨x, rfl, by rw [put_last x h2]; rfl, by rw [put_last x h2]; simp, by rw [put_last x h2]; rfl, by omega⟩
        · rw [go_on _ _ _ _ h h2] at h0 ⊢
          obtain ⟨m, e1, e2, e3, e4, e5⟩ := go_once r (k + 1) _ (fun y hy => hb y (List.mem_cons_of_mem _ hy)) (by omega) h0
          have hm := e5 (by omega)
          have hp : put (x - 128 + 128 * m) = x :: put m := by
            rw [put_on _ (by omega)]
            congr 1
            · omega
            · congr 1; omega
          refine ⟨x - 128 + 128 * m, ?_, ?_, ?_, ?_, by omega⟩
          · rw [e1, Nat.pow_succ, Nat.add_mul, Nat.add_assoc]
            congr 2
            rw [Nat.mul_comm (128 ^ k) 128, ← Nat.mul_assoc, Nat.mul_comm m 128]
          · rw [e2, hp]; simp; omega
          · rw [hp]; simp; omega
          · rw [hp]; simp; rw [← e4]
theorem get_once (l : List Nat) (h : ∀ x ∈ l, x < 256) (h0 : (get l).2.2 = 0) : put (get l).1 = l.take (get l).2.1 ∧ 1 ≤ (get l).2.1 ∧ (get l).2.1 ≤ l.length := by
  obtain ⟨m, e1, e2, e3, e4, _⟩ := go_once l 0 0 h (by omega) h0
  have e1' : (get l).1 = m := by unfold get; rw [e1]; simp
  have e2' : (get l).2.1 = (put m).length := by unfold get; rw [e2]; simp
  rw [e1', e2']
  refine ⟨e4, ?_, e3⟩
  by_cases h1 : m < 128
  · rw [put_last _ h1]; simp
  · rw [put_on _ h1]; simp
theorem go_zero : ∀ (l : List Nat) (k acc : Nat), (go k acc l).2.2 ≠ 0 → (go k acc l).1 = 0 ∧ (go k acc l).2.1 = 0
  | [], k, acc, _ => by rw [go_nil]; simp
  | x :: r, k, acc, h0 => by
    by_cases h : k = 4 ∧ 15 < x
    · rw [go_long _ _ _ _ h]; simp
    · by_cases h1 : 0 < k ∧ x = 0
      · rw [go_form _ _ _ _ h h1]; simp
      · by_cases h2 : x < 128
        · rw [go_last _ _ _ _ h h1 h2] at h0; simp at h0
        · rw [go_on _ _ _ _ h h2] at h0 ⊢; exact go_zero r _ _ h0
theorem get_zero (l : List Nat) (h0 : (get l).2.2 ≠ 0) : (get l).1 = 0 ∧ (get l).2.1 = 0 := go_zero l 0 0 h0

/-- What is put is read as it was, whatever stands behind. -/
theorem go_put : ∀ (f m k acc : Nat) (more : List Nat), m < 128 ^ f → k ≤ 4 → m * 128 ^ k < 4294967296 → (0 < k → m ≠ 0) →
    go k acc (put m ++ more) = (acc + m * 128 ^ k, k + (put m).length, 0) ∧ ∀ c, c < (put m).length → go k acc ((put m).take c) = (0, 0, 2)
  | 0, m, k, acc, more, h, hk, hm, h0 => by
    simp at h; subst h
    have hk0 : k = 0 := by
      rcases Nat.eq_zero_or_pos k with h | h
      · exact h
      · exact absurd rfl (h0 h)
    subst hk0
    rw [put_last _ (by omega)]
    refine ⟨?_, fun c hc => ?_⟩
    · rw [List.cons_append, go_last _ _ _ _ (by omega) (by omega) (by omega)]; rfl
    · have : c = 0 := by simp at hc; exact hc
      subst this; rw [List.take_zero, go_nil]
  | f + 1, m, k, acc, more, h, hk, hm, h0 => by
    have h4 : k = 4 → m ≤ 15 := by
      rintro rfl
      have : (128 : Nat) ^ 4 = 268435456 := by decide
      rw [this] at hm; omega
    by_cases h1 : m < 128
    · rw [put_last _ h1]
      refine ⟨?_, fun c hc => ?_⟩
      · rw [List.cons_append, go_last _ _ _ _ (by omega) (by omega) h1]; rfl
      · have : c = 0 := by simp at hc; exact hc
        subst this; rw [List.take_zero, go_nil]
    · have hp : m / 128 * 128 ^ (k + 1) ≤ m * 128 ^ k := by
        rw [Nat.pow_succ, Nat.mul_comm (128 ^ k) 128, ← Nat.mul_assoc]
        exact Nat.mul_le_mul_right _ (Nat.div_mul_le_self m 128)
      have hpos : 0 < 128 ^ k := Nat.pow_pos (by omega)
      obtain ⟨i1, i2⟩ := go_put f (m / 128) (k + 1) (acc + m % 128 * 128 ^ k) more (by rw [Nat.pow_succ] at h; omega) (by omega) (by omega) (by omega)
      rw [put_on _ h1]
      refine ⟨?_, fun c hc => ?_⟩
      · rw [List.cons_append, go_on _ _ _ _ (by omega) (by omega), Nat.add_sub_cancel, i1]
        refine Prod.ext ?_ (Prod.ext ?_ rfl)
        · show acc + m % 128 * 128 ^ k + m / 128 * 128 ^ (k + 1) = acc + m * 128 ^ k
          rw [Nat.pow_succ, Nat.mul_comm (128 ^ k) 128, ← Nat.mul_assoc, Nat.add_assoc, ← Nat.add_mul]
          congr 2; omega
        · show k + 1 + (put (m / 128)).length = k + ((m % 128 + 128) :: put (m / 128)).length
          simp; omega
      · match c, hc with
        | 0, _ => rw [List.take_zero, go_nil]
        | c + 1, hc =>
          rw [List.take_succ_cons, go_on _ _ _ _ (by omega) (by omega), Nat.add_sub_cancel]
          exact i2 c (by simp at hc; exact hc)
theorem get_put (n : Nat) (hn : n < 4294967296) (more : List Nat) : get (put n ++ more) = (n, size n, 0) := by
  have h := (go_put 5 n 0 0 more (five n hn) (by omega) (by simpa using hn) (by omega)).1
  rw [len_put n hn] at h
  simpa [get] using h
theorem get_cut (n : Nat) (hn : n < 4294967296) (c : Nat) (hc : c < size n) : get ((put n).take c) = (0, 0, 2) :=
  (go_put 5 n 0 0 [] (five n hn) (by omega) (by simpa using hn) (by omega)).2 c (by rw [len_put n hn]; exact hc)
theorem size_mono (a b : Nat) (h : a ≤ b) : size a ≤ size b := by unfold size; (repeat' split) <;> omega
theorem size_128 (a : Nat) (h : a < 33554432) (h0 : a ≠ 0) : size (128 * a) = size a + 1 := by
  rw [size_on _ (by omega) (by omega), Nat.mul_div_cancel_left _ (by omega)]; omega

end Go.Proofs.YtgdnimhhhllgaaaDoor.V
