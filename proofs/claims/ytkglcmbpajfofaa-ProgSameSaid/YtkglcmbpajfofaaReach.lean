/- Who comes to whom, by a matrix that is closed step by step: nothing here speaks of the program. -/
import Derived.WalkKit
namespace Go.Proofs.Ytkglcmbpajfofaa.Q

/-- By steps, all but the last one within n. -/
inductive Reach (R : Nat → Nat → Prop) (n : Nat) : Nat → Nat → Prop
  | one {x y : Nat} : R x y → Reach R n x y
  | more {x j y : Nat} : R x j → j < n → Reach R n j y → Reach R n x y
theorem Reach.trans {R : Nat → Nat → Prop} {n x j y : Nat} (h : Reach R n x j) (hj : j < n) (k : Reach R n j y) : Reach R n x y := by
  induction h with
  | one h => exact .more h hj k
  | more h hl _ ih => exact .more h hl (ih hj k)
/-- By steps within k. -/
def Via (R : Nat → Nat → Prop) : Nat → Nat → Nat → Prop
  | 0 => R
  | k + 1 => fun x y => Via R k x y ∨ (Via R k x k ∧ Via R k k y)
theorem via_base {R : Nat → Nat → Prop} {x y : Nat} (h : R x y) : ∀ k, Via R k x y
  | 0 => h
  | k + 1 => .inl (via_base h k)
theorem via_trans {R : Nat → Nat → Prop} : ∀ (k j x y : Nat), j < k → Via R k x j → Via R k j y → Via R k x y
  | 0, j, _, _, hj, _, _ => by omega
  | k + 1, j, x, y, hj, h1, h2 => by
    rcases Nat.lt_or_ge j k with hlt | hge
    · rcases h1 with h1 | ⟨h1, h1'⟩
      · rcases h2 with h2 | ⟨h2, h2'⟩
        · exact .inl (via_trans k j x y hlt h1 h2)
        · exact .inr ⟨via_trans k j x k hlt h1 h2, h2'⟩
      · rcases h2 with h2 | ⟨_, h2'⟩
        · exact .inr ⟨h1, via_trans k j k y hlt h1' h2⟩
        · exact .inr ⟨h1, h2'⟩
    · have e : j = k := by omega
      subst e
      have a : Via R j x j := by rcases h1 with h1 | ⟨h1, _⟩ <;> exact h1
      have b : Via R j j y := by rcases h2 with h2 | ⟨_, h2⟩ <;> exact h2
      exact .inr ⟨a, b⟩
theorem via_reach {R : Nat → Nat → Prop} {n : Nat} : ∀ (k x y : Nat), k ≤ n → Via R k x y → Reach R n x y
  | 0, _, _, _, h => .one h
  | k + 1, x, y, hk, h => by
    rcases h with h | ⟨h, h'⟩
    · exact via_reach k x y (by omega) h
    · exact (via_reach k x k (by omega) h).trans (by omega) (via_reach k k y (by omega) h')
theorem reach_via {R : Nat → Nat → Prop} {n x y : Nat} (h : Reach R n x y) : Via R n x y := by
  induction h with
  | one h => exact via_base h n
  | more h hj _ ih => exact via_trans n _ _ _ hj (via_base h n) ih

/-- An entry of a matrix. -/
def mget (M : List (List Nat)) (a b : Nat) : Nat := (M.getD a []).getD b 0
def mset (M : List (List Nat)) (a b : Nat) : List (List Nat) := M.set a ((M.getD a []).set b 1)
def Square (n : Nat) (M : List (List Nat)) : Prop := M.length = n ∧ ∀ r ∈ M, r.length = n
theorem Square.row {n : Nat} {M : List (List Nat)} (h : Square n M) {a : Nat} (ha : a < n) : ∃ r, M[a]? = some r ∧ r.length = n ∧ M.getD a [] = r := by
  have hl : a < M.length := by rw [h.1]; exact ha
  exact ⟨M[a], List.getElem?_eq_getElem hl, h.2 _ (List.getElem_mem hl), by rw [List.getD_eq_getElem?_getD, List.getElem?_eq_getElem hl]; rfl⟩
theorem mset_square {n : Nat} {M : List (List Nat)} (h : Square n M) {a b : Nat} (ha : a < n) : Square n (mset M a b) := by
  obtain ⟨r, _, hr, e⟩ := h.row ha
  refine ⟨by unfold mset; rw [List.length_set]; exact h.1, fun x hx => ?_⟩
  unfold mset at hx
  rcases List.mem_or_eq_of_mem_set hx with hx | hx
  · exact h.2 x hx
  · rw [hx, List.length_set, e, hr]
theorem mget_mset {n : Nat} {M : List (List Nat)} (h : Square n M) {a b : Nat} (ha : a < n) (hb : b < n) (x y : Nat) : mget (mset M a b) x y = if x = a ∧ y = b then 1 else mget M x y := by
  obtain ⟨r, hra, hr, e⟩ := h.row ha
  have hl : a < M.length := by rw [h.1]; exact ha
  unfold mget mset
  rw [e]
  by_cases hx : x = a
  · subst hx
    have h1 : (M.set x (r.set b 1)).getD x [] = r.set b 1 := by rw [List.getD_eq_getElem?_getD, List.getElem?_set_self hl]; rfl
    rw [h1, e]
    by_cases hy : y = b
    · subst hy
      rw [if_pos ⟨rfl, rfl⟩, List.getD_eq_getElem?_getD, List.getElem?_set_self (by rw [hr]; exact hb)]
      rfl
    · rw [if_neg (by intro h; exact hy h.2), List.getD_eq_getElem?_getD, List.getElem?_set_ne (by omega), ← List.getD_eq_getElem?_getD]
  · have h2 : (M.set a (r.set b 1)).getD x [] = M.getD x [] := by rw [List.getD_eq_getElem?_getD, List.getElem?_set_ne (by omega), ← List.getD_eq_getElem?_getD]
    rw [if_neg (by intro h; exact hx h.1), h2]

/-- The matrix on its way: in round k, all ahead of (a, b) done. -/
structure Closing (R : Nat → Nat → Prop) (n k a b : Nat) (M : List (List Nat)) : Prop where
  sq : Square n M
  sound : ∀ x y, x < n → y < n → mget M x y = 1 → Reach R n x y
  base : ∀ x y, x < n → y < n → Via R k x y → mget M x y = 1
  done : ∀ x y, x < n → y < n → (x < a ∨ (x = a ∧ y < b)) → Via R k x k → Via R k k y → mget M x y = 1
theorem Closing.set {R : Nat → Nat → Prop} {n k a b : Nat} {M : List (List Nat)} (h : Closing R n k a b M) (hk : k < n) (ha : a < n) (hb : b < n) (h1 : mget M a k = 1) (h2 : mget M k b = 1) : Closing R n k a (b + 1) (mset M a b) := by
  refine ⟨mset_square h.sq ha, fun x y hx hy e => ?_, fun x y hx hy v => ?_, fun x y hx hy hlt v1 v2 => ?_⟩
  · rw [mget_mset h.sq ha hb] at e
    split at e
    · rename_i hxy
      rw [hxy.1, hxy.2]
      exact (h.sound a k ha hk h1).trans hk (h.sound k b hk hb h2)
    · exact h.sound x y hx hy e
  · rw [mget_mset h.sq ha hb]
    split
    · rfl
    · exact h.base x y hx hy v
  · rw [mget_mset h.sq ha hb]
    split
    · rfl
    · rename_i hxy
      exact h.done x y hx hy (by omega) v1 v2
theorem Closing.skip {R : Nat → Nat → Prop} {n k a b : Nat} {M : List (List Nat)} (h : Closing R n k a b M) (hk : k < n) (h1 : ¬ (mget M a k = 1 ∧ mget M k b = 1)) : Closing R n k a (b + 1) M := by
  refine ⟨h.sq, h.sound, h.base, fun x y hx hy hlt v1 v2 => ?_⟩
  by_cases e : x = a ∧ y = b
  · exfalso
    obtain ⟨rfl, rfl⟩ := e
    exact h1 ⟨h.base x k hx hk v1, h.base k y hk hy v2⟩
  · exact h.done x y hx hy (by omega) v1 v2
theorem Closing.line {R : Nat → Nat → Prop} {n k a : Nat} {M : List (List Nat)} (h : Closing R n k a n M) : Closing R n k (a + 1) 0 M :=
  ⟨h.sq, h.sound, h.base, fun x y hx hy _ v1 v2 => h.done x y hx hy (by omega) v1 v2⟩
theorem Closing.round {R : Nat → Nat → Prop} {n k : Nat} {M : List (List Nat)} (h : Closing R n k n 0 M) : Closing R n (k + 1) 0 0 M :=
  ⟨h.sq, h.sound, fun x y hx hy v => by
    rcases v with v | ⟨v1, v2⟩
    · exact h.base x y hx hy v
    · exact h.done x y hx hy (by omega) v1 v2, fun x y _ _ hlt _ _ => by omega⟩
theorem Closing.end_ {R : Nat → Nat → Prop} {n : Nat} {M : List (List Nat)} (h : Closing R n n 0 0 M) (x y : Nat) (hx : x < n) (hy : y < n) : mget M x y = 1 ↔ Reach R n x y :=
  ⟨h.sound x y hx hy, fun r => h.base x y hx hy (reach_via r)⟩
theorem Closing.start {R : Nat → Nat → Prop} {n : Nat} {M : List (List Nat)} (hs : Square n M) (h : ∀ x y, x < n → y < n → (mget M x y = 1 ↔ R x y)) : Closing R n 0 0 0 M :=
  ⟨hs, fun x y hx hy e => .one ((h x y hx hy).1 e), fun x y hx hy v => (h x y hx hy).2 v, fun x y _ _ hlt _ _ => by omega⟩
end Go.Proofs.Ytkglcmbpajfofaa.Q
