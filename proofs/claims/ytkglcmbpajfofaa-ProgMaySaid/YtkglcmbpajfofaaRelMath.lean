/- Who comes to whom, by a table of as many rows as places: nothing here speaks of the program. -/
import Derived.Test.YtkglcmbpajfofaaReach
import Derived.Test.YtkglcmbpajfofaaCheckMath
namespace Go.Proofs.Ytkglcmbpajfofaa.Q

/-- A table on its way: in round k, all ahead of (a, b) done. -/
structure Clo (R : Nat → Nat → Prop) (n k a b : Nat) (G : Nat → Nat → Prop) : Prop where
  sound : ∀ x y, x < n → y < n → G x y → Reach R n x y
  base : ∀ x y, x < n → y < n → Via R k x y → G x y
  done : ∀ x y, x < n → y < n → (x < a ∨ (x = a ∧ y < b)) → Via R k x k → Via R k k y → G x y
section
variable {R : Nat → Nat → Prop} {n k a b : Nat} {G G' : Nat → Nat → Prop}
theorem Clo.step (h : Clo R n k a b G) (hk : k < n) (ha : a < n) (hb : b < n) (hG : ∀ x y, x < n → y < n → (G' x y ↔ G x y ∨ (x = a ∧ y = b ∧ G a k ∧ G k b))) : Clo R n k a (b + 1) G' := by
  refine ⟨fun x y hx hy e => ?_, fun x y hx hy v => (hG x y hx hy).2 (.inl (h.base x y hx hy v)), fun x y hx hy hlt v1 v2 => ?_⟩
  · rcases (hG x y hx hy).1 e with e | ⟨rfl, rfl, g1, g2⟩
    · exact h.sound x y hx hy e
    · exact (h.sound x k hx hk g1).trans hk (h.sound k y hk hy g2)
  · by_cases e : x = a ∧ y = b
    · obtain ⟨rfl, rfl⟩ := e
      exact (hG x y hx hy).2 (.inr ⟨rfl, rfl, h.base x k hx hk v1, h.base k y hk hy v2⟩)
    · exact (hG x y hx hy).2 (.inl (h.done x y hx hy (by omega) v1 v2))
theorem Clo.line (h : Clo R n k a n G) : Clo R n k (a + 1) 0 G :=
  ⟨h.sound, h.base, fun x y hx hy _ v1 v2 => h.done x y hx hy (by omega) v1 v2⟩
theorem Clo.round (h : Clo R n k n 0 G) : Clo R n (k + 1) 0 0 G :=
  ⟨h.sound, fun x y hx hy v => by
    rcases v with v | ⟨v1, v2⟩
    · exact h.base x y hx hy v
    · exact h.done x y hx hy (by omega) v1 v2, fun x y _ _ hlt _ _ => by omega⟩
theorem Clo.end_ (h : Clo R n n 0 0 G) (x y : Nat) (hx : x < n) (hy : y < n) : G x y ↔ Reach R n x y :=
  ⟨h.sound x y hx hy, fun r => h.base x y hx hy (reach_via r)⟩
theorem Clo.start (h : ∀ x y, x < n → y < n → (G x y ↔ R x y)) : Clo R n 0 0 0 G :=
  ⟨fun x y hx hy e => .one ((h x y hx hy).1 e), fun x y hx hy v => (h x y hx hy).2 v, fun x y _ _ hlt _ _ => by omega⟩
end
/-- Entry (x, y) of a flat table of rows of 16. -/
def ent (L : List Bool) (x y : Nat) : Prop := L.getD (x * 16 + y) false = true
theorem ent_set {L : List Bool} (hL : L.length = 256) {a b : Nat} (ha : a < 16) (hb : b < 16) (v : Bool) (x y : Nat) (_hx : x < 16) (hy : y < 16) : ent (L.set (a * 16 + b) v) x y ↔ if x = a ∧ y = b then v = true else ent L x y := by
  unfold ent
  by_cases e : x = a ∧ y = b
  · obtain ⟨rfl, rfl⟩ := e
    rw [if_pos ⟨rfl, rfl⟩, List.getD_eq_getElem?_getD, List.getElem?_set_self (by omega)]
    simp
  · rw [if_neg e, List.getD_eq_getElem?_getD, List.getElem?_set_ne (by omega), ← List.getD_eq_getElem?_getD]
theorem ent_zero (x y : Nat) : ¬ ent (List.replicate 256 false) x y := by
  unfold ent
  rw [List.getD_eq_getElem?_getD, List.getElem?_replicate]
  split <;> simp
theorem ent_at {L : List Bool} (hL : L.length = 256) {x y : Nat} (hx : x < 16) (hy : y < 16) : ∃ v, L[x * 16 + y]? = some v ∧ (ent L x y ↔ v = true) := by
  have h : x * 16 + y < L.length := by omega
  refine ⟨L[x * 16 + y], List.getElem?_eq_getElem h, ?_⟩
  unfold ent
  rw [List.getD_eq_getElem?_getD, List.getElem?_eq_getElem h]
  rfl
/-- Steps that end among the first m need no more than these. -/
theorem reach_less {R : Nat → Nat → Prop} {n m : Nat} (hR : ∀ x y, R x y → y < m) {x y : Nat} (h : Reach R n x y) : Reach R m x y := by
  induction h with
  | one h => exact .one h
  | more h _ _ ih => exact .more h (hR _ _ h) ih
theorem reach_more {R : Nat → Nat → Prop} {n m : Nat} (hnm : m ≤ n) {x y : Nat} (h : Reach R m x y) : Reach R n x y := by
  induction h with
  | one h => exact .one h
  | more h hj _ ih => exact .more h (by omega) ih
theorem calls_lt {p : Pg} (h : CallsFit p) (x y : Nat) (hc : calls p x y) : y < p.len := by
  obtain ⟨f, hf, nd, hnd, h7, ha⟩ := hc
  have := h f (List.mem_of_getElem? hf) nd hnd h7
  omega
end Go.Proofs.Ytkglcmbpajfofaa.Q
