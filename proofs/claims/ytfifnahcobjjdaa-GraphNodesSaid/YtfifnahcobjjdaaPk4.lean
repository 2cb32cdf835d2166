/- GraphBits, GraphEdges, in one text. -/
import Derived.Test.YtfifnahcobjjdaaPk5
import Derived.Test.YtfifnahcobjjdaaRows
import Derived.Test.YtfifnahcobjjdaaArr
import Derived.Test.YtfifnahcobjjdaaKit
import Derived.Deep.QuietTactic
import Derived.BigQuiet
import Derived.Deep.RegionWith
import Derived.Test.YtfifnahcobjjdaaSetRef2
import Derived.Test.YtfifnahcobjjdaaPk3
import Derived.Test.YtfifnahcobjjdaaPk2
/- Sets as numbers, id by id, and what the document's own answers of layer 6 are as such. -/
namespace Go.Proofs.Ytfifnahcobjjdaa
open Go.RowKit

/-- m is the set of the ids of which P holds. -/
def BitsAre (m : Nat) (P : Nat → Prop) : Prop := m < 4294967296 ∧ ∀ id, id < 32 → (m.testBit id = true ↔ P id)
theorem BitsAre.uniq {m m' : Nat} {P : Nat → Prop} (h : BitsAre m P) (h' : BitsAre m' P) : m = m' :=
  S.eq_of_bits m m' h.1 h'.1 fun i hi => by
    have h1 := h.2 i hi
    have h2 := h'.2 i hi
    cases e : m.testBit i <;> cases e' : m'.testBit i <;> simp_all
theorem BitsAre.congr {m : Nat} {P P' : Nat → Prop} (h : BitsAre m P) (hp : ∀ id, id < 32 → (P id ↔ P' id)) : BitsAre m P' := ⟨h.1, fun id hi => (h.2 id hi).trans (hp id hi)⟩
theorem bits_none : BitsAre 0 (fun _ => False) := ⟨by omega, fun id _ => by simp⟩
theorem bits_or {a b : Nat} {P P' : Nat → Prop} (h : BitsAre a P) (h' : BitsAre b P') : BitsAre (a ||| b) (fun id => P id ∨ P' id) :=
  ⟨Nat.or_lt_two_pow (n := 32) h.1 h'.1, fun id hi => by rw [Nat.testBit_or, Bool.or_eq_true, h.2 id hi, h'.2 id hi]⟩

theorem mask_filter (q : Nat → Bool) : ∀ n, S.mask ((List.range n).filter q) < 2 ^ n ∧ ∀ i, (S.mask ((List.range n).filter q)).testBit i = (decide (i < n) && q i)
  | 0 => ⟨by simp [S.mask], fun i => by simp [S.mask]⟩
  | n + 1 => by
    obtain ⟨h1, h2⟩ := mask_filter q n
    rw [List.range_succ, List.filter_append]
    by_cases hq : q n = true
    · rw [show [n].filter q = [n] by simp [hq], S.mask_snoc]
      generalize S.mask ((List.range n).filter q) = x at *
      have hp : 2 ^ (n + 1) = 2 ^ n * 2 := Nat.pow_succ ..
      refine ⟨by omega, fun i => ?_⟩
      rw [Nat.add_comm x]
      rcases Nat.lt_trichotomy i n with h | h | h
      · rw [Nat.testBit_two_pow_add_gt h, h2]
        simp [h, Nat.lt_succ_of_lt h]
      · subst h
        rw [Nat.testBit_two_pow_add_eq, Nat.testBit_lt_two_pow h1]
        simp [hq]
      · have hlt : 2 ^ n + x < 2 ^ i := by
          have h3 : 2 ^ (n + 1) ≤ 2 ^ i := Nat.pow_le_pow_right (by omega) h
          omega
        rw [Nat.testBit_lt_two_pow hlt]
        have h4 : ¬ i < n + 1 := by omega
        simp [h4]
    · rw [show [n].filter q = [] by simp [hq], List.append_nil]
      have hp : 2 ^ (n + 1) = 2 ^ n * 2 := Nat.pow_succ ..
      refine ⟨by omega, fun i => ?_⟩
      rw [h2]
      rcases Nat.lt_trichotomy i n with h | h | h
      · simp [h, Nat.lt_succ_of_lt h]
      · subst h; simp [hq]
      · have h4 : ¬ i < n + 1 := by omega
        have h5 : ¬ i < n := by omega
        simp [h4, h5]
theorem bits_filter (q : Nat → Bool) (n : Nat) (hn : n ≤ 32) : BitsAre (S.mask ((List.range n).filter q)) (fun id => id < n ∧ q id = true) := by
  obtain ⟨h1, h2⟩ := mask_filter q n
  have h3 : 2 ^ n ≤ 2 ^ 32 := Nat.pow_le_pow_right (by omega) hn
  have h4 : (2 : Nat) ^ 32 = 4294967296 := by decide
  refine ⟨by omega, fun id _ => ?_⟩
  rw [h2 id, Bool.and_eq_true, decide_eq_true_eq]

/-- A node of that kind names that id. -/
def Names (l : List Nd) (kind : Int) (id : Nat) : Prop := ∃ nd ∈ l, nd.kind = kind ∧ nd.arg = (id : Int)
theorem bits_named (l : List Nd) (kind : Int) : BitsAre (S.mask (namedL l kind)) (Names l kind) :=
  (bits_filter (fun id => l.any (names kind id)) 32 (Nat.le_refl _)).congr fun id hi => by
    constructor
    · rintro ⟨_, h⟩
      obtain ⟨nd, h1, h2⟩ := List.any_eq_true.1 h
      unfold names at h2
      simp only [Bool.and_eq_true, decide_eq_true_eq] at h2
      exact ⟨nd, h1, h2⟩
    · rintro ⟨nd, h1, h2, h3⟩
      exact ⟨hi, List.any_eq_true.2 ⟨nd, h1, by simp [names, h2, h3]⟩⟩
theorem named_le (l : List Nd) (kind : Int) : ∀ x ∈ namedL l kind, x ≤ 31 := fun x hx => by
  have := (named_mem.1 hx).1
  omega

theorem comes_congr {p : Pg} {F F' : Nat → Prop} (h : ∀ j, F j ↔ F' j) (f : Nat) : Comes p F f ↔ Comes p F' f := by
  unfold Comes
  rw [h f]
  constructor
  · rintro ⟨h1, h2 | ⟨j, h3, h4⟩⟩
    · exact ⟨h1, .inl h2⟩
    · exact ⟨h1, .inr ⟨j, (h j).1 h3, h4⟩⟩
  · rintro ⟨h1, h2 | ⟨j, h3, h4⟩⟩
    · exact ⟨h1, .inl h2⟩
    · exact ⟨h1, .inr ⟨j, (h j).2 h3, h4⟩⟩
open Classical in
/-- What the document's Reach lists. -/
noncomputable def reachL (p : Pg) (F : Nat → Prop) : List Nat := trueTo (fun i => decide (Comes p F i)) p.len
open Classical in
theorem reach_list {p : Pg} {F : Nat → Prop} {o : Nat → Bool} (h : ∀ i, i < p.len → (o i = true ↔ Comes p F i)) : trueTo o p.len = reachL p F := by
  unfold reachL trueTo
  refine List.filter_congr fun i hi => ?_
  have := h i (List.mem_range.1 hi)
  cases e : o i
  · rw [e] at this
    symm
    exact decide_eq_false fun hc => by have := this.2 hc; cases this
  · rw [e] at this
    symm
    exact decide_eq_true (this.1 rfl)
open Classical in
theorem reach_bits (p : Pg) (F : Nat → Prop) (h32 : p.len ≤ 32) : BitsAre (S.mask (reachL p F)) (Comes p F) :=
  (bits_filter _ p.len h32).congr fun id _ => by
    constructor
    · rintro ⟨_, h⟩
      exact of_decide_eq_true h
    · intro h
      exact ⟨h.1, decide_eq_true h⟩
open Classical in
theorem reach_le (p : Pg) (F : Nat → Prop) (h32 : p.len ≤ 32) : ∀ x ∈ reachL p F, x ≤ 31 := fun x hx => by
  unfold reachL trueTo at hx
  have := List.mem_range.1 (List.mem_filter.1 hx).1
  omega
/-- What is in a set, as a list. -/
theorem ids_in {m x : Nat} (hm : m < 4294967296) : x ∈ S.ids m 32 ↔ m.testBit x = true := by
  rw [S.ids_mem]
  constructor
  · exact fun h => h.2
  · intro h
    refine ⟨?_, h⟩
    rcases Nat.lt_or_ge x 32 with hx | hx
    · exact hx
    · rw [S.bit_high m x hm hx] at h; cases h
theorem mask_small {m : Nat} {P : Nat → Prop} {l : List Nat} (h : BitsAre (S.mask l) P) (hm : BitsAre m P) : S.mask l % 4294967296 = m := by
  rw [Nat.mod_eq_of_lt h.1]
  exact h.uniq hm
end Go.Proofs.Ytfifnahcobjjdaa

/- All edges of some nodes, as a list. -/
namespace Go.Proofs.Ytfifnahcobjjdaa

/-- The edges of one node. -/
def edgesOf (i : Nat) (nd : Nd) : List (Nat × Int) := (Q.succ nd).map fun y => (i, y)
def edgesFrom : Nat → List Nd → List (Nat × Int)
  | _, [] => []
  | i, nd :: r => edgesOf i nd ++ edgesFrom (i + 1) r
def edgesL (l : List Nd) : List (Nat × Int) := edgesFrom 0 l
def edV (e : Nat × Int) : Nat → Value
  | 0 => .int .i64 (e.1 : Int)
  | _ => .int .i64 e.2
theorem edgesFrom_snoc (nd : Nd) : ∀ (l : List Nd) (i : Nat), edgesFrom i (l ++ [nd]) = edgesFrom i l ++ edgesOf (i + l.length) nd
  | [], i => by simp [edgesFrom]
  | x :: r, i => by
    simp only [List.cons_append, edgesFrom, edgesFrom_snoc nd r (i + 1), List.append_assoc, List.length_cons]
    rw [show i + 1 + r.length = i + (r.length + 1) by omega]
theorem edges_snoc {l : List Nd} {i : Nat} {nd : Nd} (h : l[i]? = some nd) : edgesL (l.take (i + 1)) = edgesL (l.take i) ++ edgesOf i nd := by
  have hi := (List.getElem?_eq_some_iff.1 h).1
  unfold edgesL
  rw [List.take_add_one, h]
  show edgesFrom 0 (l.take i ++ [nd]) = _
  rw [edgesFrom_snoc, List.length_take, Nat.min_eq_left (by omega), Nat.zero_add]
theorem edgesFrom_app : ∀ (l l' : List Nd) (i : Nat), edgesFrom i (l ++ l') = edgesFrom i l ++ edgesFrom (i + l.length) l'
  | [], l', i => by simp [edgesFrom]
  | x :: r, l', i => by
    simp only [List.cons_append, edgesFrom, edgesFrom_app r l' (i + 1), List.append_assoc, List.length_cons]
    rw [show i + 1 + r.length = i + (r.length + 1) by omega]
/-- The k-th edge of node i stands behind all edges of the nodes ahead of it. -/
theorem edges_at {l : List Nd} {i k : Nat} {nd : Nd} {y : Int} (h : l[i]? = some nd) (hk : (Q.succ nd)[k]? = some y) : (edgesL l)[(edgesL (l.take i)).length + k]? = some (i, y) := by
  have hi := (List.getElem?_eq_some_iff.1 h).1
  have e : edgesL l = edgesL (l.take i) ++ (edgesOf i nd ++ edgesFrom (i + 1) (l.drop (i + 1))) := by
    have e1 : l = l.take i ++ nd :: l.drop (i + 1) := by
      have h1 : l.drop i = nd :: l.drop (i + 1) := by rw [List.drop_eq_getElem_cons hi]; congr 1; exact (List.getElem?_eq_some_iff.1 h).2
      rw [← h1, List.take_append_drop]
    have h2 : edgesL l = edgesFrom 0 (l.take i ++ nd :: l.drop (i + 1)) := by unfold edgesL; rw [← e1]
    rw [h2, edgesFrom_app, List.length_take, Nat.min_eq_left (by omega), Nat.zero_add]
    rfl
  have hkl := (List.getElem?_eq_some_iff.1 hk).1
  rw [e, List.getElem?_append_right (by omega), Nat.add_sub_cancel_left, List.getElem?_append_left (by simp [edgesOf]; exact hkl)]
  simp [edgesOf, hk]
theorem edges_whole {l : List Nd} : edgesL (l.take l.length) = edgesL l := by rw [List.take_length]
/-- Each of them is an edge of a node. -/
theorem edges_mem : ∀ (l : List Nd) (i : Nat) (e : Nat × Int), e ∈ edgesFrom i l ↔ ∃ j nd, l[j]? = some nd ∧ e.1 = i + j ∧ e.2 ∈ Q.succ nd
  | [], i, e => by simp [edgesFrom]
  | x :: r, i, e => by
    rw [edgesFrom, List.mem_append, edges_mem r (i + 1) e]
    constructor
    · rintro (h | ⟨j, nd, h1, h2, h3⟩)
      · obtain ⟨y, hy, rfl⟩ := List.mem_map.1 h
        exact ⟨0, x, rfl, by simp, hy⟩
      · exact ⟨j + 1, nd, by simpa using h1, by omega, h3⟩
    · rintro ⟨j, nd, h1, h2, h3⟩
      cases j with
      | zero =>
        simp at h1
        subst h1
        exact .inl (List.mem_map.2 ⟨e.2, h3, by cases e; simp at h2; simp [h2]⟩)
      | succ j => exact .inr ⟨j, nd, by simpa using h1, by omega, h3⟩
theorem edges_len (l : List Nd) : (edgesL l).length ≤ 2 * l.length := by
  have h : ∀ (l : List Nd) (i : Nat), (edgesFrom i l).length ≤ 2 * l.length := by
    intro l
    induction l with
    | nil => intro i; simp [edgesFrom]
    | cons x r ih =>
      intro i
      rw [edgesFrom, List.length_append]
      have h1 := ih (i + 1)
      have h2 : (edgesOf i x).length ≤ 2 := by unfold edgesOf; rw [List.length_map]; unfold Q.succ; split <;> (try split) <;> simp
      simp only [List.length_cons]
      omega
  exact h l 0
end Go.Proofs.Ytfifnahcobjjdaa
