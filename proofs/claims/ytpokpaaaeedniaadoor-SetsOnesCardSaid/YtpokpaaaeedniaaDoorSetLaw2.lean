/- More of sets, on plain numbers; calls whose argument is spelt otherwise. -/
import Derived.Test.YtpokpaaaeedniaaDoorSetLaw1
namespace Go.Proofs.YtpokpaaaeedniaaDoor
open Go.RowKit

theorem S.count_one (i : Nat) (h : i ≤ 31) : S.count (2 ^ i) = 1 := by unfold S.count; rw [S.ids_one i h]; rfl
theorem S.least_one (i : Nat) (h : i ≤ 31) : S.least (2 ^ i) = i := by unfold S.least; rw [S.ids_one i h]
theorem S.has_pow (i : Nat) (_h : i ≤ 31) (id : Int) : S.has (2 ^ i) id = decide ((i : Int) = id) := by
  by_cases hr : id < 0 ∨ 31 < id
  · rw [S.has_out _ _ hr, decide_eq_false (by omega)]
  · obtain ⟨k, rfl⟩ : ∃ k : Nat, id = (k : Int) := ⟨id.toNat, by omega⟩
    rw [S.has_in _ k (by omega), Nat.testBit_two_pow, Bool.eq_iff_iff]
    simp only [decide_eq_true_iff]
    omega
theorem S.meet_within (l : List Nat) (x : Nat) (h : x ∈ l) : S.within (S.meet l) x 32 = true := by
  rw [S.within_iff]
  intro i hi hm
  rw [S.meet_bit l i hi, List.all_eq_true] at hm
  exact hm x h
theorem S.within_meet (l : List Nat) (a : Nat) : S.within a (S.meet l) 32 = l.all fun x => S.within a x 32 := by
  rw [Bool.eq_iff_iff, S.within_iff, List.all_eq_true]
  constructor
  · intro h x hx
    rw [S.within_iff]
    intro i hi ha
    have := h i hi ha
    rw [S.meet_bit l i hi, List.all_eq_true] at this
    exact this x hx
  · intro h i hi ha
    rw [S.meet_bit l i hi, List.all_eq_true]
    intro x hx
    exact (S.within_iff a x).1 (h x hx) i hi ha
theorem S.meet_lt (l : List Nat) : S.meet l < 4294967296 := by
  have h : ∀ (l : List Nat) (m : Nat), m < 4294967296 → l.foldl (fun m x => m &&& x) m < 4294967296 := by
    intro l
    induction l with
    | nil => intro m h; exact h
    | cons x r ih => intro m h; exact ih _ (Nat.lt_of_le_of_lt Nat.and_le_left h)
  exact h l _ (by decide)
theorem S.ids_rise (m n : Nat) : (S.ids m n).Pairwise (· < ·) := List.Pairwise.filter _ List.pairwise_lt_range
/-- A rising list of ids has no fault. -/
theorem S.first_none (l : List Nat) (h : l.Pairwise (· < ·)) (h31 : ∀ x ∈ l, x ≤ 31) : ∀ n, n ≤ l.length → S.first (l.map fun x : Nat => (x : Int)) 32 n = 0
  | 0, _ => rfl
  | n + 1, hn => by
    simp only [S.first]
    rw [if_pos (S.first_none l h h31 n (by omega))]
    have hnl : n < l.length := by omega
    have hx : (l.map fun x : Nat => (x : Int))[n]? = some ((l[n] : Nat) : Int) := by rw [List.getElem?_map, List.getElem?_eq_getElem hnl]; rfl
    have h1 := h31 _ (List.getElem_mem hnl)
    refine bad_none _ 32 _ n hx (by omega) ?_
    rintro ⟨h0, hle⟩
    have hm : n - 1 < l.length := by omega
    have hy : (l.map fun x : Nat => (x : Int)).getD (n - 1) 0 = ((l[n - 1] : Nat) : Int) := by rw [List.getD_eq_getElem?_getD, List.getElem?_map, List.getElem?_eq_getElem hm]; rfl
    rw [hy] at hle
    have := List.pairwise_iff_getElem.1 h (n - 1) n hm hnl (by omega)
    omega
theorem S.of_ids (m : Nat) (hm : m < 4294967296) : ofMask ((S.ids m 32).map fun x : Nat => (x : Int)) 32 = m ∧ S.first ((S.ids m 32).map fun x : Nat => (x : Int)) 32 ((S.ids m 32).map fun x : Nat => (x : Int)).length = 0 := by
  have h0 : S.first ((S.ids m 32).map fun x : Nat => (x : Int)) 32 ((S.ids m 32).map fun x : Nat => (x : Int)).length = 0 := by
    rw [List.length_map]
    exact S.first_none _ (S.ids_rise m 32) (fun x hx => by have := ((S.ids_mem m 32 x).1 hx).1; omega) _ (Nat.le_refl _)
  refine ⟨?_, h0⟩
  unfold ofMask
  rw [if_pos h0, List.map_map]
  have e : List.map (Int.toNat ∘ fun x : Nat => (x : Int)) (S.ids m 32) = S.ids m 32 := by
    conv => rhs; rw [← List.map_id (S.ids m 32)]
    apply List.map_congr_left
    intro x _
    simp
  rw [e, S.mask_ids, Nat.mod_eq_of_lt (Nat.mod_lt _ (by decide)), Nat.mod_eq_of_lt hm]
theorem S.within_all (m : Nat) : S.within m 4294967295 32 = true := by
  rw [S.within_iff]
  intro i hi _
  have := Nat.testBit_two_pow_sub_one 32 i
  rw [decide_eq_true hi] at this
  exact this
theorem S.mask_range : ∀ n, S.mask (List.range n) = 2 ^ n - 1
  | 0 => rfl
  | n + 1 => by
    have : 0 < 2 ^ n := Nat.pow_pos (by decide)
    rw [List.range_succ, S.mask_snoc, S.mask_range n, Nat.pow_succ]
    omega

theorem count_at (x : Int) (m : Nat) (hx : x = (m : Int)) (hm : m < 4294967296) (n : Nat) (hn : S.count m = n) (w : World) :
    Calls Tryd.prog 16 #[.int .u32 x] w fun e w' => e = .returned (.int .i64 (n : Int)) ∧ w = w' := by
  subst hx; exact count_any m hm n hn w
theorem one_at (x : Int) (i : Nat) (hx : x = (i : Int)) (hi : i ≤ 31) (m : Nat) (hm : 2 ^ i = m) (w : World) :
    Calls Tryd.prog 20 #[.int .i64 x] w fun e w' => e = .returned (.int .u32 (m : Int)) ∧ w = w' := by
  subst hx; exact one_any i (by omega) m (by rw [S.one_nat i hi, hm]) w
end Go.Proofs.YtpokpaaaeedniaaDoor
