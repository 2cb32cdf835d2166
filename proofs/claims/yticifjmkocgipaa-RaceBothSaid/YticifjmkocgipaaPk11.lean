/- ProgOrd, SetMath, SemMath, in one text. -/
import Derived.Test.YticifjmkocgipaaPk10
import Derived.WalkKit
/- Functions taken out one by one, those that call nobody who is left: all are taken out (plain data). -/
namespace Go.Proofs.Yticifjmkocgipaa
open Go.RowKit

/-- How many below len. -/
def cnt (P : Nat → Bool) : Nat → Nat
  | 0 => 0
  | n + 1 => cnt P n + (if P n then 1 else 0)
theorem cnt_le (P : Nat → Bool) : ∀ n, cnt P n ≤ n
  | 0 => Nat.le_refl _
  | n + 1 => by have := cnt_le P n; simp only [cnt]; split <;> omega
theorem cnt_congr {P P' : Nat → Bool} : ∀ n, (∀ g, g < n → P g = P' g) → cnt P n = cnt P' n
  | 0, _ => rfl
  | n + 1, h => by simp only [cnt]; rw [cnt_congr n fun g hg => h g (by omega), h n (by omega)]
theorem cnt_mono {P P' : Nat → Bool} : ∀ n, (∀ g, g < n → P g = true → P' g = true) → cnt P n ≤ cnt P' n
  | 0, _ => Nat.le_refl _
  | n + 1, h => by
    have h1 := cnt_mono n fun g hg => h g (by omega)
    have h2 := h n (by omega)
    simp only [cnt]
    by_cases hp : P n = true
    · rw [if_pos hp, if_pos (h2 hp)]; omega
    · rw [if_neg hp]; omega
theorem cnt_lt {P P' : Nat → Bool} {f : Nat} : ∀ n, (∀ g, g < n → P g = true → P' g = true) → f < n → P f = false → P' f = true → cnt P n < cnt P' n
  | 0, _, hf, _, _ => by omega
  | n + 1, h, hf, h1, h2 => by
    by_cases hfn : f = n
    · subst hfn
      have h3 := cnt_mono f fun g hg => h g (by omega)
      simp only [cnt]
      rw [if_neg (by rw [h1]; decide), if_pos h2]; omega
    · have h3 := cnt_lt (f := f) n (fun g hg => h g (by omega)) (by omega) h1 h2
      have h4 := h n (by omega)
      simp only [cnt]
      by_cases hp : P n = true
      · rw [if_pos hp, if_pos (h4 hp)]; omega
      · rw [if_neg hp]; omega
theorem cnt_set {P P' : Nat → Bool} {f : Nat} : ∀ n, f < n → P f = false → P' f = true → (∀ g, g ≠ f → P' g = P g) → cnt P' n = cnt P n + 1
  | 0, hf, _, _, _ => by omega
  | n + 1, hf, h1, h2, h3 => by
    by_cases hfn : f = n
    · subst hfn
      simp only [cnt]
      rw [cnt_congr f fun g hg => h3 g (by omega), h1, h2]; simp
    · simp only [cnt]
      rw [cnt_set n (by omega) h1 h2 h3, h3 n (fun e => hfn e.symm)]; omega
theorem cnt_miss {P : Nat → Bool} : ∀ n, cnt P n < n → ∃ g, g < n ∧ P g = false
  | 0, h => by omega
  | n + 1, h => by
    by_cases hp : P n = true
    · simp only [cnt] at h
      rw [if_pos hp] at h
      obtain ⟨g, hg, h1⟩ := cnt_miss (P := P) n (by omega)
      exact ⟨g, by omega, h1⟩
    · exact ⟨n, by omega, by simpa using hp⟩

/-- Is it so? -/
noncomputable def dec (P : Prop) : Bool := @decide P (Classical.propDecidable P)
theorem dec_true {P : Prop} : dec P = true ↔ P := by unfold dec; exact @decide_eq_true_iff P (Classical.propDecidable P)
theorem dec_false {P : Prop} : dec P = false ↔ ¬ P := by unfold dec; exact @decide_eq_false_iff_not P (Classical.propDecidable P)
/-- Where nobody comes to itself, somebody of a set calls nobody of it. -/
theorem least_caller {R : Nat → Nat → Prop} {n : Nat} (hac : ∀ x, x < n → ¬ Q.Reach R n x x) : ∀ (k : Nat) (U : Nat → Bool), cnt U n ≤ k → (∀ g, U g = true → g < n) → (∃ f, U f = true) → ∃ f, U f = true ∧ ∀ y, R f y → U y = false
  | 0, U, hk, hU, ⟨f, hf⟩ => by
    exfalso
    have h1 : cnt (fun _ => false) n < cnt U n := cnt_lt (f := f) n (fun g _ h => by cases h) (hU f hf) rfl hf
    omega
  | k + 1, U, hk, hU, ⟨f, hf⟩ => by
    by_cases hno : ∀ y, R f y → U y = false
    · exact ⟨f, hf, hno⟩
    · have hno2 : ∃ y, R f y ∧ U y = true := by
        refine Classical.byContradiction fun h => hno fun y hy => ?_
        cases hu : U y
        · rfl
        · exact absurd ⟨y, hy, hu⟩ h
      obtain ⟨y, hy, hyu⟩ := hno2
      have hlt : cnt (fun g => U g && dec (Q.Reach R n f g)) n < cnt U n :=
        cnt_lt (f := f) n (fun g _ h => by rw [Bool.and_eq_true] at h; exact h.1) (hU f hf) (by simp only [hf, Bool.true_and]; exact dec_false.2 (hac f (hU f hf))) hf
      obtain ⟨g, hg, hgno⟩ := least_caller hac k (fun g => U g && dec (Q.Reach R n f g)) (by omega) (fun g h => hU g (by rw [Bool.and_eq_true] at h; exact h.1)) ⟨y, by simp only [hyu, Bool.true_and]; exact dec_true.2 (.one hy)⟩
      rw [Bool.and_eq_true] at hg
      obtain ⟨hgu, hfg⟩ := hg
      refine ⟨g, hgu, fun z hz => ?_⟩
      have h1 := hgno z hz
      cases hzu : U z
      · rfl
      · simp only [hzu, Bool.true_and] at h1
        exact absurd ((dec_true.1 hfg).trans (hU g hgu) (.one hz)) (dec_false.1 h1)

/-- How far a round is: out0 ahead of it, out now, f functions looked at. -/
structure OrdInv (R : Nat → Nat → Prop) (len : Nat) (o0 o : Nat → Bool) (f : Nat) : Prop where
  mono : ∀ g, o0 g = true → o g = true
  rest : ∀ g, f ≤ g → o g = o0 g
  done : ∀ g, g < f → (∀ y, R g y → o0 y = true) → o g = true
theorem OrdInv.start (R : Nat → Nat → Prop) (len : Nat) (o : Nat → Bool) : OrdInv R len o o 0 := ⟨fun _ h => h, fun _ _ => rfl, fun g h => by omega⟩
theorem OrdInv.skip {R : Nat → Nat → Prop} {len : Nat} {o0 o : Nat → Bool} {f : Nat} (h : OrdInv R len o0 o f) (hn : ¬ (o f = false ∧ ∀ y, R f y → o y = true)) : OrdInv R len o0 o (f + 1) := by
  refine ⟨h.mono, fun g hg => h.rest g (by omega), fun g hg hc => ?_⟩
  by_cases hgf : g = f
  · subst hgf
    cases ho : o g
    · exact absurd ⟨ho, fun y hy => h.mono y (hc y hy)⟩ hn
    · rfl
  · exact h.done g (by omega) hc
theorem OrdInv.take {R : Nat → Nat → Prop} {len : Nat} {o0 o o' : Nat → Bool} {f : Nat} (h : OrdInv R len o0 o f) (h1 : o' f = true) (h2 : ∀ g, g ≠ f → o' g = o g) : OrdInv R len o0 o' (f + 1) := by
  refine ⟨fun g hg => ?_, fun g hg => ?_, fun g hg hc => ?_⟩
  · by_cases hgf : g = f
    · subst hgf; exact h1
    · rw [h2 g hgf]; exact h.mono g hg
  · rw [h2 g (by omega)]; exact h.rest g (by omega)
  · by_cases hgf : g = f
    · subst hgf; exact h1
    · rw [h2 g hgf]; exact h.done g (by omega) hc
theorem OrdInv.gain {R : Nat → Nat → Prop} {len : Nat} {o0 o : Nat → Bool} (h : OrdInv R len o0 o len) (hac : ∀ x, x < len → ¬ Q.Reach R len x x) (hin : ∀ x y, R x y → y < len) (hlt : cnt o0 len < len) : cnt o0 len < cnt o len := by
  obtain ⟨g, hg, hg0⟩ := cnt_miss len hlt
  obtain ⟨f, hff, hno⟩ := least_caller hac len (fun g => decide (g < len) && !o0 g) (cnt_le _ _) (fun g h => by rw [Bool.and_eq_true] at h; simpa using h.1) ⟨g, by simp [hg, hg0]⟩
  rw [Bool.and_eq_true] at hff
  have hf : f < len := by simpa using hff.1
  have hf0 : o0 f = false := by simpa using hff.2
  refine cnt_lt (f := f) len (fun g _ hg => h.mono g hg) hf hf0 (h.done f hf fun y hy => ?_)
  cases hy0 : o0 y
  · have h1 := hno y hy
    simp [hin f y hy, hy0] at h1
  · rfl

/-- In a program that may be nobody comes to itself, and whoever is called is there. -/
theorem fine_in {p : Pg} (h : Fine p) (hl : p.fns.length = p.len) {x y : Nat} (hc : Q.calls p x y) : y < p.fns.length := by
  obtain ⟨f, hf, nd, hnd, h7, ha⟩ := hc
  have := (calls_fit h.nodes f (List.mem_of_getElem? hf) nd hnd h7).2
  omega
theorem fine_acyclic {p : Pg} (h : Fine p) (hl : p.fns.length = p.len) : ∀ x, x < p.fns.length → ¬ Q.Reach (Q.calls p) p.fns.length x x := by
  intro x hx hr
  refine h.round x hx ?_
  have key : ∀ y, Q.calls p x y → (y = x ∨ Q.Reach (Q.calls p) p.fns.length y x) → Q.badRound p x := by
    intro y hc hor
    have hy := fine_in h hl hc
    obtain ⟨f, hf, nd, hnd, h7, ha⟩ := hc
    obtain ⟨i, hi⟩ := List.mem_iff_getElem?.1 hnd
    exact ⟨i, f, nd, hf, hi, h7, y, ha, hy, hor⟩
  cases hr with
  | one hc => exact key x hc (.inl rfl)
  | more hc hj hr => exact key _ hc (.inr hr)
end Go.Proofs.Yticifjmkocgipaa

/- Sets of ids from 0 to 31 as masks, on plain numbers: nothing here speaks of the program. -/
namespace Go.Proofs.Yticifjmkocgipaa.S

def has (m : Nat) (id : Int) : Bool := decide (0 ≤ id ∧ id ≤ 31) && m.testBit id.toNat
theorem has_out (m : Nat) (id : Int) (h : id < 0 ∨ 31 < id) : has m id = false := by
  unfold has; rw [decide_eq_false (by omega)]; rfl
theorem has_in (m : Nat) (i : Nat) (h : i ≤ 31) : has m (i : Int) = m.testBit i := by
  unfold has; rw [decide_eq_true (by omega)]; simp
theorem bit_div (m i : Nat) : m.testBit i = decide (m / 2 ^ i % 2 = 1) := Nat.testBit_eq_decide_div_mod_eq
/-- All ids of a set. -/
def ids (m : Nat) (n : Nat) : List Nat := (List.range n).filter fun i => m.testBit i
theorem ids_succ (m n : Nat) : ids m (n + 1) = ids m n ++ (if m.testBit n then [n] else []) := by
  unfold ids
  rw [List.range_succ, List.filter_append]
  by_cases h : m.testBit n <;> simp [h]
theorem ids_len (m n : Nat) : (ids m n).length ≤ n := by
  have := List.length_filter_le (fun i => m.testBit i) (List.range n)
  simpa [ids] using this
theorem ids_mem (m n x : Nat) : x ∈ ids m n ↔ x < n ∧ m.testBit x = true := by simp [ids]

/-- The sum of the ids' values. -/
def mask (l : List Nat) : Nat := (l.map (2 ^ ·)).sum
theorem mask_snoc (l : List Nat) (x : Nat) : mask (l ++ [x]) = mask l + 2 ^ x := by simp [mask]
theorem mask_le (l : List Nat) (h : ∀ x ∈ l, x ≤ 31) : mask l ≤ l.length * 2147483648 := by
  induction l with
  | nil => simp [mask]
  | cons x r ih =>
    have h1 := ih fun y hy => h y (by simp [hy])
    have h2 : 2 ^ x ≤ 2 ^ 31 := Nat.pow_le_pow_right (by decide) (h x (by simp))
    simp only [mask, List.map_cons, List.sum_cons, List.length_cons] at *
    omega
/-- The first n ids of a set make its lowest n bits. -/
theorem mask_ids (m : Nat) : ∀ n, mask (ids m n) = m % 2 ^ n
  | 0 => by simp [mask, ids, Nat.mod_one]
  | n + 1 => by
    have hb := bit_div m n
    have hm : m / 2 ^ n % 2 = 0 ∨ m / 2 ^ n % 2 = 1 := by omega
    rw [ids_succ, Nat.mod_pow_succ, ← mask_ids m n]
    rcases hm with h | h
    · rw [h] at hb ⊢
      rw [if_neg (by rw [hb]; decide), List.append_nil]; simp
    · rw [h] at hb ⊢
      rw [if_pos (by rw [hb]; decide), mask_snoc]; simp

/-- All of a in b? -/
def within (a b n : Nat) : Bool := (List.range n).all fun i => !a.testBit i || b.testBit i
theorem within_succ (a b n : Nat) : within a b (n + 1) = (within a b n && (!a.testBit n || b.testBit n)) := by
  simp [within, List.range_succ, List.all_append]

/-- What is wrong at place i of a list. -/
def bad (l : List Int) (size : Int) (i : Nat) : Nat :=
  let x := l.getD i 0
  if x < 0 ∨ size ≤ x ∨ 31 < x then 1 else if 0 < i ∧ x ≤ l.getD (i - 1) 0 then 5 else 0
/-- What is wrong first among the first n. -/
def first (l : List Int) (size : Int) : Nat → Nat
  | 0 => 0
  | n + 1 => if first l size n = 0 then bad l size n else first l size n
theorem first_zero (l : List Int) (size : Int) : ∀ n, first l size n = 0 → ∀ i, i < n → bad l size i = 0
  | 0, _, i, hi => by omega
  | n + 1, h, i, hi => by
    simp only [first] at h
    by_cases h0 : first l size n = 0
    · rw [if_pos h0] at h
      by_cases e : i = n
      · subst e; exact h
      · exact first_zero l size n h0 i (by omega)
    · rw [if_neg h0] at h; exact absurd h h0
theorem first_stays (l : List Int) (size : Int) (n : Nat) (h : first l size n ≠ 0) : ∀ k, first l size (n + k) = first l size n
  | 0 => rfl
  | k + 1 => by
    rw [← Nat.add_assoc]
    simp only [first]
    rw [first_stays l size n h k, if_neg h]

/-- How many ids. -/
def count (m : Nat) : Nat := (ids m 32).length
theorem ids_or_and (a b : Nat) : ∀ n, (ids a n).length + (ids b n).length = (ids (a ||| b) n).length + (ids (a &&& b) n).length
  | 0 => by simp [ids]
  | n + 1 => by
    have ih := ids_or_and a b n
    simp only [ids_succ, List.length_append, Nat.testBit_or, Nat.testBit_and]
    cases a.testBit n <;> cases b.testBit n <;> simp <;> omega
theorem count_or_and (a b : Nat) : count a + count b = count (a ||| b) + count (a &&& b) := ids_or_and a b 32
/-- The least id; -1 of none. -/
def least (m : Nat) : Int := match ids m 32 with | [] => -1 | x :: _ => (x : Int)
theorem bit_high (m i : Nat) (hm : m < 4294967296) (hi : 32 ≤ i) : m.testBit i = false :=
  Nat.testBit_lt_two_pow (Nat.lt_of_lt_of_le hm ((Nat.pow_le_pow_right (by decide) hi : 2 ^ 32 ≤ 2 ^ i)))
theorem within_iff (a b : Nat) : within a b 32 = true ↔ ∀ i, i < 32 → a.testBit i = true → b.testBit i = true := by
  simp only [within, List.all_eq_true, List.mem_range]
  constructor
  · intro h i hi ha
    have := h i hi
    rw [ha] at this; simpa using this
  · intro h i hi
    cases ha : a.testBit i
    · rfl
    · simp [h i hi ha]
theorem within_or (a b : Nat) (ha : a < 4294967296) (_ : b < 4294967296) : within a b 32 = decide (a ||| b = b) := by
  rw [Bool.eq_iff_iff, within_iff, decide_eq_true_iff]
  constructor
  · intro h
    apply Nat.eq_of_testBit_eq
    intro i
    rw [Nat.testBit_or]
    rcases Nat.lt_or_ge i 32 with hi | hi
    · cases h1 : a.testBit i
      · rfl
      · rw [h i hi h1]; rfl
    · rw [bit_high a i ha hi]; rfl
  · intro h i _ h1
    have := congrArg (·.testBit i) h
    simp only [Nat.testBit_or, h1, Bool.true_or] at this
    exact this.symm
theorem within_trans (a b c : Nat) (h1 : within a b 32 = true) (h2 : within b c 32 = true) : within a c 32 = true := by
  rw [within_iff] at *
  exact fun i hi h => h2 i hi (h1 i hi h)
theorem eq_of_bits (a b : Nat) (ha : a < 4294967296) (hb : b < 4294967296) (h : ∀ i, i < 32 → a.testBit i = b.testBit i) : a = b := by
  apply Nat.eq_of_testBit_eq
  intro i
  rcases Nat.lt_or_ge i 32 with hi | hi
  · exact h i hi
  · rw [bit_high a i ha hi, bit_high b i hb hi]
theorem within_both (a b : Nat) (ha : a < 4294967296) (hb : b < 4294967296) : (within a b 32 && within b a 32) = decide (a = b) := by
  rw [Bool.eq_iff_iff, Bool.and_eq_true, decide_eq_true_iff, within_iff, within_iff]
  constructor
  · rintro ⟨h1, h2⟩
    refine eq_of_bits a b ha hb fun i hi => ?_
    rw [Bool.eq_iff_iff]
    exact ⟨h1 i hi, h2 i hi⟩
  · rintro rfl
    exact ⟨fun _ _ h => h, fun _ _ h => h⟩
/-- The set of the ids below n. -/
def all (n : Int) : Nat := if n ≤ 0 then 0 else if 32 ≤ n then 4294967295 else 2 ^ n.toNat - 1
theorem all_nat (n : Nat) (h : n ≤ 32) : all (n : Int) = 2 ^ n - 1 := by
  unfold all
  by_cases h0 : n = 0
  · subst h0; rfl
  · rw [if_neg (by omega)]
    by_cases h1 : n = 32
    · subst h1; rfl
    · rw [if_neg (by omega), Int.toNat_natCast]
theorem all_bit (n i : Nat) (h : n ≤ 32) : (all (n : Int)).testBit i = decide (i < n) := by
  rw [all_nat n h, Nat.testBit_two_pow_sub_one]
theorem all_lt (n : Int) : all n < 4294967296 := by
  unfold all
  split
  · decide
  · split
    · decide
    · have : 2 ^ n.toNat ≤ 2 ^ 31 := Nat.pow_le_pow_right (by decide) (by omega)
      omega
/-- The set of that id alone. -/
def one (id : Int) : Nat := if 0 ≤ id ∧ id ≤ 31 then 2 ^ id.toNat else 0
theorem one_nat (i : Nat) (h : i ≤ 31) : one (i : Int) = 2 ^ i := by unfold one; rw [if_pos (by omega), Int.toNat_natCast]
theorem one_out (id : Int) (h : id < 0 ∨ 31 < id) : one id = 0 := by unfold one; rw [if_neg (by omega)]
theorem one_lt (id : Int) : one id < 4294967296 := by
  unfold one
  split
  · have : 2 ^ id.toNat ≤ 2 ^ 31 := Nat.pow_le_pow_right (by decide) (by omega)
    omega
  · decide
theorem ids_one (i : Nat) (h : i ≤ 31) : ids (2 ^ i) 32 = [i] := by
  have hn : ∀ n, ids (2 ^ i) n = if i < n then [i] else [] := by
    intro n
    induction n with
    | zero => simp [ids]
    | succ n ih =>
      rw [ids_succ, ih, Nat.testBit_two_pow]
      by_cases h1 : i < n
      · rw [if_pos h1, if_pos (show i < n + 1 by omega), if_neg (by simp; omega), List.append_nil]
      · rw [if_neg h1]
        by_cases h2 : i = n
        · rw [if_pos (by simpa using h2), if_pos (by omega), h2]; rfl
        · rw [if_neg (by simpa using h2), if_neg (by omega)]; rfl
  rw [hn, if_pos (by omega)]
theorem all_or_one (i : Nat) (h : i ≤ 31) : all (i : Int) ||| 2 ^ i = all ((i + 1 : Nat) : Int) := by
  apply Nat.eq_of_testBit_eq
  intro j
  rw [Nat.testBit_or, all_bit i j (by omega), all_bit (i + 1) j (by omega), Nat.testBit_two_pow]
  by_cases h1 : j < i
  · rw [decide_eq_true h1, decide_eq_true (by omega : j < i + 1)]; rfl
  · rw [decide_eq_false h1]
    by_cases h2 : i = j
    · rw [decide_eq_true h2, decide_eq_true (by omega : j < i + 1)]; rfl
    · rw [decide_eq_false h2, decide_eq_false (by omega)]; rfl
theorem all_and_one (i : Nat) (h : i ≤ 31) : all (i : Int) &&& 2 ^ i = 0 := by
  apply Nat.eq_of_testBit_eq
  intro j
  rw [Nat.testBit_and, all_bit i j (by omega), Nat.testBit_two_pow, Nat.zero_testBit]
  by_cases h1 : j < i
  · rw [decide_eq_true h1, decide_eq_false (by omega : ¬ i = j)]; rfl
  · rw [decide_eq_false h1]; rfl
/-- What is in all of the sets. -/
def meet (l : List Nat) : Nat := l.foldl (fun m x => m &&& x) 4294967295
theorem meet_snoc (l : List Nat) (x : Nat) : meet (l ++ [x]) = meet l &&& x := by simp [meet]
theorem meet_bit (l : List Nat) (i : Nat) (hi : i < 32) : (meet l).testBit i = l.all fun x => x.testBit i := by
  have h : ∀ (l : List Nat) (m : Nat), (l.foldl (fun m x => m &&& x) m).testBit i = (m.testBit i && l.all fun x => x.testBit i) := by
    intro l
    induction l with
    | nil => intro m; simp
    | cons x r ih => intro m; rw [List.foldl_cons, ih, Nat.testBit_and, List.all_cons, Bool.and_assoc]
  have e : (4294967295 : Nat).testBit i = true := by
    have := Nat.testBit_two_pow_sub_one 32 i
    rw [decide_eq_true hi] at this
    exact this
  unfold meet
  rw [h, e, Bool.true_and]
end Go.Proofs.Yticifjmkocgipaa.S

/- The interpreter, on plain data: configs, steps, what stays true. Nothing here speaks of the program. -/
namespace Go.Proofs.Yticifjmkocgipaa.M

/-- A thread. -/
structure Th where
  stack : List (Nat × Nat)
  slots : List Nat
instance : Inhabited Th := ⟨⟨[], []⟩⟩
/-- A config. -/
structure Cf where
  ths : List Th
  owners : List Nat
def start : Cf := ⟨[⟨[(0, 0)], List.replicate 8 0⟩], List.replicate 16 0⟩
def th (c : Cf) (t : Nat) : Th := c.ths.getD t default
def livesN (c : Cf) (t : Nat) : Bool := decide (0 < (th c t).stack.length)
def lives (c : Cf) (t : Int) : Bool := decide (0 ≤ t) && livesN c t.toNat
def top (s : List (Nat × Nat)) : Nat × Nat := s.getD (s.length - 1) (0, 0)
def nodeAt (p : Pg) (x : Nat × Nat) : Nd := (p.fns.getD x.1 default).nodes.getD x.2 default
def node (p : Pg) (c : Cf) (t : Nat) : Nd := nodeAt p (top (th c t).stack)
def enabledN (p : Pg) (c : Cf) (t : Nat) : Bool :=
  livesN c t &&
    (if (node p c t).kind = 3 then decide (c.owners.getD (node p c t).arg.toNat 0 = 0)
     else if (node p c t).kind = 6 then !lives c (((th c t).slots.getD (node p c t).arg.toNat 0 : Int) - 1)
     else if (node p c t).kind = 5 then decide (c.ths.length < 8) else true)
def enabled (p : Pg) (c : Cf) (t : Int) : Bool := decide (0 ≤ t) && enabledN p c t.toNat
/-- The last place, at another node. -/
def goOn (s : List (Nat × Nat)) (n : Nat) : List (Nat × Nat) := s.set (s.length - 1) ((top s).1, n)
/-- What a thread that may does at a node. -/
def act (c : Cf) (t : Nat) (n : Nd) (way : Bool) : Cf :=
  if n.kind = 9 then ⟨c.ths.set t ⟨(th c t).stack.take ((th c t).stack.length - 1), (th c t).slots⟩, c.owners⟩
  else if n.kind = 3 then ⟨c.ths.set t ⟨goOn (th c t).stack n.next.toNat, (th c t).slots⟩, c.owners.set n.arg.toNat (t + 1)⟩
  else if n.kind = 4 then ⟨c.ths.set t ⟨goOn (th c t).stack n.next.toNat, (th c t).slots⟩, if c.owners.getD n.arg.toNat 0 = t + 1 then c.owners.set n.arg.toNat 0 else c.owners⟩
  else if n.kind = 5 then ⟨c.ths.set t ⟨goOn (th c t).stack n.next.toNat, (th c t).slots.set n.alt.toNat (c.ths.length + 1)⟩ ++ [⟨[(n.arg.toNat, 0)], List.replicate 8 0⟩], c.owners⟩
  else if n.kind = 7 then ⟨c.ths.set t ⟨goOn (th c t).stack n.next.toNat ++ [(n.arg.toNat, 0)], (th c t).slots⟩, c.owners⟩
  else if n.kind = 8 ∧ way = true then ⟨c.ths.set t ⟨goOn (th c t).stack n.alt.toNat, (th c t).slots⟩, c.owners⟩
  else ⟨c.ths.set t ⟨goOn (th c t).stack n.next.toNat, (th c t).slots⟩, c.owners⟩
def stepN (p : Pg) (c : Cf) (t : Nat) (way : Bool) : Cf := if enabledN p c t = true then act c t (node p c t) way else c
/-- Behind a pick. -/
def step (p : Pg) (c : Cf) (t : Int) (way : Bool) : Cf := if enabled p c t = true then act c t.toNat (node p c t.toNat) way else c
/-- The locks among the first n that thread t has, as a mask. -/
def heldTo (o : List Nat) (t : Nat) : Nat → Nat
  | 0 => 0
  | k + 1 => if o.getD k 0 = t + 1 then heldTo o t k ||| 2 ^ k else heldTo o t k
def held (c : Cf) (t : Int) : Nat := if 0 ≤ t ∧ t < (c.ths.length : Int) then heldTo c.owners t.toNat 16 else 0

theorem held_bit (o : List Nat) (t : Nat) : ∀ n k, (heldTo o t n).testBit k = decide (k < n ∧ o.getD k 0 = t + 1)
  | 0, k => by simp [heldTo]
  | n + 1, k => by
    have ih := held_bit o t n k
    unfold heldTo
    by_cases h : o.getD n 0 = t + 1
    · rw [if_pos h, Nat.testBit_or, ih, Nat.testBit_two_pow]
      by_cases e : n = k
      · subst e
        rw [decide_eq_true rfl, Bool.or_true, decide_eq_true (show n < n + 1 ∧ o.getD n 0 = t + 1 from ⟨by omega, h⟩)]
      · rw [decide_eq_false e, Bool.or_false]
        rw [Bool.eq_iff_iff]; simp only [decide_eq_true_eq]
        constructor
        · rintro ⟨a, b⟩; exact ⟨by omega, b⟩
        · rintro ⟨a, b⟩; exact ⟨by omega, b⟩
    · rw [if_neg h, ih, Bool.eq_iff_iff]; simp only [decide_eq_true_eq]
      constructor
      · rintro ⟨a, b⟩; exact ⟨by omega, b⟩
      · rintro ⟨a, b⟩
        refine ⟨?_, b⟩
        have : k ≠ n := fun e => h (by rw [← e]; exact b)
        omega
theorem held_lt (o : List Nat) (t : Nat) : ∀ n, heldTo o t n < 2 ^ n
  | 0 => by simp [heldTo]
  | n + 1 => by
    have ih := held_lt o t n
    have h2 : 2 ^ n < 2 ^ (n + 1) := Nat.pow_lt_pow_right (by decide) (by omega)
    unfold heldTo
    split
    · exact Nat.or_lt_two_pow (by omega) h2
    · omega
theorem held_ids (o : List Nat) (t n : Nat) : S.ids (heldTo o t n) n = (List.range n).filter fun k => decide (o.getD k 0 = t + 1) := by
  unfold S.ids
  refine List.filter_congr fun k hk => ?_
  rw [held_bit]
  simp [List.mem_range.1 hk]
theorem held_mask (o : List Nat) (t n : Nat) : S.mask ((List.range n).filter fun k => decide (o.getD k 0 = t + 1)) = heldTo o t n := by
  rw [← held_ids, S.mask_ids, Nat.mod_eq_of_lt (held_lt o t n)]

/-- Each function calls the next one. -/
def Linked (p : Pg) (l : List Nat) : Prop := ∀ i a b, l[i]? = some a → l[i + 1]? = some b → Q.calls p a b
/-- What stays true behind all steps. -/
structure Good (p : Pg) (c : Cf) : Prop where
  one : 1 ≤ c.ths.length
  most : c.ths.length ≤ 8
  owns : c.owners.length = 16
  own : ∀ o ∈ c.owners, o ≤ c.ths.length
  eight : ∀ x ∈ c.ths, x.slots.length = 8
  slot : ∀ x ∈ c.ths, ∀ s ∈ x.slots, s ≤ 8
  spot : ∀ x ∈ c.ths, ∀ f ∈ x.stack, ∃ fn, p.fns[f.1]? = some fn ∧ f.2 < fn.nodes.length
  chain : ∀ x ∈ c.ths, Linked p (x.stack.map (·.1))

theorem fine_node {p : Pg} (hf : Fine p) {f i : Nat} {fn : Fn} {x : Nd} (hfn : p.fns[f]? = some fn) (hx : fn.nodes[i]? = some x) : Q.may p.g p.l p.s p.len x fn.nodes.length = true :=
  (Q.fine_fn hfn (hf.nodes f (List.getElem?_eq_some_iff.1 hfn).1)).2.2 i x hx
theorem fine_len {p : Pg} (hf : Fine p) {f : Nat} {fn : Fn} (hfn : p.fns[f]? = some fn) : 0 < fn.nodes.length :=
  (Q.fine_fn hfn (hf.nodes f (List.getElem?_eq_some_iff.1 hfn).1)).1

/-- What a node that may be has, by its kind. -/
structure Fit (p : Pg) (x : Nd) (nodes : Nat) : Prop where
  kind : 0 ≤ x.kind ∧ x.kind ≤ 9
  next : 0 ≤ x.next
  nextLt : x.kind ≠ 9 → x.next < nodes
  alt : 0 ≤ x.alt
  arg : 0 ≤ x.arg
  lock : x.kind = 3 ∨ x.kind = 4 → x.arg < 16
  join : x.kind = 6 → x.arg < 8
  spawn : x.kind = 5 → x.arg < p.len ∧ x.alt < 8
  call : x.kind = 7 → x.arg < p.len
  branch : x.kind = 8 → x.alt < nodes
theorem fit_of {p : Pg} (hc : Q.Counts p) {x : Nd} {nodes : Nat} (h : Q.may p.g p.l p.s p.len x nodes = true) (h0 : 0 < nodes) : Fit p x nodes := by
  have hl := hc.l; have hs := hc.s
  unfold Q.may at h
  simp only [Bool.and_eq_true, decide_eq_true_eq, List.all_eq_true, List.mem_range] at h
  obtain ⟨hr, hall⟩ := h
  have hk : 0 ≤ x.kind ∧ x.kind ≤ 9 := by
    unfold Q.row at hr
    by_cases hb : x.kind < 0 ∨ 9 < x.kind
    · rw [if_pos hb] at hr; exact absurd rfl hr
    · omega
  have a0 := hall 0 (by omega)
  have a1 := hall 1 (by omega)
  have a2 := hall 2 (by omega)
  simp only [Q.fields, List.getD_cons_zero, List.getD_cons_succ] at a0 a1 a2
  have hrow : Q.row x.kind = Q.rows.getD x.kind.toNat [] := by unfold Q.row; rw [if_neg (by omega)]
  rw [hrow] at a0 a1 a2
  obtain ⟨k, hkk⟩ : ∃ k : Nat, x.kind = (k : Int) := ⟨x.kind.toNat, by omega⟩
  rw [hkk] at a0 a1 a2
  simp only [Int.toNat_natCast] at a0 a1 a2
  have hmax : max (nodes : Int) 1 = nodes := by omega
  have hk9 : k ≤ 9 := by omega
  have cases_ : k = 0 ∨ k = 1 ∨ k = 2 ∨ k = 3 ∨ k = 4 ∨ k = 5 ∨ k = 6 ∨ k = 7 ∨ k = 8 ∨ k = 9 := by omega
  rcases cases_ with rfl | rfl | rfl | rfl | rfl | rfl | rfl | rfl | rfl | rfl <;>
    simp [Q.rows, Q.size, hmax] at a0 a1 a2 <;>
    (refine ⟨hk, by omega, fun h => by omega, by omega, by omega, fun h => by omega, fun h => by omega, fun h => by omega, fun h => by omega, fun h => by omega⟩)

theorem th_mem {c : Cf} {t : Nat} (h : t < c.ths.length) : th c t ∈ c.ths := by
  unfold th; rw [List.getD_eq_getElem?_getD, List.getElem?_eq_getElem h]; exact List.getElem_mem h
theorem th_at {c : Cf} {t : Nat} (h : t < c.ths.length) : c.ths[t]? = some (th c t) := by
  unfold th; rw [List.getD_eq_getElem?_getD, List.getElem?_eq_getElem h]; rfl
theorem th_is {c : Cf} {t : Nat} {x : Th} (h : c.ths[t]? = some x) : th c t = x := by unfold th; rw [List.getD_eq_getElem?_getD, h]; rfl
theorem lives_lt {c : Cf} {t : Nat} (h : livesN c t = true) : t < c.ths.length := by
  rcases Nat.lt_or_ge t c.ths.length with h1 | h1
  · exact h1
  · exfalso
    unfold livesN th at h
    rw [List.getD_eq_getElem?_getD, List.getElem?_eq_none h1] at h
    exact absurd h (by decide)
theorem top_mem {s : List (Nat × Nat)} (h : 0 < s.length) : top s ∈ s := by
  unfold top; rw [List.getD_eq_getElem?_getD, List.getElem?_eq_getElem (by omega)]; exact List.getElem_mem _
theorem top_at {s : List (Nat × Nat)} (h : 0 < s.length) : s[s.length - 1]? = some (top s) := by
  unfold top; rw [List.getD_eq_getElem?_getD, List.getElem?_eq_getElem (by omega)]; rfl
theorem enabled_lives {p : Pg} {c : Cf} {t : Nat} (h : enabledN p c t = true) : livesN c t = true := by
  unfold enabledN at h; rw [Bool.and_eq_true] at h; exact h.1
/-- The node where a thread is that lives. -/
theorem node_is {p : Pg} {c : Cf} (hg : Good p c) {t : Nat} (h : livesN c t = true) :
    ∃ fn, p.fns[(top (th c t).stack).1]? = some fn ∧ (top (th c t).stack).2 < fn.nodes.length ∧ fn.nodes[(top (th c t).stack).2]? = some (node p c t) := by
  have ht := lives_lt h
  have hs : 0 < (th c t).stack.length := by unfold livesN at h; simpa using h
  obtain ⟨fn, h1, h2⟩ := hg.spot _ (th_mem ht) _ (top_mem hs)
  refine ⟨fn, h1, h2, ?_⟩
  unfold node nodeAt
  have e : p.fns.getD (top (th c t).stack).1 default = fn := by rw [List.getD_eq_getElem?_getD, h1]; rfl
  rw [e, List.getD_eq_getElem?_getD, List.getElem?_eq_getElem h2]; rfl
theorem node_fit {p : Pg} (hf : Fine p) {c : Cf} (hg : Good p c) {t : Nat} (h : livesN c t = true) {fn : Fn} (hfn : p.fns[(top (th c t).stack).1]? = some fn) : Fit p (node p c t) fn.nodes.length := by
  obtain ⟨fn', h1, h2, h3⟩ := node_is hg h
  rw [hfn] at h1; cases h1
  exact fit_of hf.counts (fine_node hf hfn h3) (fine_len hf hfn)

/-- Lists all apart, below n: at most n. -/
theorem nodup_le : ∀ (n : Nat) (l : List Nat), l.Nodup → (∀ x ∈ l, x < n) → l.length ≤ n
  | 0, l, _, h => by
    cases l with
    | nil => simp
    | cons x l => exact absurd (h x (by simp)) (by omega)
  | n + 1, l, hn, h => by
    by_cases hm : n ∈ l
    · have := nodup_le n (l.erase n) (hn.erase n) fun x hx => by
        have h1 := (hn.mem_erase_iff).1 hx
        have := h x h1.2
        have := h1.1
        omega
      rw [List.length_erase_of_mem hm] at this
      omega
    · have := nodup_le n l hn fun x hx => by
        have := h x hx
        have : x ≠ n := fun e => hm (e ▸ hx)
        omega
      omega
theorem chain_reach {p : Pg} (hf : Fine p) (hl : p.fns.length = p.len) {s : List Nat} (hc : Linked p s) :
    ∀ (d i a b : Nat), s[i]? = some a → s[i + d + 1]? = some b → Q.Reach (Q.calls p) p.fns.length a b
  | 0, i, a, b, ha, hb => .one (hc i a b ha hb)
  | d + 1, i, a, b, ha, hb => by
    have hlt : i + d + 1 + 1 < s.length := by
      have := (List.getElem?_eq_some_iff.1 hb).1; omega
    have hm := List.getElem?_eq_getElem (show i + 1 < s.length by omega)
    have h1 := hc i a _ ha hm
    refine .more h1 (fine_in hf hl h1) (chain_reach hf hl hc d (i + 1) _ b hm ?_)
    rw [show i + 1 + d + 1 = i + (d + 1) + 1 by omega]; exact hb
/-- No stack is higher than there are functions. -/
theorem high {p : Pg} (hf : Fine p) (hl : p.fns.length = p.len) {c : Cf} (hg : Good p c) {x : Th} (hx : x ∈ c.ths) : x.stack.length ≤ p.fns.length := by
  have := nodup_le p.fns.length (x.stack.map (·.1)) ?_ ?_
  · simpa using this
  · rw [List.nodup_iff_pairwise_ne, List.pairwise_iff_getElem]
    intro i j hi hj hij e
    have hr := chain_reach hf hl (hg.chain x hx) (j - i - 1) i _ _ (List.getElem?_eq_getElem hi) (by rw [show i + (j - i - 1) + 1 = j by omega]; exact List.getElem?_eq_getElem hj)
    rw [e] at hr
    obtain ⟨f, hfm, hfe⟩ := List.mem_map.1 (List.getElem_mem hj)
    obtain ⟨fn, h1, _⟩ := hg.spot x hx f hfm
    rw [← hfe] at hr
    exact fine_acyclic hf hl _ (List.getElem?_eq_some_iff.1 h1).1 hr
  · intro y hy
    obtain ⟨f, hfm, rfl⟩ := List.mem_map.1 hy
    obtain ⟨fn, h1, _⟩ := hg.spot x hx f hfm
    exact (List.getElem?_eq_some_iff.1 h1).1

theorem good_start {p : Pg} (hf : Fine p) : Good p start := by
  have h1 := hf.counts.f.1
  refine ⟨by simp [start], by simp [start], by simp [start], fun o ho => ?_, fun x hx => ?_, fun x hx s hs => ?_, fun x hx f hfm => ?_, fun x hx => ?_⟩
  · have := List.eq_of_mem_replicate ho; omega
  · have e := List.mem_singleton.1 hx; subst e; rfl
  · have e := List.mem_singleton.1 hx; subst e
    have := List.eq_of_mem_replicate hs; omega
  · have e := List.mem_singleton.1 hx; subst e
    have e := List.mem_singleton.1 hfm; subst e
    have h2 := List.getElem?_eq_getElem h1
    exact ⟨_, h2, fine_len hf h2⟩
  · have e := List.mem_singleton.1 hx; subst e
    intro i a b _ hb
    simp at hb
theorem goOn_len (s : List (Nat × Nat)) (n : Nat) : (goOn s n).length = s.length := by unfold goOn; rw [List.length_set]
theorem goOn_fst (s : List (Nat × Nat)) (n : Nat) : (goOn s n).map (·.1) = s.map (·.1) := by
  apply List.ext_getElem?
  intro i
  unfold goOn
  rw [List.getElem?_map, List.getElem?_map, List.getElem?_set]
  by_cases e : s.length - 1 = i
  · subst e
    rw [if_pos rfl]
    by_cases h : s.length - 1 < s.length
    · rw [if_pos h, List.getElem?_eq_getElem h]
      simp [top, List.getD_eq_getElem?_getD, List.getElem?_eq_getElem h]
    · rw [if_neg h, List.getElem?_eq_none (by omega)]
  · rw [if_neg e]
theorem goOn_mem {s : List (Nat × Nat)} {n : Nat} {f : Nat × Nat} (h : f ∈ goOn s n) : f ∈ s ∨ f = ((top s).1, n) := List.mem_or_eq_of_mem_set h
/-- One thread is another one, behind which the config still is good. -/
theorem good_set {p : Pg} {c : Cf} (hg : Good p c) (t : Nat) (s : List (Nat × Nat)) (sl ow : List Nat) (h8 : sl.length = 8) (hs8 : ∀ x ∈ sl, x ≤ 8) (hsp : ∀ f ∈ s, ∃ fn, p.fns[f.1]? = some fn ∧ f.2 < fn.nodes.length)
    (hch : Linked p (s.map (·.1))) (h16 : ow.length = 16) (how : ∀ o ∈ ow, o ≤ c.ths.length) : Good p ⟨c.ths.set t ⟨s, sl⟩, ow⟩ := by
  have key : ∀ x ∈ c.ths.set t ⟨s, sl⟩, x ∈ c.ths ∨ x = ⟨s, sl⟩ := fun x hx => List.mem_or_eq_of_mem_set hx
  refine ⟨by simpa using hg.one, by simpa using hg.most, h16, by simpa using how, fun x hx => ?_, fun x hx => ?_, fun x hx => ?_, fun x hx => ?_⟩
  · rcases key x hx with h | rfl
    · exact hg.eight x h
    · exact h8
  · rcases key x hx with h | rfl
    · exact hg.slot x h
    · exact hs8
  · rcases key x hx with h | rfl
    · exact hg.spot x h
    · exact hsp
  · rcases key x hx with h | rfl
    · exact hg.chain x h
    · exact hch
theorem mem_set_le {l : List Nat} {k v b : Nat} (h : ∀ x ∈ l, x ≤ b) (hv : v ≤ b) : ∀ x ∈ l.set k v, x ≤ b := fun x hx => by
  rcases List.mem_or_eq_of_mem_set hx with h1 | rfl
  · exact h x h1
  · exact hv
theorem linked_snoc {p : Pg} {l : List Nat} (h : Linked p l) {y : Nat} (hy : ∀ a, l[l.length - 1]? = some a → Q.calls p a y) : Linked p (l ++ [y]) := by
  intro i a b ha hb
  have hlt := (List.getElem?_eq_some_iff.1 hb).1
  simp only [List.length_append, List.length_singleton] at hlt
  rw [List.getElem?_append_left (by omega)] at ha
  by_cases e : i + 1 < l.length
  · rw [List.getElem?_append_left e] at hb
    exact h i a b ha hb
  · have e2 : i = l.length - 1 := by omega
    rw [List.getElem?_append_right (by omega)] at hb
    have e3 : i + 1 - l.length = 0 := by omega
    rw [e3] at hb
    simp at hb
    subst hb
    exact hy a (by rw [← e2]; exact ha)
theorem good_act {p : Pg} (hf : Fine p) (hl : p.fns.length = p.len) {c : Cf} (hg : Good p c) {t : Nat} (he : enabledN p c t = true) (way : Bool) : Good p (act c t (node p c t) way) := by
  have hlv := enabled_lives he
  have ht := lives_lt hlv
  have hm := th_mem ht
  have hs0 : 0 < (th c t).stack.length := by unfold livesN at hlv; simpa using hlv
  obtain ⟨fn, hfn, hin, hnd⟩ := node_is hg hlv
  have hfit := node_fit hf hg hlv hfn
  obtain ⟨n, hn⟩ : ∃ n, node p c t = n := ⟨_, rfl⟩
  rw [hn] at hfit hnd
  have e8 := hg.eight _ hm
  have s8 := hg.slot _ hm
  have spot : ∀ m : Nat, m < fn.nodes.length → ∀ f ∈ goOn (th c t).stack m, ∃ fn, p.fns[f.1]? = some fn ∧ f.2 < fn.nodes.length := fun m hm2 f hfm => by
    rcases goOn_mem hfm with h | rfl
    · exact hg.spot _ hm f h
    · exact ⟨fn, hfn, hm2⟩
  have chain : ∀ m : Nat, Linked p ((goOn (th c t).stack m).map (·.1)) := fun m => by rw [goOn_fst]; exact hg.chain _ hm
  have hk := hfit.kind
  have h0 := hfit.next; have h1 := hfit.nextLt; have ha := hfit.arg
  unfold act
  rw [hn]
  by_cases k9 : n.kind = 9
  · rw [if_pos k9]
    refine good_set hg t _ _ _ e8 s8 (fun f hfm => hg.spot _ hm f (List.mem_of_mem_take hfm)) ?_ hg.owns hg.own
    intro i a b hA hB
    rw [List.map_take] at hA hB
    have hlt := (List.getElem?_eq_some_iff.1 hB).1
    rw [List.length_take] at hlt
    rw [List.getElem?_take, if_pos (by omega)] at hA hB
    exact hg.chain _ hm i a b hA hB
  rw [if_neg k9]
  have hnx : n.next.toNat < fn.nodes.length := by have := h1 k9; omega
  by_cases k3 : n.kind = 3
  · rw [if_pos k3]
    exact good_set hg t _ _ _ e8 s8 (spot _ hnx) (chain _) (by rw [List.length_set]; exact hg.owns) (mem_set_le hg.own (by omega))
  rw [if_neg k3]
  by_cases k4 : n.kind = 4
  · rw [if_pos k4]
    refine good_set hg t _ _ _ e8 s8 (spot _ hnx) (chain _) ?_ ?_
    · split
      · rw [List.length_set]; exact hg.owns
      · exact hg.owns
    · split
      · exact mem_set_le hg.own (by omega)
      · exact hg.own
  rw [if_neg k4]
  by_cases k5 : n.kind = 5
  · rw [if_pos k5]
    have h8 : c.ths.length < 8 := by
      unfold enabledN at he
      rw [hn, if_neg k3, if_neg (by omega), if_pos k5] at he
      rw [Bool.and_eq_true, decide_eq_true_eq] at he
      exact he.2
    have hG := good_set hg t (goOn (th c t).stack n.next.toNat) ((th c t).slots.set n.alt.toNat (c.ths.length + 1)) c.owners (by rw [List.length_set]; exact e8) (mem_set_le s8 (by omega)) (spot _ hnx) (chain _) hg.owns hg.own
    have hsp := hfit.spawn k5
    have h2 : n.arg.toNat < p.fns.length := by omega
    have h3 := List.getElem?_eq_getElem h2
    refine ⟨by simp, by simp; omega, hg.owns, fun o ho => ?_, fun x hx => ?_, fun x hx => ?_, fun x hx => ?_, fun x hx => ?_⟩
    · have := hg.own o ho
      simp; omega
    all_goals rcases List.mem_append.1 hx with h | h
    · exact hG.eight x h
    · have e := List.mem_singleton.1 h; subst e; rfl
    · exact hG.slot x h
    · have e := List.mem_singleton.1 h; subst e
      intro s hs
      have := List.eq_of_mem_replicate hs; omega
    · exact hG.spot x h
    · have e := List.mem_singleton.1 h; subst e
      intro f hfm
      have e := List.mem_singleton.1 hfm; subst e
      exact ⟨_, h3, fine_len hf h3⟩
    · exact hG.chain x h
    · have e := List.mem_singleton.1 h; subst e
      intro i a b _ hb
      simp at hb
  rw [if_neg k5]
  by_cases k7 : n.kind = 7
  · rw [if_pos k7]
    have hcl : Q.calls p (top (th c t).stack).1 n.arg.toNat := ⟨fn, hfn, n, List.mem_of_getElem? hnd, k7, by omega⟩
    have h2 := fine_in hf hl hcl
    have h3 := List.getElem?_eq_getElem h2
    refine good_set hg t _ _ _ e8 s8 (fun f hfm => ?_) ?_ hg.owns hg.own
    · rcases List.mem_append.1 hfm with h | h
      · exact spot _ hnx f h
      · have e := List.mem_singleton.1 h; subst e
        exact ⟨_, h3, fine_len hf h3⟩
    · rw [List.map_append]
      refine linked_snoc (chain _) fun a ha2 => ?_
      rw [goOn_fst, List.length_map, List.getElem?_map, top_at hs0] at ha2
      cases ha2
      exact hcl
  rw [if_neg k7]
  by_cases k8 : n.kind = 8 ∧ way = true
  · rw [if_pos k8]
    have := hfit.branch k8.1
    have := hfit.alt
    exact good_set hg t _ _ _ e8 s8 (spot _ (by omega)) (chain _) hg.owns hg.own
  · rw [if_neg k8]
    exact good_set hg t _ _ _ e8 s8 (spot _ hnx) (chain _) hg.owns hg.own
theorem good_step {p : Pg} (hf : Fine p) (hl : p.fns.length = p.len) {c : Cf} (hg : Good p c) (t : Int) (way : Bool) : Good p (step p c t way) := by
  unfold step
  split
  · rename_i h
    unfold enabled at h
    rw [Bool.and_eq_true] at h
    exact good_act hf hl hg h.2 way
  · exact hg
end Go.Proofs.Yticifjmkocgipaa.M
