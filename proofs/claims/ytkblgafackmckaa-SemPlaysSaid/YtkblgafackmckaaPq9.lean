/- ProgLaw2, ProgOrd, SetMath, in one text. -/
import Derived.Test.YtkblgafackmckaaPq8
import Derived.Test.YtkblgafackmckaaProgRef5
import Derived.WalkKit
/- What a program that may be has, on plain data. -/
namespace Go.Proofs.Ytkblgafackmckaa
open Go.RowKit

theorem firstIdx_not {P : Nat → Prop} : ∀ {n : Nat}, Q.firstIdx P n = none → ∀ j, j < n → ¬ P j
  | 0, _, j, hj => by omega
  | n + 1, h, j, hj => by
    simp only [Q.firstIdx] at h
    cases hf : Q.firstIdx P n with
    | some k => rw [hf] at h; cases h
    | none =>
      rw [hf] at h
      simp only at h
      split at h
      · cases h
      · rename_i hp
        by_cases hjn : j = n
        · subst hjn; exact hp
        · exact firstIdx_not hf j (by omega)
theorem firstIdx_is {P : Nat → Prop} : ∀ {n i : Nat}, Q.firstIdx P n = some i → i < n ∧ P i
  | 0, i, h => by cases h
  | n + 1, i, h => by
    simp only [Q.firstIdx] at h
    cases hf : Q.firstIdx P n with
    | some k =>
      rw [hf] at h
      cases h
      obtain ⟨h1, h2⟩ := firstIdx_is hf
      exact ⟨by omega, h2⟩
    | none =>
      rw [hf] at h
      simp only at h
      split at h
      · rename_i hp
        cases h
        exact ⟨by omega, hp⟩
      · cases h

/-- A program that may be. -/
structure Fine (p : Pg) : Prop where
  counts : Q.Counts p
  nodes : ∀ j, j < p.fns.length → ¬ Q.badFn p j
  round : ∀ j, j < p.fns.length → ¬ Q.badRound p j
theorem fine_of {p : Pg} {a b : Int} (h : Q.check p = (a, b, 0)) : Fine p := by
  unfold Q.check at h
  split at h
  · cases h
  · split at h
    · cases h
    · rename_i h1 h2
      split at h
      · rename_i f hf
        exfalso
        obtain ⟨hlt, fn, hfn, hb⟩ := firstIdx_is hf
        have e : p.fns.getD f default = fn := by rw [List.getD_eq_getElem?_getD, hfn]; rfl
        rw [e] at h
        have := congrArg (fun x : Int × Int × Nat => x.2.2) h
        exact hb this
      · rename_i hf
        split at h
        · cases h
        · rename_i hr
          exact ⟨⟨by omega, by omega, by omega, by omega⟩, firstIdx_not hf, firstIdx_not hr⟩

theorem size_mono {g l s g' l' s' f : Int} (hg : g ≤ g') (hl : l ≤ l') (hs : s ≤ s') (c : Nat) (nodes : Int) : Q.size g l s f c nodes ≤ Q.size g' l' s' f c nodes := by
  unfold Q.size
  repeat' split
  all_goals omega
theorem may_mono {g l s g' l' s' f : Int} (hg : g ≤ g') (hl : l ≤ l') (hs : s ≤ s') (x : Nd) (nodes : Int) (h : Q.may g l s f x nodes = true) : Q.may g' l' s' f x nodes = true := by
  unfold Q.may at *
  rw [Bool.and_eq_true] at *
  refine ⟨h.1, List.all_eq_true.2 fun i hi => ?_⟩
  have h1 := List.all_eq_true.1 h.2 i hi
  simp only [decide_eq_true_eq] at *
  have h2 := size_mono (f := f) hg hl hs ((Q.row x.kind).getD i 0) nodes
  exact ⟨h1.1, by omega⟩
/-- More globals, locks and slots. -/
def more (p : Pg) (g l s : Int) : Pg := { p with g := g, l := l, s := s }
theorem more_long {p : Pg} {g l s : Int} (h : Fine p) (hg : p.g ≤ g) (hl : p.l ≤ l) (hs : p.s ≤ s) (hb : 16 < g ∨ 16 < l ∨ 8 < s) : Q.check (more p g l s) = (-1, -1, 4) := by
  unfold Q.check
  have h1 := h.counts.g; have h2 := h.counts.l; have h3 := h.counts.s; have h4 := h.counts.f
  rw [if_neg (by simp only [more]; omega), if_pos (by simp only [more]; omega)]
theorem more_fine {p : Pg} {g l s : Int} (h : Fine p) (hg : p.g ≤ g) (hl : p.l ≤ l) (hs : p.s ≤ s) (hg2 : g ≤ 16) (hl2 : l ≤ 16) (hs2 : s ≤ 8) : Q.check (more p g l s) = (0, 0, 0) := by
  have h1 := h.counts.g; have h2 := h.counts.l; have h3 := h.counts.s; have h4 := h.counts.f
  refine Q.check_fine ⟨by simp only [more]; omega, by simp only [more]; omega, by simp only [more]; omega, by simp only [more]; omega⟩ ?_ ?_
  · rintro j hj ⟨fn, hfn, hb⟩
    obtain ⟨f1, f2, f3⟩ := Q.fine_fn (p := p) hfn (h.nodes j hj)
    refine hb ?_
    rw [Q.fault_none _ _ (by omega) f2 ?_]
    rintro i hi ⟨nd, hnd, hm⟩
    have h5 := may_mono hg hl hs nd fn.nodes.length (f3 i nd hnd)
    have hm' : Q.may g l s p.len nd fn.nodes.length = false := hm
    rw [h5] at hm'; cases hm'
  · rintro j hj ⟨i, hr⟩
    exact h.round j hj ⟨i, hr⟩
theorem more_small (p : Pg) (g l s : Int) : Q.small (more p g l s) = Q.small p := rfl
theorem more_ok {p : Pg} {g l s : Int} {w : World} {B : Nat} (h : p.Ok w B) (hg : I64 g) (hl : I64 l) (hs : I64 s) : (more p g l s).Ok w B := ⟨hg, hl, hs, h.row, h.fns, h.lc, h.cm, h.nil⟩

/-- Where a node that may be goes on. -/
theorem may_next {g l s f : Int} {x : Nd} {nodes : Nat} (h : Q.may g l s f x nodes = true) (h0 : 0 < nodes) : ∀ y ∈ Q.succ x, 0 ≤ y ∧ y < (nodes : Int) := by
  unfold Q.may at h
  rw [Bool.and_eq_true] at h
  have hrow : Q.row x.kind ≠ [] := by simpa using h.1
  have hk : 0 ≤ x.kind ∧ x.kind ≤ 9 := by
    unfold Q.row at hrow
    split at hrow
    · exact absurd rfl hrow
    · omega
  have a1 := List.all_eq_true.1 h.2 1 (by simp)
  have a2 := List.all_eq_true.1 h.2 2 (by simp)
  simp only [decide_eq_true_eq] at a1 a2
  obtain ⟨k0, k9⟩ := hk
  obtain ⟨kk, hkk⟩ : ∃ kk : Nat, x.kind = (kk : Int) := ⟨x.kind.toNat, by omega⟩
  have hk10 : kk ≤ 9 := by omega
  intro y hy
  unfold Q.succ at hy
  unfold Q.row at a1 a2
  rw [if_neg (by omega), hkk, Int.toNat_natCast] at a1 a2
  rw [hkk] at hy
  have hcases : kk = 0 ∨ kk = 1 ∨ kk = 2 ∨ kk = 3 ∨ kk = 4 ∨ kk = 5 ∨ kk = 6 ∨ kk = 7 ∨ kk = 8 ∨ kk = 9 := by omega
  rcases hcases with e | e | e | e | e | e | e | e | e | e <;> subst e <;> simp [Q.rows, Q.fields, Q.size] at a1 a2 hy <;> omega
end Go.Proofs.Ytkblgafackmckaa

/- Functions taken out one by one, those that call nobody who is left: all are taken out (plain data). -/
namespace Go.Proofs.Ytkblgafackmckaa
open Go.RowKit

/-- How many below len. -/
def cnt (P : Nat → Bool) : Nat → Nat
  | 0 => 0
  | n + 1 => cnt P n + (if P n then 1 else 0)
theorem cnt_le (P : Nat → Bool) : ∀ n, cnt P n ≤ n
  | 0 => Nat.le_refl _
  | n + 1 => by have := cnt_le P n; simp only [cnt]; split <;> omega
theorem cnt_congr {P P' : Nat → Bool} : ∀ n, (∀ g, g < n → P g = P' g) → cnt P n = cnt P' n
  | 0, _ => rfl
  | n + 1, h => by simp only [cnt]; rw [cnt_congr n fun g hg => h g (by omega), h n (by omega)]
theorem cnt_mono {P P' : Nat → Bool} : ∀ n, (∀ g, g < n → P g = true → P' g = true) → cnt P n ≤ cnt P' n
  | 0, _ => Nat.le_refl _
  | n + 1, h => by
    have h1 := cnt_mono n fun g hg => h g (by omega)
    have h2 := h n (by omega)
    simp only [cnt]
    by_cases hp : P n = true
    · rw [if_pos hp, if_pos (h2 hp)]; omega
    · rw [if_neg hp]; omega
theorem cnt_lt {P P' : Nat → Bool} {f : Nat} : ∀ n, (∀ g, g < n → P g = true → P' g = true) → f < n → P f = false → P' f = true → cnt P n < cnt P' n
  | 0, _, hf, _, _ => by omega
  | n + 1, h, hf, h1, h2 => by
    by_cases hfn : f = n
    · subst hfn
      have h3 := cnt_mono f fun g hg => h g (by omega)
      simp only [cnt]
      rw [if_neg (by rw [h1]; decide), if_pos h2]; omega
    · have h3 := cnt_lt (f := f) n (fun g hg => h g (by omega)) (by omega) h1 h2
      have h4 := h n (by omega)
      simp only [cnt]
      by_cases hp : P n = true
      · rw [if_pos hp, if_pos (h4 hp)]; omega
      · rw [if_neg hp]; omega
theorem cnt_set {P P' : Nat → Bool} {f : Nat} : ∀ n, f < n → P f = false → P' f = true → (∀ g, g ≠ f → P' g = P g) → cnt P' n = cnt P n + 1
  | 0, hf, _, _, _ => by omega
  | n + 1, hf, h1, h2, h3 => by
    by_cases hfn : f = n
    · subst hfn
      simp only [cnt]
      rw [cnt_congr f fun g hg => h3 g (by omega), h1, h2]; simp
    · simp only [cnt]
      rw [cnt_set n (by omega) h1 h2 h3, h3 n (fun e => hfn e.symm)]; omega
theorem cnt_miss {P : Nat → Bool} : ∀ n, cnt P n < n → ∃ g, g < n ∧ P g = false
  | 0, h => by omega
  | n + 1, h => by
    by_cases hp : P n = true
    · simp only [cnt] at h
      rw [if_pos hp] at h
      obtain ⟨g, hg, h1⟩ := cnt_miss (P := P) n (by omega)
      exact ⟨g, by omega, h1⟩
    · exact ⟨n, by omega, by simpa using hp⟩

/-- Is it so? -/
noncomputable def dec (P : Prop) : Bool := @decide P (Classical.propDecidable P)
theorem dec_true {P : Prop} : dec P = true ↔ P := by unfold dec; exact @decide_eq_true_iff P (Classical.propDecidable P)
theorem dec_false {P : Prop} : dec P = false ↔ ¬ P := by unfold dec; exact @decide_eq_false_iff_not P (Classical.propDecidable P)
/-- Where nobody comes to itself, somebody of a set calls nobody of it. -/
theorem least_caller {R : Nat → Nat → Prop} {n : Nat} (hac : ∀ x, x < n → ¬ Q.Reach R n x x) : ∀ (k : Nat) (U : Nat → Bool), cnt U n ≤ k → (∀ g, U g = true → g < n) → (∃ f, U f = true) → ∃ f, U f = true ∧ ∀ y, R f y → U y = false
  | 0, U, hk, hU, ⟨f, hf⟩ => by
    exfalso
    have h1 : cnt (fun _ => false) n < cnt U n := cnt_lt (f := f) n (fun g _ h => by cases h) (hU f hf) rfl hf
    omega
  | k + 1, U, hk, hU, ⟨f, hf⟩ => by
    by_cases hno : ∀ y, R f y → U y = false
    · exact ⟨f, hf, hno⟩
    · have hno2 : ∃ y, R f y ∧ U y = true := by
        refine Classical.byContradiction fun h => hno fun y hy => ?_
        cases hu : U y
        · rfl
        · exact absurd ⟨y, hy, hu⟩ h
      obtain ⟨y, hy, hyu⟩ := hno2
      have hlt : cnt (fun g => U g && dec (Q.Reach R n f g)) n < cnt U n :=
        cnt_lt (f := f) n (fun g _ h => by rw [Bool.and_eq_true] at h; exact h.1) (hU f hf) (by simp only [hf, Bool.true_and]; exact dec_false.2 (hac f (hU f hf))) hf
      obtain ⟨g, hg, hgno⟩ := least_caller hac k (fun g => U g && dec (Q.Reach R n f g)) (by omega) (fun g h => hU g (by rw [Bool.and_eq_true] at h; exact h.1)) ⟨y, by simp only [hyu, Bool.true_and]; exact dec_true.2 (.one hy)⟩
      rw [Bool.and_eq_true] at hg
      obtain ⟨hgu, hfg⟩ := hg
      refine ⟨g, hgu, fun z hz => ?_⟩
      have h1 := hgno z hz
      cases hzu : U z
      · rfl
      · simp only [hzu, Bool.true_and] at h1
        exact absurd ((dec_true.1 hfg).trans (hU g hgu) (.one hz)) (dec_false.1 h1)

/-- How far a round is: out0 ahead of it, out now, f functions looked at. -/
structure OrdInv (R : Nat → Nat → Prop) (len : Nat) (o0 o : Nat → Bool) (f : Nat) : Prop where
  mono : ∀ g, o0 g = true → o g = true
  rest : ∀ g, f ≤ g → o g = o0 g
  done : ∀ g, g < f → (∀ y, R g y → o0 y = true) → o g = true
theorem OrdInv.start (R : Nat → Nat → Prop) (len : Nat) (o : Nat → Bool) : OrdInv R len o o 0 := ⟨fun _ h => h, fun _ _ => rfl, fun g h => by omega⟩
theorem OrdInv.skip {R : Nat → Nat → Prop} {len : Nat} {o0 o : Nat → Bool} {f : Nat} (h : OrdInv R len o0 o f) (hn : ¬ (o f = false ∧ ∀ y, R f y → o y = true)) : OrdInv R len o0 o (f + 1) := by
  refine ⟨h.mono, fun g hg => h.rest g (by omega), fun g hg hc => ?_⟩
  by_cases hgf : g = f
  · subst hgf
    cases ho : o g
    · exact absurd ⟨ho, fun y hy => h.mono y (hc y hy)⟩ hn
    · rfl
  · exact h.done g (by omega) hc
theorem OrdInv.take {R : Nat → Nat → Prop} {len : Nat} {o0 o o' : Nat → Bool} {f : Nat} (h : OrdInv R len o0 o f) (h1 : o' f = true) (h2 : ∀ g, g ≠ f → o' g = o g) : OrdInv R len o0 o' (f + 1) := by
  refine ⟨fun g hg => ?_, fun g hg => ?_, fun g hg hc => ?_⟩
  · by_cases hgf : g = f
    · subst hgf; exact h1
    · rw [h2 g hgf]; exact h.mono g hg
  · rw [h2 g (by omega)]; exact h.rest g (by omega)
  · by_cases hgf : g = f
    · subst hgf; exact h1
    · rw [h2 g hgf]; exact h.done g (by omega) hc
theorem OrdInv.gain {R : Nat → Nat → Prop} {len : Nat} {o0 o : Nat → Bool} (h : OrdInv R len o0 o len) (hac : ∀ x, x < len → ¬ Q.Reach R len x x) (hin : ∀ x y, R x y → y < len) (hlt : cnt o0 len < len) : cnt o0 len < cnt o len := by
  obtain ⟨g, hg, hg0⟩ := cnt_miss len hlt
  obtain ⟨f, hff, hno⟩ := least_caller hac len (fun g => decide (g < len) && !o0 g) (cnt_le _ _) (fun g h => by rw [Bool.and_eq_true] at h; simpa using h.1) ⟨g, by simp [hg, hg0]⟩
  rw [Bool.and_eq_true] at hff
  have hf : f < len := by simpa using hff.1
  have hf0 : o0 f = false := by simpa using hff.2
  refine cnt_lt (f := f) len (fun g _ hg => h.mono g hg) hf hf0 (h.done f hf fun y hy => ?_)
  cases hy0 : o0 y
  · have h1 := hno y hy
    simp [hin f y hy, hy0] at h1
  · rfl

/-- In a program that may be nobody comes to itself, and whoever is called is there. -/
theorem fine_in {p : Pg} (h : Fine p) (hl : p.fns.length = p.len) {x y : Nat} (hc : Q.calls p x y) : y < p.fns.length := by
  obtain ⟨f, hf, nd, hnd, h7, ha⟩ := hc
  have := (calls_fit h.nodes f (List.mem_of_getElem? hf) nd hnd h7).2
  omega
theorem fine_acyclic {p : Pg} (h : Fine p) (hl : p.fns.length = p.len) : ∀ x, x < p.fns.length → ¬ Q.Reach (Q.calls p) p.fns.length x x := by
  intro x hx hr
  refine h.round x hx ?_
  have key : ∀ y, Q.calls p x y → (y = x ∨ Q.Reach (Q.calls p) p.fns.length y x) → Q.badRound p x := by
    intro y hc hor
    have hy := fine_in h hl hc
    obtain ⟨f, hf, nd, hnd, h7, ha⟩ := hc
    obtain ⟨i, hi⟩ := List.mem_iff_getElem?.1 hnd
    exact ⟨i, f, nd, hf, hi, h7, y, ha, hy, hor⟩
  cases hr with
  | one hc => exact key x hc (.inl rfl)
  | more hc hj hr => exact key _ hc (.inr hr)
end Go.Proofs.Ytkblgafackmckaa

/- Sets of ids from 0 to 31 as masks, on plain numbers: nothing here speaks of the program. -/
namespace Go.Proofs.Ytkblgafackmckaa.S

def has (m : Nat) (id : Int) : Bool := decide (0 ≤ id ∧ id ≤ 31) && m.testBit id.toNat
theorem has_out (m : Nat) (id : Int) (h : id < 0 ∨ 31 < id) : has m id = false := by
  unfold has; rw [decide_eq_false (by omega)]; rfl
theorem has_in (m : Nat) (i : Nat) (h : i ≤ 31) : has m (i : Int) = m.testBit i := by
  unfold has; rw [decide_eq_true (by omega)]; simp
theorem bit_div (m i : Nat) : m.testBit i = decide (m / 2 ^ i % 2 = 1) := Nat.testBit_eq_decide_div_mod_eq
/-- All ids of a set. -/
def ids (m : Nat) (n : Nat) : List Nat := (List.range n).filter fun i => m.testBit i
theorem ids_succ (m n : Nat) : ids m (n + 1) = ids m n ++ (if m.testBit n then [n] else []) := by
  unfold ids
  rw [List.range_succ, List.filter_append]
  by_cases h : m.testBit n <;> simp [h]
theorem ids_len (m n : Nat) : (ids m n).length ≤ n := by
  have := List.length_filter_le (fun i => m.testBit i) (List.range n)
  simpa [ids] using this
theorem ids_mem (m n x : Nat) : x ∈ ids m n ↔ x < n ∧ m.testBit x = true := by simp [ids]

/-- The sum of the ids' values. -/
def mask (l : List Nat) : Nat := (l.map (2 ^ ·)).sum
theorem mask_snoc (l : List Nat) (x : Nat) : mask (l ++ [x]) = mask l + 2 ^ x := by simp [mask]
theorem mask_le (l : List Nat) (h : ∀ x ∈ l, x ≤ 31) : mask l ≤ l.length * 2147483648 := by
  induction l with
  | nil => simp [mask]
  | cons x r ih =>
    have h1 := ih fun y hy => h y (by simp [hy])
    have h2 : 2 ^ x ≤ 2 ^ 31 := Nat.pow_le_pow_right (by decide) (h x (by simp))
    simp only [mask, List.map_cons, List.sum_cons, List.length_cons] at *
    omega
/-- The first n ids of a set make its lowest n bits. -/
theorem mask_ids (m : Nat) : ∀ n, mask (ids m n) = m % 2 ^ n
  | 0 => by simp [mask, ids, Nat.mod_one]
  | n + 1 => by
    have hb := bit_div m n
    have hm : m / 2 ^ n % 2 = 0 ∨ m / 2 ^ n % 2 = 1 := by omega
    rw [ids_succ, Nat.mod_pow_succ, ← mask_ids m n]
    rcases hm with h | h
    · rw [h] at hb ⊢
      rw [if_neg (by rw [hb]; decide), List.append_nil]; simp
    · rw [h] at hb ⊢
      rw [if_pos (by rw [hb]; decide), mask_snoc]; simp

/-- All of a in b? -/
def within (a b n : Nat) : Bool := (List.range n).all fun i => !a.testBit i || b.testBit i
theorem within_succ (a b n : Nat) : within a b (n + 1) = (within a b n && (!a.testBit n || b.testBit n)) := by
  simp [within, List.range_succ, List.all_append]

/-- What is wrong at place i of a list. -/
def bad (l : List Int) (size : Int) (i : Nat) : Nat :=
  let x := l.getD i 0
  if x < 0 ∨ size ≤ x ∨ 31 < x then 1 else if 0 < i ∧ x ≤ l.getD (i - 1) 0 then 5 else 0
/-- What is wrong first among the first n. -/
def first (l : List Int) (size : Int) : Nat → Nat
  | 0 => 0
  | n + 1 => if first l size n = 0 then bad l size n else first l size n
theorem first_zero (l : List Int) (size : Int) : ∀ n, first l size n = 0 → ∀ i, i < n → bad l size i = 0
  | 0, _, i, hi => by omega
  | n + 1, h, i, hi => by
    simp only [first] at h
    by_cases h0 : first l size n = 0
    · rw [if_pos h0] at h
      by_cases e : i = n
      · subst e; exact h
      · exact first_zero l size n h0 i (by omega)
    · rw [if_neg h0] at h; exact absurd h h0
theorem first_stays (l : List Int) (size : Int) (n : Nat) (h : first l size n ≠ 0) : ∀ k, first l size (n + k) = first l size n
  | 0 => rfl
  | k + 1 => by
    rw [← Nat.add_assoc]
    simp only [first]
    rw [first_stays l size n h k, if_neg h]

/-- How many ids. -/
def count (m : Nat) : Nat := (ids m 32).length
theorem ids_or_and (a b : Nat) : ∀ n, (ids a n).length + (ids b n).length = (ids (a ||| b) n).length + (ids (a &&& b) n).length
  | 0 => by simp [ids]
  | n + 1 => by
    have ih := ids_or_and a b n
    simp only [ids_succ, List.length_append, Nat.testBit_or, Nat.testBit_and]
    cases a.testBit n <;> cases b.testBit n <;> simp <;> omega
theorem count_or_and (a b : Nat) : count a + count b = count (a ||| b) + count (a &&& b) := ids_or_and a b 32
/-- The least id; -1 of none. -/
def least (m : Nat) : Int := match ids m 32 with | [] => -1 | x :: _ => (x : Int)
theorem bit_high (m i : Nat) (hm : m < 4294967296) (hi : 32 ≤ i) : m.testBit i = false :=
  Nat.testBit_lt_two_pow (Nat.lt_of_lt_of_le hm ((Nat.pow_le_pow_right (by decide) hi : 2 ^ 32 ≤ 2 ^ i)))
theorem within_iff (a b : Nat) : within a b 32 = true ↔ ∀ i, i < 32 → a.testBit i = true → b.testBit i = true := by
  simp only [within, List.all_eq_true, List.mem_range]
  constructor
  · intro h i hi ha
    have := h i hi
    rw [ha] at this; simpa using this
  · intro h i hi
    cases ha : a.testBit i
    · rfl
    · simp [h i hi ha]
theorem within_or (a b : Nat) (ha : a < 4294967296) (_ : b < 4294967296) : within a b 32 = decide (a ||| b = b) := by
  rw [Bool.eq_iff_iff, within_iff, decide_eq_true_iff]
  constructor
  · intro h
    apply Nat.eq_of_testBit_eq
    intro i
    rw [Nat.testBit_or]
    rcases Nat.lt_or_ge i 32 with hi | hi
    · cases h1 : a.testBit i
      · rfl
      · rw [h i hi h1]; rfl
    · rw [bit_high a i ha hi]; rfl
  · intro h i _ h1
    have := congrArg (·.testBit i) h
    simp only [Nat.testBit_or, h1, Bool.true_or] at this
    exact this.symm
theorem within_trans (a b c : Nat) (h1 : within a b 32 = true) (h2 : within b c 32 = true) : within a c 32 = true := by
  rw [within_iff] at *
  exact fun i hi h => h2 i hi (h1 i hi h)
theorem eq_of_bits (a b : Nat) (ha : a < 4294967296) (hb : b < 4294967296) (h : ∀ i, i < 32 → a.testBit i = b.testBit i) : a = b := by
  apply Nat.eq_of_testBit_eq
  intro i
  rcases Nat.lt_or_ge i 32 with hi | hi
  · exact h i hi
  · rw [bit_high a i ha hi, bit_high b i hb hi]
theorem within_both (a b : Nat) (ha : a < 4294967296) (hb : b < 4294967296) : (within a b 32 && within b a 32) = decide (a = b) := by
  rw [Bool.eq_iff_iff, Bool.and_eq_true, decide_eq_true_iff, within_iff, within_iff]
  constructor
  · rintro ⟨h1, h2⟩
    refine eq_of_bits a b ha hb fun i hi => ?_
    rw [Bool.eq_iff_iff]
    exact ⟨h1 i hi, h2 i hi⟩
  · rintro rfl
    exact ⟨fun _ _ h => h, fun _ _ h => h⟩
/-- The set of the ids below n. -/
def all (n : Int) : Nat := if n ≤ 0 then 0 else if 32 ≤ n then 4294967295 else 2 ^ n.toNat - 1
theorem all_nat (n : Nat) (h : n ≤ 32) : all (n : Int) = 2 ^ n - 1 := by
  unfold all
  by_cases h0 : n = 0
  · subst h0; rfl
  · rw [if_neg (by omega)]
    by_cases h1 : n = 32
    · subst h1; rfl
    · rw [if_neg (by omega), Int.toNat_natCast]
theorem all_bit (n i : Nat) (h : n ≤ 32) : (all (n : Int)).testBit i = decide (i < n) := by
  rw [all_nat n h, Nat.testBit_two_pow_sub_one]
theorem all_lt (n : Int) : all n < 4294967296 := by
  unfold all
  split
  · decide
  · split
    · decide
    · have : 2 ^ n.toNat ≤ 2 ^ 31 := Nat.pow_le_pow_right (by decide) (by omega)
      omega
/-- The set of that id alone. -/
def one (id : Int) : Nat := if 0 ≤ id ∧ id ≤ 31 then 2 ^ id.toNat else 0
theorem one_nat (i : Nat) (h : i ≤ 31) : one (i : Int) = 2 ^ i := by unfold one; rw [if_pos (by omega), Int.toNat_natCast]
theorem one_out (id : Int) (h : id < 0 ∨ 31 < id) : one id = 0 := by unfold one; rw [if_neg (by omega)]
theorem one_lt (id : Int) : one id < 4294967296 := by
  unfold one
  split
  · have : 2 ^ id.toNat ≤ 2 ^ 31 := Nat.pow_le_pow_right (by decide) (by omega)
    omega
  · decide
theorem ids_one (i : Nat) (h : i ≤ 31) : ids (2 ^ i) 32 = [i] := by
  have hn : ∀ n, ids (2 ^ i) n = if i < n then [i] else [] := by
    intro n
    induction n with
    | zero => simp [ids]
    | succ n ih =>
      rw [ids_succ, ih, Nat.testBit_two_pow]
      by_cases h1 : i < n
      · rw [if_pos h1, if_pos (show i < n + 1 by omega), if_neg (by simp; omega), List.append_nil]
      · rw [if_neg h1]
        by_cases h2 : i = n
        · rw [if_pos (by simpa using h2), if_pos (by omega), h2]; rfl
        · rw [if_neg (by simpa using h2), if_neg (by omega)]; rfl
  rw [hn, if_pos (by omega)]
theorem all_or_one (i : Nat) (h : i ≤ 31) : all (i : Int) ||| 2 ^ i = all ((i + 1 : Nat) : Int) := by
  apply Nat.eq_of_testBit_eq
  intro j
  rw [Nat.testBit_or, all_bit i j (by omega), all_bit (i + 1) j (by omega), Nat.testBit_two_pow]
  by_cases h1 : j < i
  · rw [decide_eq_true h1, decide_eq_true (by omega : j < i + 1)]; rfl
  · rw [decide_eq_false h1]
    by_cases h2 : i = j
    · rw [decide_eq_true h2, decide_eq_true (by omega : j < i + 1)]; rfl
    · rw [decide_eq_false h2, decide_eq_false (by omega)]; rfl
theorem all_and_one (i : Nat) (h : i ≤ 31) : all (i : Int) &&& 2 ^ i = 0 := by
  apply Nat.eq_of_testBit_eq
  intro j
  rw [Nat.testBit_and, all_bit i j (by omega), Nat.testBit_two_pow, Nat.zero_testBit]
  by_cases h1 : j < i
  · rw [decide_eq_true h1, decide_eq_false (by omega : ¬ i = j)]; rfl
  · rw [decide_eq_false h1]; rfl
/-- What is in all of the sets. -/
def meet (l : List Nat) : Nat := l.foldl (fun m x => m &&& x) 4294967295
theorem meet_snoc (l : List Nat) (x : Nat) : meet (l ++ [x]) = meet l &&& x := by simp [meet]
theorem meet_bit (l : List Nat) (i : Nat) (hi : i < 32) : (meet l).testBit i = l.all fun x => x.testBit i := by
  have h : ∀ (l : List Nat) (m : Nat), (l.foldl (fun m x => m &&& x) m).testBit i = (m.testBit i && l.all fun x => x.testBit i) := by
    intro l
    induction l with
    | nil => intro m; simp
    | cons x r ih => intro m; rw [List.foldl_cons, ih, Nat.testBit_and, List.all_cons, Bool.and_assoc]
  have e : (4294967295 : Nat).testBit i = true := by
    have := Nat.testBit_two_pow_sub_one 32 i
    rw [decide_eq_true hi] at this
    exact this
  unfold meet
  rw [h, e, Bool.true_and]
end Go.Proofs.Ytkblgafackmckaa.S
