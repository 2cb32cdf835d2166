/- ProgLaw1, ProgLaw2, ProgOrd, GraphOrd, GraphAfter, in one text. -/
import Derived.Test.YtfifnahcobjjdaaDoorProgP
import Derived.Test.YtfifnahcobjjdaaDoorProgRef5
import Derived.Test.YtfifnahcobjjdaaDoorGraphRef1
/- What the statements of prog begin with, walked: awake. -/
namespace Go.Proofs.YtfifnahcobjjdaaDoor
open Go.RowKit

/-- A program of one function of one node, as it is built. -/
def pgOne (g g2 : Nat) (x : Nd) : Pg := ⟨0, 0, 0, some ⟨g2, 0, none⟩, 1, 1, [⟨some ⟨g, 0, none⟩, 1, 1, [x]⟩]⟩
theorem pgOne_ok (x : Nd) (hx : x.Ok) (w : World) (g g2 : Nat) (h1 : Blk w g 42 (ndC x)) (h2 : Blk w g2 33 [.slice (some ⟨g, 0, none⟩) 1 1]) : (pgOne g g2 x).Ok w w.heap.size := by
  refine ⟨by unfold I64; simp [pgOne], by unfold I64; simp [pgOne], by unfold I64; simp [pgOne], ?_, ?_, Nat.le_refl _, by simp [pgOne, maxLen], fun h => by cases h⟩
  · exact Blk.row (f := fnV) (l := [⟨some ⟨g, 0, none⟩, 1, 1, [x]⟩]) h2 rfl (Nat.le_refl _)
  · intro f hf
    have hf1 : f = ⟨some ⟨g, 0, none⟩, 1, 1, [x]⟩ := by simpa [pgOne] using hf
    subst hf1
    refine ⟨⟨⟨rfl, fun _ => ⟨_, rfl, h1.lt, fun k y hy j hj => ?_⟩⟩, fun y hy => ?_⟩, Nat.le_refl _, by simp [maxLen], fun h => by cases h⟩
    · have hk : k = 0 := by
        have := (List.getElem?_eq_some_iff.1 hy).1
        simp at this; exact this
      subst hk
      have hyx : y = x := by simpa using hy.symm
      subst hyx
      rw [Nat.zero_mul, Nat.zero_add, add_start, h1.cell j]
      match j, hj with
      | 0, _ => rfl
      | 1, _ => rfl
      | 2, _ => rfl
      | 3, _ => rfl
    · rw [List.mem_singleton] at hy
      subst hy; exact hx
theorem pgOne_small (g g2 : Nat) (x : Nd) : Q.small (pgOne g g2 x) = true := by simp [Q.small, pgOne]
theorem pgOne_counts (g g2 : Nat) (x : Nd) : Q.Counts (pgOne g g2 x) := by constructor <;> simp [pgOne]
theorem pgOne_fine (g g2 : Nat) (x : Nd) (h : Q.may 0 0 0 1 x 1 = true) : ∀ j, j < (pgOne g g2 x).fns.length → ¬ Q.badFn (pgOne g g2 x) j := by
  rintro j hj ⟨fn, hfn, hb⟩
  have hj0 : j = 0 := by simpa [pgOne] using hj
  subst hj0
  have hf : fn = ⟨some ⟨g, 0, none⟩, 1, 1, [x]⟩ := by simpa [pgOne] using hfn.symm
  subst hf
  refine hb ?_
  rw [Q.fault_none _ _ (by simp) (by simp) ?_]
  rintro i hi ⟨nd, hnd, hm⟩
  have hi0 : i = 0 := by simpa using hi
  subst hi0
  have : nd = x := by simpa using hnd.symm
  subst this
  have hm' : Q.may 0 0 0 1 nd 1 = false := hm
  rw [h] at hm'
  cases hm'
theorem check_return (g g2 : Nat) : Q.check (pgOne g g2 ⟨9, 0, 0, 0⟩) = (0, 0, 0) := by
  refine Q.check_fine (pgOne_counts _ _ _) (pgOne_fine _ _ _ (by decide)) ?_
  rintro j hj ⟨i, fn, nd, hfn, hnd, h7, _⟩
  have hj0 : j = 0 := by simpa [pgOne] using hj
  subst hj0
  have hf : fn = ⟨some ⟨g, 0, none⟩, 1, 1, [⟨9, 0, 0, 0⟩]⟩ := by simpa [pgOne] using hfn.symm
  subst hf
  have hm := List.mem_of_getElem? hnd
  rw [List.mem_singleton] at hm
  subst hm
  cases h7
theorem check_self (g g2 : Nat) : Q.check (pgOne g g2 ⟨7, 0, 0, 0⟩) = (0, 0, 8) :=
  Q.check_round (pgOne_counts _ _ _) (pgOne_fine _ _ _ (by decide)) (f := 0) (i := 0) ⟨_, _, rfl, rfl, rfl, 0, rfl, by simp [pgOne], .inl rfl⟩ (by decide) (by simp [pgOne]) (fun j hj => by omega) (fun j hj => by omega)

/-- The world in which such a program was built. -/
def oneW (w : World) (x : Nd) : World := (w.alloc (.cells #[.int .i64 x.kind, .int .i64 x.arg, .int .i64 x.next, .int .i64 x.alt] 42)).alloc (.cells #[.slice (some ⟨w.heap.size, 0, none⟩) 1 1] 33)
theorem oneW_ok (w : World) (x : Nd) (hx : x.Ok) : (pgOne w.heap.size (w.heap.size + 1) x).Ok (oneW w x) (oneW w x).heap.size :=
  pgOne_ok x hx _ _ _ ((Blk.newA w 42 _ (ndC x) rfl).alloc _) (Blk.newAt rfl (by simp))
theorem oneW_below (w : World) (x : Nd) {B : Nat} {w0 : World} (h : Below B w0 w) (hB : B ≤ w.heap.size) : Below B w0 (oneW w x) := (h.alloc hB _).alloc (by simp; omega) _
theorem nd_ok (k : Int) (h : I64 k) : Nd.Ok ⟨k, 0, 0, 0⟩ := ⟨h, by unfold I64; simp, by unfold I64; simp, by unfold I64; simp⟩
end Go.Proofs.YtfifnahcobjjdaaDoor

/- What a program that may be has, on plain data. -/
namespace Go.Proofs.YtfifnahcobjjdaaDoor
open Go.RowKit

theorem firstIdx_not {P : Nat → Prop} : ∀ {n : Nat}, Q.firstIdx P n = none → ∀ j, j < n → ¬ P j
  | 0, _, j, hj => by omega
  | n + 1, h, j, hj => by
    simp only [Q.firstIdx] at h
    cases hf : Q.firstIdx P n with
    | some k => rw [hf] at h; cases h
    | none =>
      rw [hf] at h
      simp only at h
      split at h
      · cases h
      · rename_i hp
        by_cases hjn : j = n
        · subst hjn; exact hp
        · exact firstIdx_not hf j (by omega)
theorem firstIdx_is {P : Nat → Prop} : ∀ {n i : Nat}, Q.firstIdx P n = some i → i < n ∧ P i
  | 0, i, h => by cases h
  | n + 1, i, h => by
    simp only [Q.firstIdx] at h
    cases hf : Q.firstIdx P n with
    | some k =>
      rw [hf] at h
      cases h
      obtain ⟨h1, h2⟩ := firstIdx_is hf
      exact ⟨by omega, h2⟩
    | none =>
      rw [hf] at h
      simp only at h
      split at h
      · rename_i hp
        cases h
        exact ⟨by omega, hp⟩
      · cases h

/-- A program that may be. -/
structure Fine (p : Pg) : Prop where
  counts : Q.Counts p
  nodes : ∀ j, j < p.fns.length → ¬ Q.badFn p j
  round : ∀ j, j < p.fns.length → ¬ Q.badRound p j
theorem fine_of {p : Pg} {a b : Int} (h : Q.check p = (a, b, 0)) : Fine p := by
  unfold Q.check at h
  split at h
  · cases h
  · split at h
    · cases h
    · rename_i h1 h2
      split at h
      · rename_i f hf
        exfalso
        obtain ⟨hlt, fn, hfn, hb⟩ := firstIdx_is hf
        have e : p.fns.getD f default = fn := by rw [List.getD_eq_getElem?_getD, hfn]; rfl
        rw [e] at h
        have := congrArg (fun x : Int × Int × Nat => x.2.2) h
        exact hb this
      · rename_i hf
        split at h
        · cases h
        · rename_i hr
          exact ⟨⟨by omega, by omega, by omega, by omega⟩, firstIdx_not hf, firstIdx_not hr⟩

theorem size_mono {g l s g' l' s' f : Int} (hg : g ≤ g') (hl : l ≤ l') (hs : s ≤ s') (c : Nat) (nodes : Int) : Q.size g l s f c nodes ≤ Q.size g' l' s' f c nodes := by
  unfold Q.size
  repeat' split
  all_goals omega
theorem may_mono {g l s g' l' s' f : Int} (hg : g ≤ g') (hl : l ≤ l') (hs : s ≤ s') (x : Nd) (nodes : Int) (h : Q.may g l s f x nodes = true) : Q.may g' l' s' f x nodes = true := by
  unfold Q.may at *
  rw [Bool.and_eq_true] at *
  refine ⟨h.1, List.all_eq_true.2 fun i hi => ?_⟩
  have h1 := List.all_eq_true.1 h.2 i hi
  simp only [decide_eq_true_eq] at *
  have h2 := size_mono (f := f) hg hl hs ((Q.row x.kind).getD i 0) nodes
  exact ⟨h1.1, by omega⟩
/-- More globals, locks and slots. -/
def more (p : Pg) (g l s : Int) : Pg := { p with g := g, l := l, s := s }
theorem more_long {p : Pg} {g l s : Int} (h : Fine p) (hg : p.g ≤ g) (hl : p.l ≤ l) (hs : p.s ≤ s) (hb : 16 < g ∨ 16 < l ∨ 8 < s) : Q.check (more p g l s) = (-1, -1, 4) := by
  unfold Q.check
  have h1 := h.counts.g; have h2 := h.counts.l; have h3 := h.counts.s; have h4 := h.counts.f
  rw [if_neg (by simp only [more]; omega), if_pos (by simp only [more]; omega)]
theorem more_fine {p : Pg} {g l s : Int} (h : Fine p) (hg : p.g ≤ g) (hl : p.l ≤ l) (hs : p.s ≤ s) (hg2 : g ≤ 16) (hl2 : l ≤ 16) (hs2 : s ≤ 8) : Q.check (more p g l s) = (0, 0, 0) := by
  have h1 := h.counts.g; have h2 := h.counts.l; have h3 := h.counts.s; have h4 := h.counts.f
  refine Q.check_fine ⟨by simp only [more]; omega, by simp only [more]; omega, by simp only [more]; omega, by simp only [more]; omega⟩ ?_ ?_
  · rintro j hj ⟨fn, hfn, hb⟩
    obtain ⟨f1, f2, f3⟩ := Q.fine_fn (p := p) hfn (h.nodes j hj)
    refine hb ?_
    rw [Q.fault_none _ _ (by omega) f2 ?_]
    rintro i hi ⟨nd, hnd, hm⟩
    have h5 := may_mono hg hl hs nd fn.nodes.length (f3 i nd hnd)
    have hm' : Q.may g l s p.len nd fn.nodes.length = false := hm
    rw [h5] at hm'; cases hm'
  · rintro j hj ⟨i, hr⟩
    exact h.round j hj ⟨i, hr⟩
theorem more_small (p : Pg) (g l s : Int) : Q.small (more p g l s) = Q.small p := rfl
theorem more_ok {p : Pg} {g l s : Int} {w : World} {B : Nat} (h : p.Ok w B) (hg : I64 g) (hl : I64 l) (hs : I64 s) : (more p g l s).Ok w B := ⟨hg, hl, hs, h.row, h.fns, h.lc, h.cm, h.nil⟩

/-- Where a node that may be goes on. -/
theorem may_next {g l s f : Int} {x : Nd} {nodes : Nat} (h : Q.may g l s f x nodes = true) (h0 : 0 < nodes) : ∀ y ∈ Q.succ x, 0 ≤ y ∧ y < (nodes : Int) := by
  unfold Q.may at h
  rw [Bool.and_eq_true] at h
  have hrow : Q.row x.kind ≠ [] := by simpa using h.1
  have hk : 0 ≤ x.kind ∧ x.kind ≤ 9 := by
    unfold Q.row at hrow
    split at hrow
    · exact absurd rfl hrow
    · omega
  have a1 := List.all_eq_true.1 h.2 1 (by simp)
  have a2 := List.all_eq_true.1 h.2 2 (by simp)
  simp only [decide_eq_true_eq] at a1 a2
  obtain ⟨k0, k9⟩ := hk
  obtain ⟨kk, hkk⟩ : ∃ kk : Nat, x.kind = (kk : Int) := ⟨x.kind.toNat, by omega⟩
  have hk10 : kk ≤ 9 := by omega
  intro y hy
  unfold Q.succ at hy
  unfold Q.row at a1 a2
  rw [if_neg (by omega), hkk, Int.toNat_natCast] at a1 a2
  rw [hkk] at hy
  have hcases : kk = 0 ∨ kk = 1 ∨ kk = 2 ∨ kk = 3 ∨ kk = 4 ∨ kk = 5 ∨ kk = 6 ∨ kk = 7 ∨ kk = 8 ∨ kk = 9 := by omega
  rcases hcases with e | e | e | e | e | e | e | e | e | e <;> subst e <;> simp [Q.rows, Q.fields, Q.size] at a1 a2 hy <;> omega
end Go.Proofs.YtfifnahcobjjdaaDoor

/- Functions taken out one by one, those that call nobody who is left: all are taken out (plain data). -/
namespace Go.Proofs.YtfifnahcobjjdaaDoor
open Go.RowKit

/-- How many below len. -/
def cnt (P : Nat → Bool) : Nat → Nat
  | 0 => 0
  | n + 1 => cnt P n + (if P n then 1 else 0)
theorem cnt_le (P : Nat → Bool) : ∀ n, cnt P n ≤ n
  | 0 => Nat.le_refl _
  | n + 1 => by have := cnt_le P n; simp only [cnt]; split <;> omega
theorem cnt_congr {P P' : Nat → Bool} : ∀ n, (∀ g, g < n → P g = P' g) → cnt P n = cnt P' n
  | 0, _ => rfl
  | n + 1, h => by simp only [cnt]; rw [cnt_congr n fun g hg => h g (by omega), h n (by omega)]
theorem cnt_mono {P P' : Nat → Bool} : ∀ n, (∀ g, g < n → P g = true → P' g = true) → cnt P n ≤ cnt P' n
  | 0, _ => Nat.le_refl _
  | n + 1, h => by
    have h1 := cnt_mono n fun g hg => h g (by omega)
    have h2 := h n (by omega)
    simp only [cnt]
    by_cases hp : P n = true
    · rw [if_pos hp, if_pos (h2 hp)]; omega
    · rw [if_neg hp]; omega
theorem cnt_lt {P P' : Nat → Bool} {f : Nat} : ∀ n, (∀ g, g < n → P g = true → P' g = true) → f < n → P f = false → P' f = true → cnt P n < cnt P' n
  | 0, _, hf, _, _ => by omega
  | n + 1, h, hf, h1, h2 => by
    by_cases hfn : f = n
    · subst hfn
      have h3 := cnt_mono f fun g hg => h g (by omega)
      simp only [cnt]
      rw [if_neg (by rw [h1]; decide), if_pos h2]; omega
    · have h3 := cnt_lt (f := f) n (fun g hg => h g (by omega)) (by omega) h1 h2
      have h4 := h n (by omega)
      simp only [cnt]
      by_cases hp : P n = true
      · rw [if_pos hp, if_pos (h4 hp)]; omega
      · rw [if_neg hp]; omega
theorem cnt_set {P P' : Nat → Bool} {f : Nat} : ∀ n, f < n → P f = false → P' f = true → (∀ g, g ≠ f → P' g = P g) → cnt P' n = cnt P n + 1
  | 0, hf, _, _, _ => by omega
  | n + 1, hf, h1, h2, h3 => by
    by_cases hfn : f = n
    · subst hfn
      simp only [cnt]
      rw [cnt_congr f fun g hg => h3 g (by omega), h1, h2]; simp
    · simp only [cnt]
      rw [cnt_set n (by omega) h1 h2 h3, h3 n (fun e => hfn e.symm)]; omega
theorem cnt_miss {P : Nat → Bool} : ∀ n, cnt P n < n → ∃ g, g < n ∧ P g = false
  | 0, h => by omega
  | n + 1, h => by
    by_cases hp : P n = true
    · simp only [cnt] at h
      rw [if_pos hp] at h
      obtain ⟨g, hg, h1⟩ := cnt_miss (P := P) n (by omega)
      exact ⟨g, by omega, h1⟩
    · exact ⟨n, by omega, by simpa using hp⟩

/-- Is it so? -/
noncomputable def dec (P : Prop) : Bool := @decide P (Classical.propDecidable P)
theorem dec_true {P : Prop} : dec P = true ↔ P := by unfold dec; exact @decide_eq_true_iff P (Classical.propDecidable P)
theorem dec_false {P : Prop} : dec P = false ↔ ¬ P := by unfold dec; exact @decide_eq_false_iff_not P (Classical.propDecidable P)
/-- Where nobody comes to itself, somebody of a set calls nobody of it. -/
theorem least_caller {R : Nat → Nat → Prop} {n : Nat} (hac : ∀ x, x < n → ¬ Q.Reach R n x x) : ∀ (k : Nat) (U : Nat → Bool), cnt U n ≤ k → (∀ g, U g = true → g < n) → (∃ f, U f = true) → ∃ f, U f = true ∧ ∀ y, R f y → U y = false
  | 0, U, hk, hU, ⟨f, hf⟩ => by
    exfalso
    have h1 : cnt (fun _ => false) n < cnt U n := cnt_lt (f := f) n (fun g _ h => by cases h) (hU f hf) rfl hf
    omega
  | k + 1, U, hk, hU, ⟨f, hf⟩ => by
    by_cases hno : ∀ y, R f y → U y = false
    · exact ⟨f, hf, hno⟩
    · have hno2 : ∃ y, R f y ∧ U y = true := by
        refine Classical.byContradiction fun h => hno fun y hy => ?_
        cases hu : U y
        · rfl
        · exact absurd ⟨y, hy, hu⟩ h
      obtain ⟨y, hy, hyu⟩ := hno2
      have hlt : cnt (fun g => U g && dec (Q.Reach R n f g)) n < cnt U n :=
        cnt_lt (f := f) n (fun g _ h => by rw [Bool.and_eq_true] at h; exact h.1) (hU f hf) (by simp only [hf, Bool.true_and]; exact dec_false.2 (hac f (hU f hf))) hf
      obtain ⟨g, hg, hgno⟩ := least_caller hac k (fun g => U g && dec (Q.Reach R n f g)) (by omega) (fun g h => hU g (by rw [Bool.and_eq_true] at h; exact h.1)) ⟨y, by simp only [hyu, Bool.true_and]; exact dec_true.2 (.one hy)⟩
      rw [Bool.and_eq_true] at hg
      obtain ⟨hgu, hfg⟩ := hg
      refine ⟨g, hgu, fun z hz => ?_⟩
      have h1 := hgno z hz
      cases hzu : U z
      · rfl
      · simp only [hzu, Bool.true_and] at h1
        exact absurd ((dec_true.1 hfg).trans (hU g hgu) (.one hz)) (dec_false.1 h1)

/-- How far a round is: out0 ahead of it, out now, f functions looked at. -/
structure OrdInv (R : Nat → Nat → Prop) (len : Nat) (o0 o : Nat → Bool) (f : Nat) : Prop where
  mono : ∀ g, o0 g = true → o g = true
  rest : ∀ g, f ≤ g → o g = o0 g
  done : ∀ g, g < f → (∀ y, R g y → o0 y = true) → o g = true
theorem OrdInv.start (R : Nat → Nat → Prop) (len : Nat) (o : Nat → Bool) : OrdInv R len o o 0 := ⟨fun _ h => h, fun _ _ => rfl, fun g h => by omega⟩
theorem OrdInv.skip {R : Nat → Nat → Prop} {len : Nat} {o0 o : Nat → Bool} {f : Nat} (h : OrdInv R len o0 o f) (hn : ¬ (o f = false ∧ ∀ y, R f y → o y = true)) : OrdInv R len o0 o (f + 1) := by
  refine ⟨h.mono, fun g hg => h.rest g (by omega), fun g hg hc => ?_⟩
  by_cases hgf : g = f
  · subst hgf
    cases ho : o g
    · exact absurd ⟨ho, fun y hy => h.mono y (hc y hy)⟩ hn
    · rfl
  · exact h.done g (by omega) hc
theorem OrdInv.take {R : Nat → Nat → Prop} {len : Nat} {o0 o o' : Nat → Bool} {f : Nat} (h : OrdInv R len o0 o f) (h1 : o' f = true) (h2 : ∀ g, g ≠ f → o' g = o g) : OrdInv R len o0 o' (f + 1) := by
  refine ⟨fun g hg => ?_, fun g hg => ?_, fun g hg hc => ?_⟩
  · by_cases hgf : g = f
    · subst hgf; exact h1
    · rw [h2 g hgf]; exact h.mono g hg
  · rw [h2 g (by omega)]; exact h.rest g (by omega)
  · by_cases hgf : g = f
    · subst hgf; exact h1
    · rw [h2 g hgf]; exact h.done g (by omega) hc
theorem OrdInv.gain {R : Nat → Nat → Prop} {len : Nat} {o0 o : Nat → Bool} (h : OrdInv R len o0 o len) (hac : ∀ x, x < len → ¬ Q.Reach R len x x) (hin : ∀ x y, R x y → y < len) (hlt : cnt o0 len < len) : cnt o0 len < cnt o len := by
  obtain ⟨g, hg, hg0⟩ := cnt_miss len hlt
  obtain ⟨f, hff, hno⟩ := least_caller hac len (fun g => decide (g < len) && !o0 g) (cnt_le _ _) (fun g h => by rw [Bool.and_eq_true] at h; simpa using h.1) ⟨g, by simp [hg, hg0]⟩
  rw [Bool.and_eq_true] at hff
  have hf : f < len := by simpa using hff.1
  have hf0 : o0 f = false := by simpa using hff.2
  refine cnt_lt (f := f) len (fun g _ hg => h.mono g hg) hf hf0 (h.done f hf fun y hy => ?_)
  cases hy0 : o0 y
  · have h1 := hno y hy
    simp [hin f y hy, hy0] at h1
  · rfl

/-- In a program that may be nobody comes to itself, and whoever is called is there. -/
theorem fine_in {p : Pg} (h : Fine p) (hl : p.fns.length = p.len) {x y : Nat} (hc : Q.calls p x y) : y < p.fns.length := by
  obtain ⟨f, hf, nd, hnd, h7, ha⟩ := hc
  have := (calls_fit h.nodes f (List.mem_of_getElem? hf) nd hnd h7).2
  omega
theorem fine_acyclic {p : Pg} (h : Fine p) (hl : p.fns.length = p.len) : ∀ x, x < p.fns.length → ¬ Q.Reach (Q.calls p) p.fns.length x x := by
  intro x hx hr
  refine h.round x hx ?_
  have key : ∀ y, Q.calls p x y → (y = x ∨ Q.Reach (Q.calls p) p.fns.length y x) → Q.badRound p x := by
    intro y hc hor
    have hy := fine_in h hl hc
    obtain ⟨f, hf, nd, hnd, h7, ha⟩ := hc
    obtain ⟨i, hi⟩ := List.mem_iff_getElem?.1 hnd
    exact ⟨i, f, nd, hf, hi, h7, y, ha, hy, hor⟩
  cases hr with
  | one hc => exact key x hc (.inl rfl)
  | more hc hj hr => exact key _ hc (.inr hr)
end Go.Proofs.YtfifnahcobjjdaaDoor

/- The order of functions, the least that may come next always first, on plain data. -/
namespace Go.Proofs.YtfifnahcobjjdaaDoor
open Go.RowKit

/-- May it come next? -/
def Free (p : Pg) (out : List Nat) (f : Nat) : Prop := f ∉ out ∧ ∀ y, Q.calls p f y → y ∈ out
/-- Each is the least that might come next. -/
def IsOrd (p : Pg) (l : List Nat) : Prop := ∀ k f, l[k]? = some f → f < p.fns.length ∧ Free p (l.take k) f ∧ ∀ g, g < f → ¬ Free p (l.take k) g
theorem ord_nil (p : Pg) : IsOrd p [] := fun k f h => by simp at h
theorem ord_snoc {p : Pg} {l : List Nat} {f : Nat} (h : IsOrd p l) (hf : f < p.fns.length) (h1 : Free p l f) (h2 : ∀ g, g < f → ¬ Free p l g) : IsOrd p (l ++ [f]) := by
  intro k x hx
  have hk := (List.getElem?_eq_some_iff.1 hx).1
  rw [List.length_append, List.length_singleton] at hk
  by_cases hkl : k < l.length
  · rw [List.getElem?_append_left hkl] at hx
    rw [List.take_append_of_le_length (by omega)]
    exact h k x hx
  · have hke : k = l.length := by omega
    subst hke
    rw [List.getElem?_append_right (Nat.le_refl _), Nat.sub_self] at hx
    have : x = f := by simpa using hx.symm
    subst this
    rw [List.take_left' rfl]
    exact ⟨hf, h1, h2⟩
theorem ord_unique {p : Pg} {l l' : List Nat} (h : IsOrd p l) (h' : IsOrd p l') (hl : l.length = l'.length) : l = l' := by
  have key : ∀ k, k ≤ l.length → l.take k = l'.take k := by
    intro k
    induction k with
    | zero => intro _; rfl
    | succ k ih =>
      intro hk
      have e := ih (by omega)
      have hx : l[k]? = some l[k] := List.getElem?_eq_getElem (by omega)
      have hy : l'[k]? = some l'[k] := List.getElem?_eq_getElem (by omega)
      obtain ⟨_, a2, a3⟩ := h k _ hx
      obtain ⟨_, b2, b3⟩ := h' k _ hy
      rw [e] at a2 a3
      have hxy : l[k] = l'[k] := by
        rcases Nat.lt_trichotomy l[k] l'[k] with hlt | heq | hgt
        · exact absurd a2 (b3 _ hlt)
        · exact heq
        · exact absurd b2 (a3 _ hgt)
      rw [List.take_add_one, List.take_add_one, e, hx, hy, hxy]
  have := key l.length (Nat.le_refl _)
  rw [List.take_length, hl, List.take_length] at this
  exact this
theorem ord_nodup {p : Pg} {l : List Nat} (h : IsOrd p l) : l.Nodup := by
  refine List.pairwise_iff_getElem.2 fun i j hi hj hij e => ?_
  have hy : l[j]? = some l[j] := List.getElem?_eq_getElem hj
  refine (h j _ hy).2.1.1 ?_
  have : (l.take j)[i]? = some l[j] := by rw [List.getElem?_take, if_pos hij, List.getElem?_eq_getElem hi, e]
  exact List.mem_of_getElem? this
theorem cnt_one {P P' : Nat → Bool} {x : Nat} (h : ∀ g, g ≠ x → P' g = P g) : ∀ n, cnt P' n ≤ cnt P n + (if x < n then 1 else 0)
  | 0 => by simp [cnt]
  | n + 1 => by
    have ih := cnt_one h n
    simp only [cnt]
    by_cases hx : n = x
    · subst hx
      rw [if_neg (by omega)] at ih
      rw [if_pos (show n < n + 1 by omega)]
      split <;> split <;> omega
    · rw [h n hx]
      by_cases hxn : x < n
      · rw [if_pos hxn] at ih; rw [if_pos (show x < n + 1 by omega)]; omega
      · rw [if_neg hxn] at ih; rw [if_neg (show ¬ x < n + 1 by omega)]; omega
theorem cnt_mem (n : Nat) : ∀ l : List Nat, cnt (fun g => decide (g ∈ l)) n ≤ l.length
  | [] => by
    have : ∀ n, cnt (fun g => decide (g ∈ ([] : List Nat))) n = 0 := by
      intro n
      induction n with
      | zero => rfl
      | succ n ih => simp only [cnt, ih]; simp
    rw [this]; exact Nat.zero_le _
  | x :: l => by
    have ih := cnt_mem n l
    have h1 := cnt_one (P := fun g => decide (g ∈ l)) (P' := fun g => decide (g ∈ x :: l)) (x := x) (fun g hg => by simp [hg]) n
    rw [List.length_cons]
    split at h1 <;> omega
/-- As long as not all came, somebody may come next. -/
theorem ord_next {p : Pg} {l : List Nat} (hf : Fine p) (hlen : p.fns.length = p.len) (hlt : l.length < p.fns.length) : ∃ f, f < p.fns.length ∧ Free p l f := by
  have hne : ∃ g, g < p.fns.length ∧ g ∉ l := by
    obtain ⟨g, hg, hgl⟩ := cnt_miss (P := fun g => decide (g ∈ l)) p.fns.length (by have := cnt_mem p.fns.length l; omega)
    exact ⟨g, hg, by simpa using hgl⟩
  obtain ⟨g, hg, hgl⟩ := hne
  obtain ⟨f, hff, hno⟩ := least_caller (fine_acyclic hf hlen) p.fns.length (fun g => decide (g < p.fns.length) && !decide (g ∈ l)) (cnt_le _ _) (fun g h => by rw [Bool.and_eq_true] at h; simpa using h.1) ⟨g, by simp [hg, hgl]⟩
  rw [Bool.and_eq_true] at hff
  refine ⟨f, by simpa using hff.1, by simpa using hff.2, fun y hy => ?_⟩
  refine Classical.byContradiction fun hyl => ?_
  have h1 := hno y hy
  simp [fine_in hf hlen hy, hyl] at h1
/-- Whom a function calls, by its list. -/
theorem free_iff {p : Pg} {out : List Nat} {f : Nat} {fn : Fn} (hf : Fine p) (hlen : p.fns.length = p.len) (hx : p.fns[f]? = some fn) : Free p out f ↔ f ∉ out ∧ ∀ y ∈ namedL fn.nodes 7, y ∈ out := by
  unfold Free
  constructor
  · rintro ⟨h1, h2⟩
    refine ⟨h1, fun y hy => ?_⟩
    obtain ⟨_, nd, hnd, h7, ha⟩ := named_mem.1 hy
    exact h2 y ⟨fn, hx, nd, hnd, h7, ha⟩
  · rintro ⟨h1, h2⟩
    refine ⟨h1, fun y hy => ?_⟩
    have hlt := fine_in hf hlen hy
    obtain ⟨fn', hx', nd, hnd, h7, ha⟩ := hy
    rw [hx] at hx'; cases hx'
    have := hf.counts.f
    exact h2 y (named_mem.2 ⟨by omega, nd, hnd, h7, ha⟩)
end Go.Proofs.YtfifnahcobjjdaaDoor

/- Which nodes are come to from behind some, round by round, on plain data. -/
namespace Go.Proofs.YtfifnahcobjjdaaDoor
open Go.RowKit

/-- Goes an edge from node j to node i? -/
def Edge (l : List Nd) (j i : Nat) : Prop := i < l.length ∧ ∃ nd, l[j]? = some nd ∧ (i : Int) ∈ Q.succ nd
/-- Is it come to from behind one of these? -/
def Behind (l : List Nd) (from_ : List Int) (i : Nat) : Prop := ∃ j : Nat, (j : Int) ∈ from_ ∧ j < l.length ∧ Q.Reach (Edge l) l.length j i
def Start (from_ : List Int) (o : Nat → Bool) (j : Nat) : Prop := (j : Int) ∈ from_ ∨ o j = true
def Closed (l : List Nd) (from_ : List Int) (o : Nat → Bool) : Prop := ∀ j i, j < l.length → Start from_ o j → Edge l j i → o i = true
def Sound (l : List Nd) (from_ : List Int) (o : Nat → Bool) : Prop := ∀ i, o i = true → i < l.length ∧ Behind l from_ i

theorem behind_edge {l : List Nd} {from_ : List Int} {o : Nat → Bool} (hs : Sound l from_ o) {j i : Nat} (hj : j < l.length) (h : Start from_ o j) (he : Edge l j i) : i < l.length ∧ Behind l from_ i := by
  refine ⟨he.1, ?_⟩
  rcases h with h | h
  · exact ⟨j, h, hj, .one he⟩
  · obtain ⟨_, k, hk, hkl, hr⟩ := hs j h
    exact ⟨k, hk, hkl, hr.trans hj (.one he)⟩
theorem closed_all {l : List Nd} {from_ : List Int} {o : Nat → Bool} (h : Closed l from_ o) {i : Nat} (hb : Behind l from_ i) : o i = true := by
  obtain ⟨j, hj, hjl, hr⟩ := hb
  have key : ∀ x y, Q.Reach (Edge l) l.length x y → x < l.length → Start from_ o x → o y = true := by
    intro x y hr
    induction hr with
    | one he => intro hx hs; exact h _ _ hx hs he
    | more he hk _ ih => intro hx hs; exact ih hk (.inr (h _ _ hx hs he))
  exact key j i hr hjl (.inl hj)

/-- How far a round is: o0 ahead of it, o now, i nodes looked at. -/
structure RoundInv (l : List Nd) (from_ : List Int) (o0 o : Nat → Bool) (i : Nat) : Prop where
  mono : ∀ g, o0 g = true → o g = true
  sound : Sound l from_ o
  done : ∀ j y, j < i → Start from_ o0 j → Edge l j y → o y = true
  keep : Closed l from_ o0 → ∀ g, o g = true → o0 g = true
theorem RoundInv.start {l : List Nd} {from_ : List Int} {o : Nat → Bool} (h : Sound l from_ o) : RoundInv l from_ o o 0 := ⟨fun _ h => h, h, fun j y hj => by omega, fun _ _ h => h⟩
theorem RoundInv.skip {l : List Nd} {from_ : List Int} {o0 o : Nat → Bool} {i : Nat} (h : RoundInv l from_ o0 o i) (hn : ¬ Start from_ o i) : RoundInv l from_ o0 o (i + 1) := by
  refine ⟨h.mono, h.sound, fun j y hj hs he => ?_, h.keep⟩
  by_cases hji : j = i
  · subst hji
    refine absurd ?_ hn
    rcases hs with hs | hs
    · exact .inl hs
    · exact .inr (h.mono _ hs)
  · exact h.done j y (by omega) hs he
/-- Its edges, one by one: s is where it goes on, k of them are done. -/
structure StepInv (l : List Nd) (o o' : Nat → Bool) (s : List Int) (k : Nat) : Prop where
  mono : ∀ g, o g = true → o' g = true
  new : ∀ g, o' g = true → o g = true ∨ (g < l.length ∧ ∃ j, j < k ∧ s[j]? = some (g : Int))
  done : ∀ (j g : Nat), j < k → s[j]? = some (g : Int) → g < l.length → o' g = true
theorem StepInv.start (l : List Nd) (o : Nat → Bool) (s : List Int) : StepInv l o o s 0 := ⟨fun _ h => h, fun _ h => .inl h, fun j g hj => by omega⟩
theorem StepInv.skip {l : List Nd} {o o' : Nat → Bool} {s : List Int} {k : Nat} {y : Int} (h : StepInv l o o' s k) (hy : s[k]? = some y) (hn : ¬ (0 ≤ y ∧ y < (l.length : Int))) : StepInv l o o' s (k + 1) := by
  refine ⟨h.mono, fun g hg => ?_, fun j g hj hjs hg => ?_⟩
  · rcases h.new g hg with h1 | ⟨h1, j, hj, h2⟩
    · exact .inl h1
    · exact .inr ⟨h1, j, by omega, h2⟩
  · by_cases hjk : j = k
    · subst hjk; rw [hy] at hjs; cases hjs; exact absurd ⟨by omega, by omega⟩ hn
    · exact h.done j g (by omega) hjs hg
theorem StepInv.set {l : List Nd} {o o' : Nat → Bool} {s : List Int} {k y : Nat} (h : StepInv l o o' s k) (hy : s[k]? = some (y : Int)) (hlt : y < l.length) : StepInv l o (fun g => if g = y then true else o' g) s (k + 1) := by
  refine ⟨fun g hg => ?_, fun g hg => ?_, fun j g hj hjs hg => ?_⟩
  · split
    · rfl
    · exact h.mono g hg
  · by_cases hgy : g = y
    · subst hgy; exact .inr ⟨hlt, k, by omega, hy⟩
    · simp only [if_neg hgy] at hg
      rcases h.new g hg with h1 | ⟨h1, j, hj, h2⟩
      · exact .inl h1
      · exact .inr ⟨h1, j, by omega, h2⟩
  · by_cases hgy : g = y
    · rw [if_pos hgy]
    · rw [if_neg hgy]
      by_cases hjk : j = k
      · subst hjk; rw [hy] at hjs; injection hjs with e; omega
      · exact h.done j g (by omega) hjs hg
theorem RoundInv.step {l : List Nd} {from_ : List Int} {o0 o o' : Nat → Bool} {i : Nat} {nd : Nd} (h : RoundInv l from_ o0 o i) (hi : l[i]? = some nd) (hs : Start from_ o i) (hst : StepInv l o o' (Q.succ nd) (Q.succ nd).length) : RoundInv l from_ o0 o' (i + 1) := by
  have hil : i < l.length := (List.getElem?_eq_some_iff.1 hi).1
  have edge : ∀ g, g < l.length → (∃ j, j < (Q.succ nd).length ∧ (Q.succ nd)[j]? = some (g : Int)) → Edge l i g := by
    rintro g hg ⟨j, _, hj⟩
    exact ⟨hg, nd, hi, List.mem_of_getElem? hj⟩
  refine ⟨fun g hg => hst.mono g (h.mono g hg), fun g hg => ?_, fun j y hj hsj he => ?_, fun hc g hg => ?_⟩
  · rcases hst.new g hg with h1 | ⟨h1, h2⟩
    · exact h.sound g h1
    · exact behind_edge h.sound hil hs (edge g h1 h2)
  · by_cases hji : j = i
    · subst hji
      obtain ⟨hyl, nd', hnd', hmem⟩ := he
      rw [hi] at hnd'; cases hnd'
      obtain ⟨k, hk⟩ := List.mem_iff_getElem?.1 hmem
      exact hst.done k y (List.getElem?_eq_some_iff.1 hk).1 hk hyl
    · exact hst.mono y (h.done j y (by omega) hsj he)
  · rcases hst.new g hg with h1 | ⟨h1, h2⟩
    · exact h.keep hc g h1
    · have hs0 : Start from_ o0 i := by
        rcases hs with hs | hs
        · exact .inl hs
        · exact .inr (h.keep hc i hs)
      exact hc i g hil hs0 (edge g h1 h2)
/-- A round on: closed, or more. -/
theorem RoundInv.gain {l : List Nd} {from_ : List Int} {o0 o : Nat → Bool} {r : Nat} (h : RoundInv l from_ o0 o l.length) (hr : Closed l from_ o0 ∨ r ≤ cnt o0 l.length) : Closed l from_ o ∨ r + 1 ≤ cnt o l.length := by
  by_cases hc : Closed l from_ o0
  · refine .inl fun j i hj hs he => h.mono i (hc j i hj ?_ he)
    rcases hs with hs | hs
    · exact .inl hs
    · exact .inr (h.keep hc j hs)
  · have hr' : r ≤ cnt o0 l.length := hr.resolve_left hc
    have hx : ∃ j i, j < l.length ∧ Start from_ o0 j ∧ Edge l j i ∧ o0 i = false := by
      refine Classical.byContradiction fun hno => hc fun j i hj hs he => ?_
      cases ho : o0 i
      · exact absurd ⟨j, i, hj, hs, he, ho⟩ hno
      · rfl
    obtain ⟨j, i, hj, hs, he, ho⟩ := hx
    have := cnt_lt (f := i) l.length (fun g _ hg => h.mono g hg) he.1 ho (h.done j i hj hs he)
    exact .inr (by omega)
/-- After as many rounds as nodes, and one, nothing is left. -/
theorem closed_end {l : List Nd} {from_ : List Int} {o : Nat → Bool} (h : Closed l from_ o ∨ l.length + 1 ≤ cnt o l.length) : Closed l from_ o := by
  refine h.resolve_right fun h1 => ?_
  have := cnt_le o l.length
  omega
end Go.Proofs.YtfifnahcobjjdaaDoor
