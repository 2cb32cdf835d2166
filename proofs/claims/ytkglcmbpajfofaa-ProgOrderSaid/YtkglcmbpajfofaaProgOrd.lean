/- Functions taken out one by one, those that call nobody who is left: all are taken out (plain data). -/
import Derived.Test.YtkglcmbpajfofaaProgLaw2
namespace Go.Proofs.Ytkglcmbpajfofaa
open Go.RowKit

/-- How many below len. -/
def cnt (P : Nat → Bool) : Nat → Nat
  | 0 => 0
  | n + 1 => cnt P n + (if P n then 1 else 0)
theorem cnt_le (P : Nat → Bool) : ∀ n, cnt P n ≤ n
  | 0 => Nat.le_refl _
  | n + 1 => by have := cnt_le P n; simp only [cnt]; split <;> omega
theorem cnt_congr {P P' : Nat → Bool} : ∀ n, (∀ g, g < n → P g = P' g) → cnt P n = cnt P' n
  | 0, _ => rfl
  | n + 1, h => by simp only [cnt]; rw [cnt_congr n fun g hg => h g (by omega), h n (by omega)]
theorem cnt_mono {P P' : Nat → Bool} : ∀ n, (∀ g, g < n → P g = true → P' g = true) → cnt P n ≤ cnt P' n
  | 0, _ => Nat.le_refl _
  | n + 1, h => by
    have h1 := cnt_mono n fun g hg => h g (by omega)
    have h2 := h n (by omega)
    simp only [cnt]
    by_cases hp : P n = true
    · rw [if_pos hp, if_pos (h2 hp)]; omega
    · rw [if_neg hp]; omega
theorem cnt_lt {P P' : Nat → Bool} {f : Nat} : ∀ n, (∀ g, g < n → P g = true → P' g = true) → f < n → P f = false → P' f = true → cnt P n < cnt P' n
  | 0, _, hf, _, _ => by omega
  | n + 1, h, hf, h1, h2 => by
    by_cases hfn : f = n
    · subst hfn
      have h3 := cnt_mono f fun g hg => h g (by omega)
      simp only [cnt]
      rw [if_neg (by rw [h1]; decide), if_pos h2]; omega
    · have h3 := cnt_lt (f := f) n (fun g hg => h g (by omega)) (by omega) h1 h2
      have h4 := h n (by omega)
      simp only [cnt]
      by_cases hp : P n = true
      · rw [if_pos hp, if_pos (h4 hp)]; omega
      · rw [if_neg hp]; omega
theorem cnt_set {P P' : Nat → Bool} {f : Nat} : ∀ n, f < n → P f = false → P' f = true → (∀ g, g ≠ f → P' g = P g) → cnt P' n = cnt P n + 1
  | 0, hf, _, _, _ => by omega
  | n + 1, hf, h1, h2, h3 => by
    by_cases hfn : f = n
    · subst hfn
      simp only [cnt]
      rw [cnt_congr f fun g hg => h3 g (by omega), h1, h2]; simp
    · simp only [cnt]
      rw [cnt_set n (by omega) h1 h2 h3, h3 n (fun e => hfn e.symm)]; omega
theorem cnt_miss {P : Nat → Bool} : ∀ n, cnt P n < n → ∃ g, g < n ∧ P g = false
  | 0, h => by omega
  | n + 1, h => by
    by_cases hp : P n = true
    · simp only [cnt] at h
      rw [if_pos hp] at h
      obtain ⟨g, hg, h1⟩ := cnt_miss (P := P) n (by omega)
      exact ⟨g, by omega, h1⟩
    · exact ⟨n, by omega, by simpa using hp⟩

/-- Is it so? -/
noncomputable def dec (P : Prop) : Bool := @decide P (Classical.propDecidable P)
theorem dec_true {P : Prop} : dec P = true ↔ P := by unfold dec; exact @decide_eq_true_iff P (Classical.propDecidable P)
theorem dec_false {P : Prop} : dec P = false ↔ ¬ P := by unfold dec; exact @decide_eq_false_iff_not P (Classical.propDecidable P)
/-- Where nobody comes to itself, somebody of a set calls nobody of it. -/
theorem least_caller {R : Nat → Nat → Prop} {n : Nat} (hac : ∀ x, x < n → ¬ Q.Reach R n x x) : ∀ (k : Nat) (U : Nat → Bool), cnt U n ≤ k → (∀ g, U g = true → g < n) → (∃ f, U f = true) → ∃ f, U f = true ∧ ∀ y, R f y → U y = false
  | 0, U, hk, hU, ⟨f, hf⟩ => by
    exfalso
    have h1 : cnt (fun _ => false) n < cnt U n := cnt_lt (f := f) n (fun g _ h => by cases h) (hU f hf) rfl hf
    omega
  | k + 1, U, hk, hU, ⟨f, hf⟩ => by
    by_cases hno : ∀ y, R f y → U y = false
    · exact ⟨f, hf, hno⟩
    · have hno2 : ∃ y, R f y ∧ U y = true := by
        refine Classical.byContradiction fun h => hno fun y hy => ?_
        cases hu : U y
        · rfl
        · exact absurd ⟨y, hy, hu⟩ h
      obtain ⟨y, hy, hyu⟩ := hno2
      have hlt : cnt (fun g => U g && dec (Q.Reach R n f g)) n < cnt U n :=
        cnt_lt (f := f) n (fun g _ h => by rw [Bool.and_eq_true] at h; exact h.1) (hU f hf) (by simp only [hf, Bool.true_and]; exact dec_false.2 (hac f (hU f hf))) hf
      obtain ⟨g, hg, hgno⟩ := least_caller hac k (fun g => U g && dec (Q.Reach R n f g)) (by omega) (fun g h => hU g (by rw [Bool.and_eq_true] at h; exact h.1)) ⟨y, by simp only [hyu, Bool.true_and]; exact dec_true.2 (.one hy)⟩
      rw [Bool.and_eq_true] at hg
      obtain ⟨hgu, hfg⟩ := hg
      refine ⟨g, hgu, fun z hz => ?_⟩
      have h1 := hgno z hz
      cases hzu : U z
      · rfl
      · simp only [hzu, Bool.true_and] at h1
        exact absurd ((dec_true.1 hfg).trans (hU g hgu) (.one hz)) (dec_false.1 h1)

/-- How far a round is: out0 ahead of it, out now, f functions looked at. -/
structure OrdInv (R : Nat → Nat → Prop) (len : Nat) (o0 o : Nat → Bool) (f : Nat) : Prop where
  mono : ∀ g, o0 g = true → o g = true
  rest : ∀ g, f ≤ g → o g = o0 g
  done : ∀ g, g < f → (∀ y, R g y → o0 y = true) → o g = true
theorem OrdInv.start (R : Nat → Nat → Prop) (len : Nat) (o : Nat → Bool) : OrdInv R len o o 0 := ⟨fun _ h => h, fun _ _ => rfl, fun g h => by omega⟩
theorem OrdInv.skip {R : Nat → Nat → Prop} {len : Nat} {o0 o : Nat → Bool} {f : Nat} (h : OrdInv R len o0 o f) (hn : ¬ (o f = false ∧ ∀ y, R f y → o y = true)) : OrdInv R len o0 o (f + 1) := by
  refine ⟨h.mono, fun g hg => h.rest g (by omega), fun g hg hc => ?_⟩
  by_cases hgf : g = f
  · subst hgf
    cases ho : o g
    · exact absurd ⟨ho, fun y hy => h.mono y (hc y hy)⟩ hn
    · rfl
  · exact h.done g (by omega) hc
theorem OrdInv.take {R : Nat → Nat → Prop} {len : Nat} {o0 o o' : Nat → Bool} {f : Nat} (h : OrdInv R len o0 o f) (h1 : o' f = true) (h2 : ∀ g, g ≠ f → o' g = o g) : OrdInv R len o0 o' (f + 1) := by
  refine ⟨fun g hg => ?_, fun g hg => ?_, fun g hg hc => ?_⟩
  · by_cases hgf : g = f
    · subst hgf; exact h1
    · rw [h2 g hgf]; exact h.mono g hg
  · rw [h2 g (by omega)]; exact h.rest g (by omega)
  · by_cases hgf : g = f
    · subst hgf; exact h1
    · rw [h2 g hgf]; exact h.done g (by omega) hc
theorem OrdInv.gain {R : Nat → Nat → Prop} {len : Nat} {o0 o : Nat → Bool} (h : OrdInv R len o0 o len) (hac : ∀ x, x < len → ¬ Q.Reach R len x x) (hin : ∀ x y, R x y → y < len) (hlt : cnt o0 len < len) : cnt o0 len < cnt o len := by
  obtain ⟨g, hg, hg0⟩ := cnt_miss len hlt
  obtain ⟨f, hff, hno⟩ := least_caller hac len (fun g => decide (g < len) && !o0 g) (cnt_le _ _) (fun g h => by rw [Bool.and_eq_true] at h; simpa using h.1) ⟨g, by simp [hg, hg0]⟩
  rw [Bool.and_eq_true] at hff
  have hf : f < len := by simpa using hff.1
  have hf0 : o0 f = false := by simpa using hff.2
  refine cnt_lt (f := f) len (fun g _ hg => h.mono g hg) hf hf0 (h.done f hf fun y hy => ?_)
  cases hy0 : o0 y
  · have h1 := hno y hy
    simp [hin f y hy, hy0] at h1
  · rfl

/-- In a program that may be nobody comes to itself, and whoever is called is there. -/
theorem fine_in {p : Pg} (h : Fine p) (hl : p.fns.length = p.len) {x y : Nat} (hc : Q.calls p x y) : y < p.fns.length := by
  obtain ⟨f, hf, nd, hnd, h7, ha⟩ := hc
  have := (calls_fit h.nodes f (List.mem_of_getElem? hf) nd hnd h7).2
  omega
theorem fine_acyclic {p : Pg} (h : Fine p) (hl : p.fns.length = p.len) : ∀ x, x < p.fns.length → ¬ Q.Reach (Q.calls p) p.fns.length x x := by
  intro x hx hr
  refine h.round x hx ?_
  have key : ∀ y, Q.calls p x y → (y = x ∨ Q.Reach (Q.calls p) p.fns.length y x) → Q.badRound p x := by
    intro y hc hor
    have hy := fine_in h hl hc
    obtain ⟨f, hf, nd, hnd, h7, ha⟩ := hc
    obtain ⟨i, hi⟩ := List.mem_iff_getElem?.1 hnd
    exact ⟨i, f, nd, hf, hi, h7, y, ha, hy, hor⟩
  cases hr with
  | one hc => exact key x hc (.inl rfl)
  | more hc hj hr => exact key _ hc (.inr hr)
end Go.Proofs.Ytkglcmbpajfofaa
