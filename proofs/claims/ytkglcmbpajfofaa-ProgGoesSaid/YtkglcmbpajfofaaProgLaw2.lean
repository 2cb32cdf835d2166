/- What a program that may be has, on plain data. -/
import Derived.Test.YtkglcmbpajfofaaProgLaw1
import Derived.Test.YtkglcmbpajfofaaProgRef5
namespace Go.Proofs.Ytkglcmbpajfofaa
open Go.RowKit

theorem firstIdx_not {P : Nat → Prop} : ∀ {n : Nat}, Q.firstIdx P n = none → ∀ j, j < n → ¬ P j
  | 0, _, j, hj => by omega
  | n + 1, h, j, hj => by
    simp only [Q.firstIdx] at h
    cases hf : Q.firstIdx P n with
    | some k => rw [hf] at h; cases h
    | none =>
      rw [hf] at h
      simp only at h
      split at h
      · cases h
      · rename_i hp
        by_cases hjn : j = n
        · subst hjn; exact hp
        · exact firstIdx_not hf j (by omega)
theorem firstIdx_is {P : Nat → Prop} : ∀ {n i : Nat}, Q.firstIdx P n = some i → i < n ∧ P i
  | 0, i, h => by cases h
  | n + 1, i, h => by
    simp only [Q.firstIdx] at h
    cases hf : Q.firstIdx P n with
    | some k =>
      rw [hf] at h
      cases h
      obtain ⟨h1, h2⟩ := firstIdx_is hf
      exact ⟨by omega, h2⟩
    | none =>
      rw [hf] at h
      simp only at h
      split at h
      · rename_i hp
        cases h
        exact ⟨by omega, hp⟩
      · cases h

/-- A program that may be. -/
structure Fine (p : Pg) : Prop where
  counts : Q.Counts p
  nodes : ∀ j, j < p.fns.length → ¬ Q.badFn p j
  round : ∀ j, j < p.fns.length → ¬ Q.badRound p j
theorem fine_of {p : Pg} {a b : Int} (h : Q.check p = (a, b, 0)) : Fine p := by
  unfold Q.check at h
  split at h
  · cases h
  · split at h
    · cases h
    · rename_i h1 h2
      split at h
      · rename_i f hf
        exfalso
        obtain ⟨hlt, fn, hfn, hb⟩ := firstIdx_is hf
        have e : p.fns.getD f default = fn := by rw [List.getD_eq_getElem?_getD, hfn]; rfl
        rw [e] at h
        have := congrArg (fun x : Int × Int × Nat => x.2.2) h
        exact hb this
      · rename_i hf
        split at h
        · cases h
        · rename_i hr
          exact ⟨⟨by omega, by omega, by omega, by omega⟩, firstIdx_not hf, firstIdx_not hr⟩

theorem size_mono {g l s g' l' s' f : Int} (hg : g ≤ g') (hl : l ≤ l') (hs : s ≤ s') (c : Nat) (nodes : Int) : Q.size g l s f c nodes ≤ Q.size g' l' s' f c nodes := by
  unfold Q.size
  repeat' split
  all_goals omega
theorem may_mono {g l s g' l' s' f : Int} (hg : g ≤ g') (hl : l ≤ l') (hs : s ≤ s') (x : Nd) (nodes : Int) (h : Q.may g l s f x nodes = true) : Q.may g' l' s' f x nodes = true := by
  unfold Q.may at *
  rw [Bool.and_eq_true] at *
  refine ⟨h.1, List.all_eq_true.2 fun i hi => ?_⟩
  have h1 := List.all_eq_true.1 h.2 i hi
  simp only [decide_eq_true_eq] at *
  have h2 := size_mono (f := f) hg hl hs ((Q.row x.kind).getD i 0) nodes
  exact ⟨h1.1, by omega⟩
/-- More globals, locks and slots. -/
def more (p : Pg) (g l s : Int) : Pg := { p with g := g, l := l, s := s }
theorem more_long {p : Pg} {g l s : Int} (h : Fine p) (hg : p.g ≤ g) (hl : p.l ≤ l) (hs : p.s ≤ s) (hb : 16 < g ∨ 16 < l ∨ 8 < s) : Q.check (more p g l s) = (-1, -1, 4) := by
  unfold Q.check
  have h1 := h.counts.g; have h2 := h.counts.l; have h3 := h.counts.s; have h4 := h.counts.f
  rw [if_neg (by simp only [more]; omega), if_pos (by simp only [more]; omega)]
theorem more_fine {p : Pg} {g l s : Int} (h : Fine p) (hg : p.g ≤ g) (hl : p.l ≤ l) (hs : p.s ≤ s) (hg2 : g ≤ 16) (hl2 : l ≤ 16) (hs2 : s ≤ 8) : Q.check (more p g l s) = (0, 0, 0) := by
  have h1 := h.counts.g; have h2 := h.counts.l; have h3 := h.counts.s; have h4 := h.counts.f
  refine Q.check_fine ⟨by simp only [more]; omega, by simp only [more]; omega, by simp only [more]; omega, by simp only [more]; omega⟩ ?_ ?_
  · rintro j hj ⟨fn, hfn, hb⟩
    obtain ⟨f1, f2, f3⟩ := Q.fine_fn (p := p) hfn (h.nodes j hj)
    refine hb ?_
    rw [Q.fault_none _ _ (by omega) f2 ?_]
    rintro i hi ⟨nd, hnd, hm⟩
    have h5 := may_mono hg hl hs nd fn.nodes.length (f3 i nd hnd)
    have hm' : Q.may g l s p.len nd fn.nodes.length = false := hm
    rw [h5] at hm'; cases hm'
  · rintro j hj ⟨i, hr⟩
    exact h.round j hj ⟨i, hr⟩
theorem more_small (p : Pg) (g l s : Int) : Q.small (more p g l s) = Q.small p := rfl
theorem more_ok {p : Pg} {g l s : Int} {w : World} {B : Nat} (h : p.Ok w B) (hg : I64 g) (hl : I64 l) (hs : I64 s) : (more p g l s).Ok w B := ⟨hg, hl, hs, h.row, h.fns, h.lc, h.cm, h.nil⟩

/-- Where a node that may be goes on. -/
theorem may_next {g l s f : Int} {x : Nd} {nodes : Nat} (h : Q.may g l s f x nodes = true) (h0 : 0 < nodes) : ∀ y ∈ Q.succ x, 0 ≤ y ∧ y < (nodes : Int) := by
  unfold Q.may at h
  rw [Bool.and_eq_true] at h
  have hrow : Q.row x.kind ≠ [] := by simpa using h.1
  have hk : 0 ≤ x.kind ∧ x.kind ≤ 9 := by
    unfold Q.row at hrow
    split at hrow
    · exact absurd rfl hrow
    · omega
  have a1 := List.all_eq_true.1 h.2 1 (by simp)
  have a2 := List.all_eq_true.1 h.2 2 (by simp)
  simp only [decide_eq_true_eq] at a1 a2
  obtain ⟨k0, k9⟩ := hk
  obtain ⟨kk, hkk⟩ : ∃ kk : Nat, x.kind = (kk : Int) := ⟨x.kind.toNat, by omega⟩
  have hk10 : kk ≤ 9 := by omega
  intro y hy
  unfold Q.succ at hy
  unfold Q.row at a1 a2
  rw [if_neg (by omega), hkk, Int.toNat_natCast] at a1 a2
  rw [hkk] at hy
  have hcases : kk = 0 ∨ kk = 1 ∨ kk = 2 ∨ kk = 3 ∨ kk = 4 ∨ kk = 5 ∨ kk = 6 ∨ kk = 7 ∨ kk = 8 ∨ kk = 9 := by omega
  rcases hcases with e | e | e | e | e | e | e | e | e | e <;> subst e <;> simp [Q.rows, Q.fields, Q.size] at a1 a2 hy <;> omega
end Go.Proofs.Ytkglcmbpajfofaa
