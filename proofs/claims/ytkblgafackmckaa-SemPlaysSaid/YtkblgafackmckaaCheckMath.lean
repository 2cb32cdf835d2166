/- What is wrong with a program first, on plain data. -/
import Derived.Test.YtkblgafackmckaaPq3
import Derived.Test.YtkblgafackmckaaPq5
namespace Go.Proofs.Ytkblgafackmckaa.Q

open Classical in
/-- The first number below n of which P holds. -/
noncomputable def firstIdx (P : Nat → Prop) : Nat → Option Nat
  | 0 => none
  | n + 1 => match firstIdx P n with
    | some i => some i
    | none => if P n then some n else none
theorem firstIdx_none {P : Nat → Prop} : ∀ n, (∀ i, i < n → ¬ P i) → firstIdx P n = none
  | 0, _ => rfl
  | n + 1, h => by
    have h1 := firstIdx_none n fun i hi => h i (by omega)
    have h2 := h n (by omega)
    simp only [firstIdx, h1, if_neg h2]
theorem firstIdx_some {P : Nat → Prop} {i : Nat} (hP : P i) : ∀ n, i < n → (∀ j, j < i → ¬ P j) → firstIdx P n = some i
  | 0, hi, _ => by omega
  | n + 1, hi, h => by
    by_cases hin : i < n
    · have h1 := firstIdx_some hP n hin h
      simp only [firstIdx, h1]
    · have e : i = n := by omega
      subst e
      have h1 := firstIdx_none i h
      simp only [firstIdx, h1, if_pos hP]

def badNode (p : Pg) (fn : Fn) (i : Nat) : Prop := ∃ nd, fn.nodes[i]? = some nd ∧ may p.g p.l p.s p.len nd fn.nodes.length = false
/-- What is wrong with a function first: where, and what. -/
noncomputable def fnFault (p : Pg) (fn : Fn) : Int × Nat :=
  if fn.nodes.length = 0 then (-1, 1) else if 64 < fn.nodes.length then (-1, 4) else match firstIdx (badNode p fn) fn.nodes.length with
    | some i => ((i : Int), 3)
    | none => (0, 0)
def badFn (p : Pg) (f : Nat) : Prop := ∃ fn, p.fns[f]? = some fn ∧ (fnFault p fn).2 ≠ 0
def roundAt (p : Pg) (f i : Nat) : Prop := ∃ fn nd, p.fns[f]? = some fn ∧ fn.nodes[i]? = some nd ∧ nd.kind = 7 ∧ ∃ k : Nat, nd.arg = (k : Int) ∧ k < p.fns.length ∧ (k = f ∨ Reach (calls p) p.fns.length k f)
noncomputable def roundIn (p : Pg) (f : Nat) : Option Nat := firstIdx (roundAt p f) 64
def badRound (p : Pg) (f : Nat) : Prop := ∃ i, roundAt p f i
/-- What is wrong first. -/
noncomputable def check (p : Pg) : Int × Int × Nat :=
  if p.g < 0 ∨ p.l < 0 ∨ p.s < 0 ∨ p.fns.length = 0 then (-1, -1, 1)
  else if 16 < p.g ∨ 16 < p.l ∨ 8 < p.s ∨ 16 < p.fns.length then (-1, -1, 4)
  else match firstIdx (badFn p) p.fns.length with
    | some f => ((f : Int), (fnFault p (p.fns.getD f default)).1, (fnFault p (p.fns.getD f default)).2)
    | none => match firstIdx (badRound p) p.fns.length with
      | some f => ((f : Int), (((roundIn p f).getD 0 : Nat) : Int), 8)
      | none => (0, 0, 0)

theorem fault_empty (p : Pg) (fn : Fn) (h : fn.nodes.length = 0) : fnFault p fn = (-1, 1) := by unfold fnFault; rw [if_pos h]
theorem fault_long (p : Pg) (fn : Fn) (h : 64 < fn.nodes.length) : fnFault p fn = (-1, 4) := by unfold fnFault; rw [if_neg (by omega), if_pos h]
theorem fault_node (p : Pg) (fn : Fn) (i : Nat) (h0 : fn.nodes.length ≠ 0) (h64 : fn.nodes.length ≤ 64) (hi : badNode p fn i) (hlt : i < fn.nodes.length) (hp : ∀ j, j < i → ¬ badNode p fn j) : fnFault p fn = ((i : Int), 3) := by
  unfold fnFault
  rw [if_neg h0, if_neg (by omega), firstIdx_some hi _ hlt hp]
theorem fault_none (p : Pg) (fn : Fn) (h0 : fn.nodes.length ≠ 0) (h64 : fn.nodes.length ≤ 64) (hp : ∀ j, j < fn.nodes.length → ¬ badNode p fn j) : fnFault p fn = (0, 0) := by
  unfold fnFault
  rw [if_neg h0, if_neg (by omega), firstIdx_none _ hp]
/-- It is of a count that may be. -/
structure Counts (p : Pg) : Prop where
  g : 0 ≤ p.g ∧ p.g ≤ 16
  l : 0 ≤ p.l ∧ p.l ≤ 16
  s : 0 ≤ p.s ∧ p.s ≤ 8
  f : 0 < p.fns.length ∧ p.fns.length ≤ 16
theorem check_fn {p : Pg} (hc : Counts p) {f : Nat} {fn : Fn} (hf : p.fns[f]? = some fn) (hb : (fnFault p fn).2 ≠ 0) (hp : ∀ j, j < f → ¬ badFn p j) : check p = ((f : Int), (fnFault p fn).1, (fnFault p fn).2) := by
  have hlt : f < p.fns.length := (List.getElem?_eq_some_iff.1 hf).1
  unfold check
  rw [if_neg (by have := hc.g; have := hc.l; have := hc.s; have := hc.f; omega), if_neg (by have := hc.g; have := hc.l; have := hc.s; have := hc.f; omega), firstIdx_some ⟨fn, hf, hb⟩ _ hlt hp]
  have e : p.fns.getD f default = fn := by rw [List.getD_eq_getElem?_getD, hf]; rfl
  simp only [e]
theorem check_round {p : Pg} (hc : Counts p) (hn : ∀ j, j < p.fns.length → ¬ badFn p j) {f i : Nat} (hr : roundAt p f i) (hi : i < 64) (hlt : f < p.fns.length) (hp : ∀ j, j < f → ¬ badRound p j) (hpi : ∀ j, j < i → ¬ roundAt p f j) : check p = ((f : Int), (i : Int), 8) := by
  unfold check
  rw [if_neg (by have := hc.g; have := hc.l; have := hc.s; have := hc.f; omega), if_neg (by have := hc.g; have := hc.l; have := hc.s; have := hc.f; omega), firstIdx_none _ hn]
  simp only
  rw [firstIdx_some ⟨i, hr⟩ _ hlt hp]
  have e : roundIn p f = some i := firstIdx_some hr _ hi hpi
  simp only [e, Option.getD_some]
theorem check_fine {p : Pg} (hc : Counts p) (hn : ∀ j, j < p.fns.length → ¬ badFn p j) (hp : ∀ j, j < p.fns.length → ¬ badRound p j) : check p = (0, 0, 0) := by
  unfold check
  rw [if_neg (by have := hc.g; have := hc.l; have := hc.s; have := hc.f; omega), if_neg (by have := hc.g; have := hc.l; have := hc.s; have := hc.f; omega), firstIdx_none _ hn]
  simp only
  rw [firstIdx_none _ hp]
/-- A program without such a fault: its nodes may be. -/
theorem fine_fn {p : Pg} {f : Nat} {fn : Fn} (hf : p.fns[f]? = some fn) (h : ¬ badFn p f) : 0 < fn.nodes.length ∧ fn.nodes.length ≤ 64 ∧ ∀ (i : Nat) (nd : Nd), fn.nodes[i]? = some nd → may p.g p.l p.s p.len nd fn.nodes.length = true := by
  have h2 : (fnFault p fn).2 = 0 := by
    cases e : (fnFault p fn).2 with
    | zero => rfl
    | succ k => exact absurd ⟨fn, hf, by omega⟩ h
  by_cases h0 : fn.nodes.length = 0
  · rw [fault_empty p fn h0] at h2; cases h2
  · by_cases h64 : 64 < fn.nodes.length
    · rw [fault_long p fn h64] at h2; cases h2
    · refine ⟨by omega, by omega, fun i nd hnd => ?_⟩
      cases hm : may p.g p.l p.s p.len nd fn.nodes.length with
      | true => rfl
      | false =>
        exfalso
        have hb : badNode p fn i := ⟨nd, hnd, hm⟩
        have hil : i < fn.nodes.length := (List.getElem?_eq_some_iff.1 hnd).1
        -- some first one
        have hex : ∃ i, i < fn.nodes.length ∧ badNode p fn i ∧ ∀ j, j < i → ¬ badNode p fn j := by
          have : ∀ n, (∃ i, i ≤ n ∧ badNode p fn i) → ∃ i, i ≤ n ∧ badNode p fn i ∧ ∀ j, j < i → ¬ badNode p fn j := by
            intro n
            induction n with
            | zero => rintro ⟨i, hi, hb⟩; exact ⟨i, hi, hb, fun j hj => by omega⟩
            | succ n ih =>
              rintro ⟨i, hi, hb⟩
              by_cases h : ∃ j, j ≤ n ∧ badNode p fn j
              · obtain ⟨j, h1, h2⟩ := ih h
                exact ⟨j, by omega, h2⟩
              · exact ⟨i, hi, hb, fun j hj hbj => h ⟨j, by omega, hbj⟩⟩
          obtain ⟨j, h1, h2⟩ := this i ⟨i, Nat.le_refl _, hb⟩
          exact ⟨j, by omega, h2⟩
        obtain ⟨j, h1, h3, h4⟩ := hex
        rw [fault_node p fn j h0 (by omega) h3 h1 h4] at h2
        cases h2
end Go.Proofs.Ytkblgafackmckaa.Q
