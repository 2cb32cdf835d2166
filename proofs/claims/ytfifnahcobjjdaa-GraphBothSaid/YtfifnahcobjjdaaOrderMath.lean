/- The program's order of functions by a heap, on plain data. -/
import Derived.Test.YtfifnahcobjjdaaPk2
import Derived.Test.YtfifnahcobjjdaaPk11
namespace Go.Proofs.Ytfifnahcobjjdaa
open Go.RowKit

/-- The heap's numbers are just the functions that may come next. -/
def HOk (p : Pg) (l : List Nat) (h : List Int) : Prop := h.Nodup ∧ (∀ x ∈ h, ∃ g : Nat, x = (g : Int) ∧ g < p.len ∧ Free p l g) ∧ ∀ g : Nat, g < p.len → Free p l g → (g : Int) ∈ h
/-- Among them f has come, and was told to those before the k-th. -/
def HAt (p : Pg) (l : List Nat) (f : Nat) (h : List Int) (k : Nat) : Prop := h.Nodup ∧ (∀ x ∈ h, ∃ g : Nat, x = (g : Int) ∧ g < p.len ∧ Free p (l ++ [f]) g ∧ (g < k ∨ Free p l g)) ∧ ∀ g : Nat, g < p.len → Free p (l ++ [f]) g → (g < k ∨ Free p l g) → (g : Int) ∈ h
/-- What each one waits for. -/
def MsAt (p : Pg) (l : List Nat) (f : Nat) (ms : List Nat) (k : Nat) : Prop := ms.length = p.len ∧ ∀ g m : Nat, ms[g]? = some m → BitsAre m (fun y => Q.calls p g y ∧ y ∉ if g < k then l ++ [f] else l)
def MsOk (p : Pg) (l : List Nat) (ms : List Nat) : Prop := ms.length = p.len ∧ ∀ g m : Nat, ms[g]? = some m → BitsAre m (fun y => Q.calls p g y ∧ y ∉ l)
/-- Those before the i-th that call nobody. -/
def HFirst (p : Pg) (h : List Int) (i : Nat) : Prop := h.Nodup ∧ (∀ x ∈ h, ∃ g : Nat, x = (g : Int) ∧ g < p.len ∧ Free p [] g ∧ g < i) ∧ ∀ g : Nat, g < p.len → Free p [] g → g < i → (g : Int) ∈ h

theorem nat_len {h : List Int} {n : Nat} (hn : h.Nodup) (hm : ∀ x ∈ h, ∃ g : Nat, x = (g : Int) ∧ g < n) : h.length ≤ n := by
  have h1 := hn.length_le_of_subset (l₂ := (List.range n).map fun g : Nat => (g : Int)) (fun x hx => by
    obtain ⟨g, rfl, hg⟩ := hm x hx
    exact List.mem_map.2 ⟨g, List.mem_range.2 hg, rfl⟩)
  simpa using h1
theorem HOk.len {p : Pg} {l : List Nat} {h : List Int} (k : HOk p l h) : h.length ≤ p.len := nat_len k.1 fun x hx => by
  obtain ⟨g, e, hg, _⟩ := k.2.1 x hx
  exact ⟨g, e, hg⟩
theorem HAt.len {p : Pg} {l : List Nat} {f : Nat} {h : List Int} {i : Nat} (k : HAt p l f h i) : h.length ≤ p.len := nat_len k.1 fun x hx => by
  obtain ⟨g, e, hg, _⟩ := k.2.1 x hx
  exact ⟨g, e, hg⟩
theorem HFirst.len {p : Pg} {h : List Int} {i : Nat} (k : HFirst p h i) : h.length ≤ p.len := nat_len k.1 fun x hx => by
  obtain ⟨g, e, hg, _⟩ := k.2.1 x hx
  exact ⟨g, e, hg⟩
theorem ord_len {p : Pg} {l : List Nat} (hlen : p.fns.length = p.len) (h : IsOrd p l) : l.length ≤ p.len := by
  have h1 := (ord_nodup h).length_le_of_subset (l₂ := List.range p.len) (fun x hx => by
    obtain ⟨k, hk⟩ := List.mem_iff_getElem?.1 hx
    have := (h k x hk).1
    exact List.mem_range.2 (by omega))
  simpa using h1

theorem free_nil {p : Pg} {g : Nat} : Free p [] g ↔ ∀ y, ¬ Q.calls p g y := by
  unfold Free
  simp
theorem zero_bits {m : Nat} {P : Nat → Prop} (h : BitsAre m P) (hP : ∀ y, P y → y < 32) : m = 0 ↔ ∀ y, ¬ P y := by
  constructor
  · rintro rfl y hy
    have := (h.2 y (hP y hy)).2 hy
    rw [Nat.zero_testBit] at this; cases this
  · intro hno
    exact h.uniq (bits_none.congr fun y _ => ⟨False.elim, fun hy => hno y hy⟩)
theorem HFirst.start (p : Pg) : HFirst p [] 0 := ⟨List.nodup_nil, fun x hx => (by cases hx), fun g _ _ hg => by omega⟩
theorem HFirst.push {p : Pg} {h h' : List Int} {i : Nat} (k : HFirst p h i) (hp : h'.Perm ((i : Int) :: h)) (hi : i < p.len) (hf : Free p [] i) : HFirst p h' (i + 1) := by
  refine ⟨hp.symm.nodup (List.nodup_cons.2 ⟨fun hm => ?_, k.1⟩), fun x hx => ?_, fun g hg hfg hgi => hp.mem_iff.2 (List.mem_cons.2 ?_)⟩
  · obtain ⟨g, e, _, _, hlt⟩ := k.2.1 _ hm
    omega
  · rcases List.mem_cons.1 (hp.mem_iff.1 hx) with rfl | hx
    · exact ⟨i, rfl, hi, hf, by omega⟩
    · obtain ⟨g, e, hg, hf, hlt⟩ := k.2.1 x hx
      exact ⟨g, e, hg, hf, by omega⟩
  · by_cases e : g = i
    · subst e; exact .inl rfl
    · exact .inr (k.2.2 g hg hfg (by omega))
theorem HFirst.skip {p : Pg} {h : List Int} {i : Nat} (k : HFirst p h i) (hn : ¬ Free p [] i) : HFirst p h (i + 1) := by
  refine ⟨k.1, fun x hx => ?_, fun g hg hf hgi => ?_⟩
  · obtain ⟨g, e, hg, hf, hlt⟩ := k.2.1 x hx
    exact ⟨g, e, hg, hf, by omega⟩
  · by_cases e : g = i
    · subst e; exact absurd hf hn
    · exact k.2.2 g hg hf (by omega)
theorem HFirst.done {p : Pg} {h : List Int} (k : HFirst p h p.len) : HOk p [] h := ⟨k.1, fun x hx => by
    obtain ⟨g, e, hg, hf, _⟩ := k.2.1 x hx
    exact ⟨g, e, hg, hf⟩, fun g hg hf => k.2.2 g hg hf hg⟩

theorem free_more {p : Pg} {l : List Nat} {f g : Nat} (h : Free p l g) (hne : g ≠ f) : Free p (l ++ [f]) g :=
  ⟨fun hm => by
    rcases List.mem_append.1 hm with h1 | h1
    · exact h.1 h1
    · exact hne (List.mem_singleton.1 h1), fun y hy => List.mem_append_left _ (h.2 y hy)⟩
theorem HAt.start {p : Pg} {l : List Nat} {f : Nat} {h h' : List Int} (k : HOk p l h) (hp : h.Perm ((f : Int) :: h')) : HAt p l f h' 0 := by
  have hnd := List.nodup_cons.1 (hp.nodup k.1)
  refine ⟨hnd.2, fun x hx => ?_, fun g hg hf h0 => ?_⟩
  · obtain ⟨g, e, hg, hf⟩ := k.2.1 x (hp.mem_iff.2 (List.mem_cons_of_mem _ hx))
    exact ⟨g, e, hg, free_more hf (fun e2 => hnd.1 (by rw [← e2, ← e]; exact hx)), .inr hf⟩
  · have h1 := h0.resolve_left (by omega)
    have h2 := hp.mem_iff.1 (k.2.2 g hg h1)
    rcases List.mem_cons.1 h2 with h2 | h2
    · exfalso
      have : g = f := by omega
      subst this
      exact hf.1 (List.mem_append_right _ (List.mem_singleton.2 rfl))
    · exact h2
theorem HAt.push {p : Pg} {l : List Nat} {f : Nat} {h h' : List Int} {i : Nat} (k : HAt p l f h i) (hp : h'.Perm ((i : Int) :: h)) (hi : i < p.len) (hf : Free p (l ++ [f]) i) (hn : ¬ Free p l i) : HAt p l f h' (i + 1) := by
  refine ⟨hp.symm.nodup (List.nodup_cons.2 ⟨fun hm => ?_, k.1⟩), fun x hx => ?_, fun g hg hfg hgi => hp.mem_iff.2 (List.mem_cons.2 ?_)⟩
  · obtain ⟨g, e, _, _, hlt⟩ := k.2.1 _ hm
    have : g = i := by omega
    subst this
    rcases hlt with hlt | hlt
    · omega
    · exact hn hlt
  · rcases List.mem_cons.1 (hp.mem_iff.1 hx) with rfl | hx
    · exact ⟨i, rfl, hi, hf, .inl (by omega)⟩
    · obtain ⟨g, e, hg, hf, hlt⟩ := k.2.1 x hx
      exact ⟨g, e, hg, hf, hlt.imp_left fun h => by omega⟩
  · by_cases e : g = i
    · subst e; exact .inl rfl
    · exact .inr (k.2.2 g hg hfg (hgi.imp_left fun h => by omega))
theorem HAt.skip {p : Pg} {l : List Nat} {f : Nat} {h : List Int} {i : Nat} (k : HAt p l f h i) (hn : ¬ (Free p (l ++ [f]) i ∧ ¬ Free p l i)) : HAt p l f h (i + 1) := by
  refine ⟨k.1, fun x hx => ?_, fun g hg hfg hgi => ?_⟩
  · obtain ⟨g, e, hg, hf, hlt⟩ := k.2.1 x hx
    exact ⟨g, e, hg, hf, hlt.imp_left fun h => by omega⟩
  · by_cases e : g = i
    · subst e
      refine k.2.2 g hg hfg (.inr (Classical.byContradiction fun h2 => hn ⟨hfg, h2⟩))
    · exact k.2.2 g hg hfg (hgi.imp_left fun h => by omega)
theorem HAt.done {p : Pg} {l : List Nat} {f : Nat} {h : List Int} (k : HAt p l f h p.len) : HOk p (l ++ [f]) h := ⟨k.1, fun x hx => by
    obtain ⟨g, e, hg, hf, _⟩ := k.2.1 x hx
    exact ⟨g, e, hg, hf⟩, fun g hg hf => k.2.2 g hg hf (.inl hg)⟩
/-- The last one that it waited for. -/
theorem one_left {p : Pg} {l : List Nat} {f k m : Nat} (hfine : Fine p) (hlen : p.fns.length = p.len) (hord : IsOrd p (l ++ [f])) (hm : BitsAre m (fun y => Q.calls p k y ∧ y ∉ l)) : m = S.one (f : Int) ↔ Free p (l ++ [f]) k ∧ ¬ Free p l k := by
  have hf16 : p.fns.length ≤ 16 := hfine.counts.f.2
  have hlast := hord l.length f (by simp)
  rw [List.take_left' rfl] at hlast
  have hff : Free p l f := hlast.2.1
  have hf32 : f < 32 := by have := hlast.1; omega
  have hcl : ∀ y, Q.calls p k y → y < 32 := fun y hy => by have := fine_in hfine hlen hy; omega
  constructor
  · rintro rfl
    have hb : ∀ y, y < 32 → (Q.calls p k y ∧ y ∉ l ↔ y = f) := fun y hy => (hm.2 y hy).symm.trans (((one_bits (f : Int)).2 y hy).trans (by omega))
    have hkf := (hb f hf32).2 rfl
    refine ⟨⟨fun hk => ?_, fun y hy => ?_⟩, fun h => hkf.2 (h.2 f hkf.1)⟩
    · rcases List.mem_append.1 hk with hk | hk
      · obtain ⟨j, hj⟩ := List.mem_iff_getElem?.1 hk
        have hjl := (List.getElem?_eq_some_iff.1 hj).1
        have h1 := hord j k (by rw [List.getElem?_append_left hjl]; exact hj)
        have h2 := h1.2.1.2 f hkf.1
        rw [List.take_append_of_le_length (by omega)] at h2
        exact hkf.2 (List.mem_of_mem_take h2)
      · have : k = f := List.mem_singleton.1 hk
        subst this
        exact hkf.2 (hff.2 k hkf.1)
    · by_cases hyl : y ∈ l
      · exact List.mem_append_left _ hyl
      · exact List.mem_append_right _ (List.mem_singleton.2 ((hb y (hcl y hy)).1 ⟨hy, hyl⟩))
  · rintro ⟨h1, h2⟩
    have hkl : k ∉ l := fun h => h1.1 (List.mem_append_left _ h)
    have hy : ∃ y, Q.calls p k y ∧ y ∉ l := Classical.byContradiction fun hno => h2 ⟨hkl, fun y hy => Classical.byContradiction fun hyl => hno ⟨y, hy, hyl⟩⟩
    obtain ⟨y, hy, hyl⟩ := hy
    have only : ∀ z, Q.calls p k z → z ∉ l → z = f := fun z hz hzl => by
      rcases List.mem_append.1 (h1.2 z hz) with h | h
      · exact absurd h hzl
      · exact List.mem_singleton.1 h
    have hyf := only y hy hyl
    subst hyf
    refine hm.uniq ((one_bits (y : Int)).congr fun z _ => ?_)
    constructor
    · intro e
      have : z = y := by omega
      subst this
      exact ⟨hy, hyl⟩
    · rintro ⟨h3, h4⟩
      rw [only z h3 h4]
theorem MsOk.start {p : Pg} {ms : List Nat} (hl : ms.length = p.len) (hlen : p.fns.length = p.len) (h : ∀ (f : Nat) (fn : Fn) (m : Nat), p.fns[f]? = some fn → ms[f]? = some m → BitsAre m (Names fn.nodes 7)) : MsOk p [] ms := by
  refine ⟨hl, fun g m hm => ?_⟩
  have hg : g < p.fns.length := by have := (List.getElem?_eq_some_iff.1 hm).1; omega
  have hfn : p.fns[g]? = some p.fns[g] := List.getElem?_eq_getElem hg
  refine (h g _ m hfn hm).congr fun y _ => ?_
  constructor
  · rintro h1
    exact ⟨⟨_, hfn, h1⟩, by simp⟩
  · rintro ⟨⟨f', h1, h2⟩, _⟩
    rw [hfn] at h1; cases h1
    exact h2
theorem MsAt.start {p : Pg} {l : List Nat} {ms : List Nat} (f : Nat) (h : MsOk p l ms) : MsAt p l f ms 0 := ⟨h.1, fun g m hm => (h.2 g m hm).congr fun y _ => by rw [if_neg (by omega)]⟩
theorem MsAt.done {p : Pg} {l : List Nat} {f : Nat} {ms : List Nat} (h : MsAt p l f ms p.len) : MsOk p (l ++ [f]) ms := ⟨h.1, fun g m hm => (h.2 g m hm).congr fun y _ => by rw [if_pos (by have := (List.getElem?_eq_some_iff.1 hm).1; rw [h.1] at this; exact this)]⟩
theorem bits_without {m : Nat} {P : Nat → Prop} (h : BitsAre m P) (x : Int) : BitsAre (m &&& (4294967295 - S.one x)) (fun id => P id ∧ (id : Int) ≠ x) := by
  have ho := S.one_lt x
  refine ⟨Nat.lt_of_le_of_lt Nat.and_le_left h.1, fun id hid => ?_⟩
  rw [Nat.testBit_and, Bool.and_eq_true, h.2 id hid]
  have e : 4294967295 - S.one x = 2 ^ 32 - (S.one x + 1) := by omega
  rw [e, Nat.testBit_two_pow_sub_succ ho, Bool.and_eq_true, decide_eq_true_eq, Bool.not_eq_true']
  have h1 := (one_bits x).2 id hid
  constructor
  · rintro ⟨h2, _, h3⟩
    exact ⟨h2, fun e2 => by rw [h1.2 e2] at h3; cases h3⟩
  · rintro ⟨h2, h3⟩
    refine ⟨h2, hid, ?_⟩
    cases hb : (S.one x).testBit id
    · rfl
    · exact absurd (h1.1 hb) h3
theorem MsAt.step {p : Pg} {l : List Nat} {f k m : Nat} {ms : List Nat} (h : MsAt p l f ms k) (hk : ms[k]? = some m) : MsAt p l f (ms.set k (m &&& (4294967295 - S.one (f : Int)))) (k + 1) := by
  refine ⟨by rw [List.length_set]; exact h.1, fun g m' hm' => ?_⟩
  rw [List.getElem?_set] at hm'
  by_cases e : k = g
  · subst e
    have hkl := (List.getElem?_eq_some_iff.1 hk).1
    rw [if_pos rfl, if_pos hkl] at hm'
    cases hm'
    have h1 := h.2 k m hk
    refine (bits_without h1 (f : Int)).congr fun y _ => ?_
    rw [if_neg (show ¬ k < k by omega), if_pos (show k < k + 1 by omega), List.mem_append, List.mem_singleton]
    constructor
    · rintro ⟨⟨h2, h3⟩, h4⟩
      exact ⟨h2, fun h5 => h5.elim h3 fun e => h4 (by rw [e])⟩
    · rintro ⟨h2, h3⟩
      exact ⟨⟨h2, fun h4 => h3 (.inl h4)⟩, fun e => h3 (.inr (by omega))⟩
  · rw [if_neg e] at hm'
    refine (h.2 g m' hm').congr fun y _ => ?_
    by_cases h2 : g < k
    · rw [if_pos h2, if_pos (show g < k + 1 by omega)]
    · rw [if_neg h2, if_neg (show ¬ g < k + 1 by omega)]
end Go.Proofs.Ytfifnahcobjjdaa
