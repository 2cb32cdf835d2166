/- A thread more, a place more: what is left of a config that the call made. -/
import Derived.Test.YtkblgafackmckaaPk16
import Derived.Test.YtkblgafackmckaaPk18
import Derived.Test.YtkblgafackmckaaPk17
namespace Go.Proofs.Ytkblgafackmckaa
open Go.RowKit

section
variable {P : Program} {ops : Array Oper} {rest : List Oper} {o : Oper} {a : Act} {w : World} {Q : Exit → Act → World → Prop} {α : Type}
theorem wpList_append_room_n (hgd : o.guard = none) (s x : Operand) (t : TypeId)
    (ho : o.op = .call { callee := .builtin .append, args := #[s, x], argTypes := #[t, t] })
    (B : Nat) (e : TypeId) (sz : Nat) (z : Value) (bytes : Nat) (ht : P.underlying t = some (.slice e)) (hi : (P.info? e).map (fun i => (i.zero, i.size, i.bytes)) = some (some z, sz, bytes)) (hzs : z.cells.size = sz) (hsz : 0 < sz)
    (f : α → Nat → Value) (hone : ∀ x j, (f x j).oneCell' = true)
    (q cap n : Nat) (l : List α) (hn : l.length = n) (u : α) (hs : a.eval s = .slice (some ⟨q, 0, none⟩) n cap) (hown : OwnR sz f w B e (.slice (some ⟨q, 0, none⟩) n cap) l) (hroom : n + 1 ≤ cap)
    (gn c : Nat) (hx : a.eval x = .slice (some ⟨gn, 0, none⟩) 1 c) (hbk : Blk w gn e ((List.range sz).map (f u))) (hbytes : (n + 1) * bytes ≤ 140737488355328)
    (h : ∀ w', OwnR sz f w' B e (.slice (some ⟨q, 0, none⟩) (n + 1) cap) (l ++ [u]) → w.grownBy w' (some q) → wpList P ops Q rest (a.put o.dst (.slice (some ⟨q, 0, none⟩) (n + 1) cap)) w') : wpList P ops Q (o :: rest) a w := by
  subst hn
  exact wpList_append_room hgd s x t ho B e sz z bytes ht hi hzs hsz f hone q cap l u hs hown hroom gn c hx hbk hbytes h
theorem wpList_append_full_n (hgd : o.guard = none) (s x : Operand) (t : TypeId)
    (ho : o.op = .call { callee := .builtin .append, args := #[s, x], argTypes := #[t, t] })
    (B : Nat) (e : TypeId) (sz : Nat) (z : Value) (bytes : Nat) (ht : P.underlying t = some (.slice e)) (hi : (P.info? e).map (fun i => (i.zero, i.size, i.bytes)) = some (some z, sz, bytes)) (hzs : z.cells.size = sz) (hsz : 0 < sz)
    (f : α → Nat → Value) (hone : ∀ x j, (f x j).oneCell' = true)
    (q cap n : Nat) (l : List α) (hn : l.length = n) (u : α) (hs : a.eval s = .slice (some ⟨q, 0, none⟩) n cap) (hown : OwnR sz f w B e (.slice (some ⟨q, 0, none⟩) n cap) l) (hfull : cap = n)
    (gn c : Nat) (hx : a.eval x = .slice (some ⟨gn, 0, none⟩) 1 c) (hbk : Blk w gn e ((List.range sz).map (f u))) (h63 : n + 1 ≤ maxLen) (hbytes : (n + 1) * bytes ≤ 140737488355328) (hB : B ≤ w.heap.size)
    (h : ∀ g c' w', OwnR sz f w' B e (.slice (some ⟨g, 0, none⟩) (n + 1) c') (l ++ [u]) → Below w.heap.size w w' → w.heap.size ≤ g → wpList P ops Q rest (a.put o.dst (.slice (some ⟨g, 0, none⟩) (n + 1) c')) w') : wpList P ops Q (o :: rest) a w := by
  subst hn
  subst hfull
  refine wpList_append_full hgd s x t ho B e sz z bytes ht hi hzs hsz f hone _ l u hs hown (.inr ⟨q, rfl⟩) gn c hx hbk h63 hbytes hB fun v' w' h1 h2 h3 => ?_
  obtain ⟨A', c', rfl, _⟩ := h1.form
  rw [List.length_append, List.length_singleton] at h1 h3 ⊢
  cases A' with
  | none => cases h3
  | some ad =>
    have e1 : ad.block = w.heap.size := by injection h3
    obtain ⟨g, cur, hA, _⟩ := h1.blk (by omega)
    injection hA with hA
    subst hA
    exact h g c' w' h1 h2 (by rw [← e1]; exact Nat.le_refl _)
end

/-- A slice of one element that was just made, in no block of G. -/
def GFact.elem (G : Nat → Prop) (e : TypeId) (cs : List Value) (K : Nat) : GFact G :=
  ⟨fun v W => ∃ gn, v = .slice (some ⟨gn, 0, none⟩) 1 1 ∧ Blk W gn e cs ∧ ¬ G gn ∧ K ≤ gn, fun _ _ _ ho ⟨gn, h1, h2, h3, h4⟩ => ⟨gn, h1, ho.blk h2 h3, h3, h4⟩⟩
def Fact.elem (e : TypeId) (cs : List Value) : Fact :=
  ⟨fun v W => ∃ gn, v = .slice (some ⟨gn, 0, none⟩) 1 1 ∧ Blk W gn e cs, fun _ _ _ hb ⟨gn, h1, h2⟩ => ⟨gn, h1, h2.below hb h2.lt⟩⟩
/-- A slice that the call made, its block at K or behind it. -/
def Fact.ownR {α : Type} (sz : Nat) (f : α → Nat → Value) (B : Nat) (e : TypeId) (K n : Nat) (l : List α) : Fact :=
  ⟨fun v W => ∃ g c, v = .slice (some ⟨g, 0, none⟩) n c ∧ OwnR sz f W B e v l ∧ K ≤ g, fun _ _ _ hb ⟨g, c, h1, h2, h3⟩ => ⟨g, c, h1, h2.below hb (Nat.le_refl _), h3⟩⟩

/-- A thread that begins with a function. -/
def newT (a g : Nat) : Tv := ⟨⟨some ⟨g, 0, none⟩, 1, 1, [(a, 0)]⟩, List.replicate 8 0⟩
theorem newT_cells (a g : Nat) : (List.range 9).map (tvV (newT a g)) = Value.slice (some ⟨g, 0, none⟩) 1 1 :: zeros 8 := rfl
theorem Fam.add {e : TypeId} {w : World} {B : Nat} {S : Nat → Prop} {l : List Sv} (h : Fam e w B S l) {x : Sv} (ho : OwnR 2 frV w B e (svV x) x.stack) (hS : ∀ b, (svV x).ownBlock = some b → ¬ S b)
    (hne : ∀ (k : Nat) (y : Sv) (b : Nat), l[k]? = some y → (svV x).ownBlock = some b → (svV y).ownBlock ≠ some b) : Fam e w B S (l ++ [x]) := by
  have key : ∀ (j : Nat) (y : Sv), (l ++ [x])[j]? = some y → (j = l.length ∧ y = x) ∨ (j < l.length ∧ l[j]? = some y) := fun j y hy => by
    rcases Nat.lt_or_ge j l.length with h1 | h1
    · rw [List.getElem?_append_left h1] at hy
      exact .inr ⟨h1, hy⟩
    · have h2 := (List.getElem?_eq_some_iff.1 hy).1
      simp only [List.length_append, List.length_singleton] at h2
      have e1 : j = l.length := by omega
      subst e1
      rw [List.getElem?_append_right (Nat.le_refl _), Nat.sub_self] at hy
      exact .inl ⟨rfl, by simpa using hy.symm⟩
  refine ⟨fun j y hy => ?_, fun j y b hy hb1 => ?_, fun i j y z b hy hz hb1 hb2 => ?_⟩
  · rcases key j y hy with ⟨_, rfl⟩ | ⟨_, hy⟩
    · exact ho
    · exact h.own j y hy
  · rcases key j y hy with ⟨_, rfl⟩ | ⟨_, hy⟩
    · exact hS b hb1
    · exact h.out j y b hy hb1
  · rcases key i y hy with ⟨e1, e2⟩ | ⟨h1, hy'⟩
    · rcases key j z hz with ⟨e3, _⟩ | ⟨h2, hz'⟩
      · rw [e1, e3]
      · rw [e2] at hb1
        exact absurd hb2 (hne j z b hz' hb1)
    · rcases key j z hz with ⟨_, e4⟩ | ⟨h2, hz'⟩
      · rw [e4] at hb2
        exact absurd hb1 (hne i y b hy' hb2)
      · exact h.apart i j y z b hy' hz' hb1 hb2
/-- There is a thread more. -/
theorem St.push {w2 W W' : World} {B gN gU g gT gV a c : Nat} {q : Pc} (h : St w2 B gN gU q) (hA : q.A = some ⟨gT, 0, none⟩) (hg0 : w2.grownBy W (some gT)) (hrow : OwnR 9 tvV W B 63 (.slice (some ⟨gV, 0, none⟩) (q.len + 1) c) (q.tvs ++ [newT a g]))
    (hV : gV = gT ∨ (w2.heap.size ≤ gV ∧ gV ≠ g)) (ho : OwnR 2 frV W B 78 (.slice (some ⟨g, 0, none⟩) 1 1) [(a, 0)]) (hgg : w2.heap.size ≤ g)
    (hb : Blk W' gN 31 ((pcC q).set 0 (.slice (some ⟨gV, 0, none⟩) (q.len + 1) c))) (hg : W.grownBy W' (some gN)) (hz : W'.heap.size = W.heap.size) : St W' B gN gU ⟨some ⟨gV, 0, none⟩, q.len + 1, c, q.tvs ++ [newT a g], q.ow⟩ := by
  have hbT : (Value.slice q.A q.len q.cap).ownBlock = some gT := by rw [hA]; rfl
  have hneT := h.ne gT hbT
  have hTl := (h.row.block gT hbT).2
  have hNl := h.conf.lt
  have hUl := h.low.2
  have hVN : gV ≠ gN := by rcases hV with rfl | hV <;> omega
  have hVU : gV ≠ gU := by rcases hV with rfl | hV <;> omega
  have hVg : gV ≠ g := by rcases hV with rfl | hV <;> omega
  refine ⟨hb, hrow.far hg (.inr fun e => hVN (by cases e; rfl)), ?_, fun b e => by cases e; exact ⟨hVN, hVU⟩, h.low.1, by have := hg0.size; rw [hz]; omega⟩
  have e1 : (q.tvs ++ [newT a g]).map (·.sv) = q.tvs.map (·.sv) ++ [(newT a g).sv] := by rw [List.map_append]; rfl
  show Fam _ W' B _ ((q.tvs ++ [newT a g]).map (·.sv))
  rw [e1]
  have f1 : Fam 78 w2 B (fun b => (b = gN ∨ b = gU ∨ (Value.slice q.A q.len q.cap).ownBlock = some b) ∨ b = gV) (q.tvs.map (·.sv)) := h.fam.less fun b hb => by
    rcases hb with hb | hb
    · exact .inl hb
    · rcases hV with hV | hV
      · subst hb; subst hV; exact .inl (.inr (.inr hbT))
      · right; omega
  have f2 := f1.turn hg0 (fun b e => by cases e; exact .inl (.inr (.inr hbT)))
  have f3 := f2.add (x := (newT a g).sv) ho (fun b e => by
    have e2 : g = b := by injection e
    subst e2
    rintro ((e | e | e) | e)
    · omega
    · omega
    · rw [hbT] at e; cases e; omega
    · exact hVg e.symm) (fun k y b hy e e3 => by
    have e2 : g = b := by injection e
    subst e2
    have := (f1.block hy e3).2
    omega)
  have f4 := f3.turn hg (fun b e => by cases e; exact .inl (.inl rfl))
  refine f4.less fun b hb => ?_
  rcases hb with rfl | rfl | hb
  · exact .inl (.inl (.inl rfl))
  · exact .inl (.inl (.inr (.inl rfl)))
  · cases hb; exact .inl (.inr rfl)
end Go.Proofs.Ytkblgafackmckaa
