/- A relation of worlds: new blocks of one type may be filled with what is good, the rest stays. -/
import Derived.Test.YtkblgafackmckaaTyped
import Derived.Test.YtkblgafackmckaaSemLaw3
namespace Go.Proofs.Ytkblgafackmckaa
open Go.RowKit

structure Keeps (K : Nat) (T : TypeId) (w w' : World) : Prop where
  os : w'.os = w.os
  tape : w'.tape = w.tape
  output : w'.output = w.output
  size : w.heap.size ≤ w'.heap.size
  block : ∀ k, k < w.heap.size → (k < K ∨ ∀ cs, ¬ Blk w k T cs) → w'.heap[k]? = w.heap[k]?
structure Fill (K : Nat) (T : TypeId) (Good : List Value → World → Prop) (w w' : World) : Prop where
  keeps : Keeps K T w w'
  turn : ∀ k cs, K ≤ k → Blk w k T cs → ∃ cs', Blk w' k T cs' ∧ (cs' = cs ∨ Good cs' w')
structure GoodOk (K : Nat) (T : TypeId) (n : Nat) (Good : List Value → World → Prop) : Prop where
  stays : ∀ cs w w', Keeps K T w w' → Good cs w → Good cs w'
  len : ∀ cs w, Good cs w → cs.length = n
section
variable {K : Nat} {T : TypeId} {Good : List Value → World → Prop} {n : Nat}
theorem Fill.of_below {w w' : World} (h : Below w.heap.size w w') : Fill K T Good w w' :=
  ⟨⟨h.os, h.tape, h.output, h.size, fun k hk _ => h.block k hk⟩, fun _ cs _ hb => ⟨cs, hb.below h hb.lt, .inl rfl⟩⟩
theorem Fill.below {w w' : World} (h : Fill w.heap.size T Good w w') : Below w.heap.size w w' :=
  ⟨h.keeps.os, h.keeps.tape, h.keeps.output, h.keeps.size, fun k hk => h.keeps.block k hk (.inl hk)⟩
theorem Fill.ok (hG : GoodOk K T n Good) : RelOk (Fill K T Good) where
  refl w := Fill.of_below (Below.refl _ _)
  drew w := Fill.of_below ⟨rfl, rfl, rfl, Nat.le_refl _, fun _ _ => rfl⟩
  trans {w w1 w2} h k := by
    have hno : ∀ i, i < w.heap.size → (i < K ∨ ∀ cs, ¬ Blk w i T cs) → (i < K ∨ ∀ cs, ¬ Blk w1 i T cs) := fun i hi hc => by
      rcases hc with hc | hc
      · exact .inl hc
      · refine .inr fun cs hb => hc cs ?_
        unfold Blk at hb ⊢
        rw [← h.keeps.block i hi (.inr hc)]; exact hb
    refine ⟨⟨k.keeps.os.trans h.keeps.os, k.keeps.tape.trans h.keeps.tape, k.keeps.output.trans h.keeps.output, Nat.le_trans h.keeps.size k.keeps.size, fun i hi hc => ?_⟩, fun i cs hK hb => ?_⟩
    · exact (k.keeps.block i (Nat.lt_of_lt_of_le hi h.keeps.size) (hno i hi hc)).trans (h.keeps.block i hi hc)
    · obtain ⟨c1, hb1, h1⟩ := h.turn i cs hK hb
      obtain ⟨c2, hb2, h2⟩ := k.turn i c1 hK hb1
      refine ⟨c2, hb2, ?_⟩
      rcases h2 with h2 | h2
      · subst h2
        rcases h1 with h1 | h1
        · exact .inl h1
        · exact .inr (hG.stays _ _ _ k.keeps h1)
      · exact .inr h2
theorem Fill.of_store {w w' : World} {g : Nat} {cs new : List Value} (hg : w.grownBy w' (some g)) (hK : K ≤ g) (hb : Blk w g T cs) (hb' : Blk w' g T new) (hnew : Good new w') : Fill K T Good w w' :=
  ⟨⟨hg.os, hg.tape, hg.output, hg.size, fun k hk hc => hg.block k hk (by
    intro e
    cases e
    rcases hc with hc | hc
    · omega
    · exact hc cs hb)⟩, fun k c _ hbk => by
    by_cases e : k = g
    · subst e; exact ⟨new, hb', .inr hnew⟩
    · exact ⟨c, by unfold Blk; rw [hg.block k hbk.lt (by intro e2; cases e2; exact e rfl)]; exact hbk, .inl rfl⟩⟩
/-- A variable of the type, new. -/
def TFact.var (hG : GoodOk K T n Good) : TFact (Fill K T Good) :=
  ⟨fun v W => ∃ g cs, v = .pointer (some ⟨g, 0, none⟩) ∧ K ≤ g ∧ Blk W g T cs ∧ cs.length = n, fun _ _ _ hf ⟨g, cs, h1, h2, h3, h4⟩ => by
    obtain ⟨c1, hb1, h5⟩ := hf.turn g cs h2 h3
    refine ⟨g, c1, h1, h2, hb1, ?_⟩
    rcases h5 with rfl | h5
    · exact h4
    · exact hG.len _ _ h5⟩
/-- .. that holds what is good. -/
def TFact.good (hG : GoodOk K T n Good) : TFact (Fill K T Good) :=
  ⟨fun v W => ∃ g cs, v = .pointer (some ⟨g, 0, none⟩) ∧ K ≤ g ∧ Blk W g T cs ∧ Good cs W, fun _ _ _ hf ⟨g, cs, h1, h2, h3, h4⟩ => by
    obtain ⟨c1, hb1, h5⟩ := hf.turn g cs h2 h3
    refine ⟨g, c1, h1, h2, hb1, ?_⟩
    rcases h5 with rfl | h5
    · exact hG.stays _ _ _ hf.keeps h4
    · exact h5⟩
theorem OwnR.keeps {α : Type} {sz : Nat} {f : α → Nat → Value} {w w' : World} {B : Nat} {e : TypeId} {v : Value} {l : List α} (h : OwnR sz f w B e v l) (hk : Keeps K T w w') (hne : e ≠ T) : OwnR sz f w' B e v l := by
  refine ⟨h.1, ?_⟩
  rcases h.2 with h2 | ⟨g, cap, cur, h1, h2, h3, h4⟩
  · exact .inl h2
  · refine .inr ⟨g, cap, cur, h1, h2, ?_, h4⟩
    have hlt : g < w.heap.size := by
      rcases Nat.lt_or_ge g w.heap.size with hh | hh
      · exact hh
      · rw [Array.getElem?_eq_none hh] at h3; cases h3
    rw [hk.block g hlt (.inr fun cs hb => by
      unfold Blk at hb
      rw [h3] at hb
      injection hb with hb
      injection hb with _ h5
      exact hne h5)]
    exact h3
end
theorem Mine.keeps {K : Nat} {T : TypeId} {w w' : World} {B : Nat} {q : Pc} (h : Mine w B q) (hk : Keeps K T w w') (h1 : 63 ≠ T) (h2 : 78 ≠ T) : Mine w' B q :=
  ⟨h.row.keeps hk h1, fun k x hx => (h.fam.own k x hx).keeps hk h2, h.fam.out, h.fam.apart⟩
def nodeGood (y : Nd) : List Value → World → Prop := fun cs _ => cs = ndC y
theorem nodeGood_ok (K : Nat) (y : Nd) : GoodOk K 47 4 (nodeGood y) := ⟨fun _ _ _ _ h => h, fun cs _ h => by have h2 : cs = ndC y := h; subst h2; rfl⟩
def confGood (K : Nat) (c1 c2 : M.Cf) : List Value → World → Prop := fun cs w => ∃ q : Pc, cs = pcC q ∧ cs.length = 17 ∧ Mine w K q ∧ (q.cf = c1 ∨ q.cf = c2)
theorem confGood_ok (K : Nat) (c1 c2 : M.Cf) : GoodOk K 31 17 (confGood K c1 c2) :=
  ⟨fun _ _ _ hk ⟨q, h1, h2, h3, h4⟩ => ⟨q, h1, h2, h3.keeps hk (by decide) (by decide), h4⟩, fun _ _ ⟨_, _, h2, _⟩ => h2⟩
/-- A config behind a step. -/
def TFact.stepped (K : Nat) (c1 c2 c : M.Cf) : TFact (Fill K 31 (confGood K c1 c2)) :=
  ⟨fun v W => ∃ q', v = pcA q' ∧ Mine W K q' ∧ q'.cf = c, fun _ _ _ hf ⟨q', h1, h2, h3⟩ => ⟨q', h1, h2.keeps hf.keeps (by decide) (by decide), h3⟩⟩
end Go.Proofs.Ytkblgafackmckaa
