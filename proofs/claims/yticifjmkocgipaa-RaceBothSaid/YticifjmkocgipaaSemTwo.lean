/- Two configs of the program's, each in a variable of its own; what Plain makes of one. -/
import Derived.Test.YticifjmkocgipaaPk27
import Derived.Test.YticifjmkocgipaaSemPl
import Derived.Test.YticifjmkocgipaaSemRS
namespace Go.Proofs.Yticifjmkocgipaa
open Go.RowKit

/-- A config that is Start's (below S), or whose memory a call made (behind K, where the variables are). -/
def Kin (w : World) (S K : Nat) (q : Pc) : Prop := q.Ok w S ∨ Mine w K q
theorem Kin.ok {w : World} {S K : Nat} {q : Pc} (h : Kin w S K q) (hS : S ≤ w.heap.size) : q.Ok w w.heap.size := by
  rcases h with h | h
  · exact h.more hS
  · exact h.ok
theorem Kin.below {w w' : World} {S K : Nat} {q : Pc} (h : Kin w S K q) (hb : Below w.heap.size w w') (hS : S ≤ w.heap.size) : Kin w' S K q := by
  rcases h with h | h
  · exact .inl (h.below (hb.mono hS))
  · exact .inr (h.below hb (Nat.le_refl _))
theorem Kin.far {w w' : World} {S K g : Nat} {q : Pc} (h : Kin w S K q) (hg : w.grownBy w' (some g)) (h1 : S ≤ g) (h2 : g < K) (hS : S ≤ w.heap.size) : Kin w' S K q := by
  rcases h with h | h
  · exact .inl (h.below ((Below.refl S w).grown hg hS (fun k e => by cases e; exact h1)))
  · exact .inr (h.away2 hg h2 (Nat.le_refl _))
theorem low_stacks {p : Pg} {q : Pc} {w : World} {B : Nat} (hf : Fine p) (hl : p.fns.length = p.len) (hg : M.Good p q.cf) (hq : q.Ok w B) : ∀ x ∈ q.tvs, x.sv.len ≤ 1000 := fun x hx => by
  have h1 := M.high hf hl hg (x := tvT x) (List.mem_map_of_mem hx)
  have h2 := hf.counts.f
  have h3 := (hq.svs x hx).row.len
  have h4 : (tvT x).stack.length = x.sv.stack.length := rfl
  omega
/-- A config as the document has it. -/
def Fact.plain (K : Nat) (c : M.Cf) : Fact :=
  ⟨fun v W => ∃ q', v = rcA q' ∧ RMine W K q' ∧ q'.cf = c ∧ (∀ l ∈ q'.sls, l.length = 8), fun _ _ _ hb ⟨q', h1, h2, h3, h4⟩ => ⟨q', h1, h2.below hb (Nat.le_refl _), h3, h4⟩⟩
theorem rc_own {q : Rc} {c : M.Cf} (h : q.cf = c) (h16 : c.owners.length = 16) : q.ow.length = 16 := by subst h; exact h16
theorem RMine.lower {w : World} {B B' : Nat} {q : Rc} (h : RMine w B q) (hB : B' ≤ B) : RMine w B' q := ⟨h.row.less hB, h.slr.less hB, ⟨fun k x hx => (h.fam.own k x hx).less hB, h.fam.out, h.fam.apart⟩, h.ne⟩
/-- It is this value, where something is so. -/
def Fact.when (b : Bool) (x : Value) : Fact := ⟨fun v _ => b = false → v = x, fun _ _ _ _ h => h⟩
theorem step_th_is {p : Pg} {c : M.Cf} {t : Int} {way : Bool} {u : Nat} (hu : u < c.ths.length) (hne : (u : Int) ≠ t) : M.th (M.step p c t way) u = M.th c u := by
  unfold M.th
  rw [List.getD_eq_getElem?_getD, M.step_th hu hne, List.getD_eq_getElem?_getD]
theorem th_two {a b : List (Nat × Nat)} {l m : List Nat} (h : (⟨a, l⟩ : M.Th) = ⟨b, m⟩) : a = b ∧ l = m := ⟨congrArg M.Th.stack h, congrArg M.Th.slots h⟩
end Go.Proofs.Yticifjmkocgipaa
