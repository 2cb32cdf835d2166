/- Programs, on plain data: nothing here speaks of the program. -/
import Derived.Test.YtkglcmbpajfofaaProgIn
namespace Go.Proofs.Ytkglcmbpajfofaa.Q

/-- Few functions and nodes? -/
def small (p : Pg) : Bool := decide (p.fns.length ≤ 40) && p.fns.all fun f => decide (f.nodes.length ≤ 100)
/-- What Arg, Next and Alt are of a kind. -/
def rows : List (List Nat) := [[45, 110, 45], [103, 110, 45], [103, 110, 45], [108, 110, 45], [108, 110, 45], [102, 110, 115], [115, 110, 45], [102, 110, 45], [45, 110, 110], [45, 45, 45]]
def row (k : Int) : List Nat := if k < 0 ∨ 9 < k then [] else rows.getD k.toNat []
/-- How many there are of what a letter names. -/
def size (g l s f : Int) (c : Nat) (nodes : Int) : Int := if c = 103 then g else if c = 108 then l else if c = 115 then s else if c = 102 then f else if c = 110 then max nodes 1 else 1
def fields (x : Nd) : List Int := [x.arg, x.next, x.alt]
/-- May a node be? -/
def may (g l s f : Int) (x : Nd) (nodes : Int) : Bool := decide (row x.kind ≠ []) && (List.range 3).all fun i => decide (0 ≤ (fields x).getD i 0 ∧ (fields x).getD i 0 < size g l s f ((row x.kind).getD i 0) nodes)
/-- Where it goes on. -/
def succ (x : Nd) : List Int := if x.kind = 9 then [] else if x.kind = 8 then [x.next, x.alt] else [x.next]
/-- Does function x call y? -/
def calls (p : Pg) (x y : Nat) : Prop := ∃ f, p.fns[x]? = some f ∧ ∃ nd ∈ f.nodes, nd.kind = 7 ∧ nd.arg = (y : Int)
/-- .. among its first i nodes. -/
def callsTo (l : List Nd) (y : Nat) : Prop := ∃ nd ∈ l, nd.kind = 7 ∧ nd.arg = (y : Int)
/-- Its calls are of functions that there are. -/
def CallsFit (p : Pg) : Prop := ∀ f ∈ p.fns, ∀ nd ∈ f.nodes, nd.kind = 7 → 0 ≤ nd.arg ∧ nd.arg < p.len
/-- The same programs? -/
def Same (p q : Pg) : Prop := p.g = q.g ∧ p.l = q.l ∧ p.s = q.s ∧ p.fns.map (·.nodes) = q.fns.map (·.nodes)
theorem Same.len {p q : Pg} (h : Same p q) : p.fns.length = q.fns.length := by have := congrArg List.length h.2.2.2; simpa using this
theorem not_same {p q : Pg} {i : Nat} {f f2 : Fn} (hf : p.fns[i]? = some f) (hf2 : q.fns[i]? = some f2) (h : f.nodes ≠ f2.nodes) : ¬ Same p q := fun hs => by
  have := congrArg (·[i]?) hs.2.2.2
  simp only [List.getElem?_map, hf, hf2, Option.map_some, Option.some.injEq] at this
  exact h this
theorem nodes_ne {f f2 : Fn} {j : Nat} {x x2 : Nd} (hx : f.nodes[j]? = some x) (hx2 : f2.nodes[j]? = some x2) (h : x ≠ x2) : f.nodes ≠ f2.nodes := fun e => by
  rw [e, hx2] at hx
  exact h (Option.some.inj hx).symm
theorem false_of {P : Prop} {r : Bool} (hr : r = true ↔ P) (h : ¬ P) : false = r := by
  cases r
  · rfl
  · exact absurd (hr.1 rfl) h
theorem true_of {P : Prop} {r : Bool} (hr : r = true ↔ P) (h : P) : true = r := (hr.2 h).symm
end Go.Proofs.Ytkglcmbpajfofaa.Q
