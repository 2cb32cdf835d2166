/- Which functions some come to by calls, round by round, on plain data. -/
import Derived.Test.YtfiafbflhglpeaaDoorPk4
namespace Go.Proofs.YtfiafbflhglpeaaDoor
open Go.RowKit
def CallIn (p : Pg) (x y : Nat) : Prop:=Q.calls p x y ∧ y < p.len
def Comes (p : Pg) (from_ : Nat → Prop) (f : Nat) : Prop:=f < p.len ∧ (from_ f ∨ ∃ j,from_ j ∧ j < p.len ∧ Q.Reach (CallIn p) p.len j f)
def Shut (p : Pg) (o : Nat → Bool) : Prop:=∀ j i,j < p.len → o j = true → CallIn p j i → o i = true
def Right (p : Pg) (from_ : Nat → Prop) (o : Nat → Bool) : Prop:=∀ i,o i = true → Comes p from_ i
theorem yJ {p : Pg} {from_ : Nat → Prop} {j i : Nat} (h : Comes p from_ j) (hc : CallIn p j i) : Comes p from_ i:=by
  refine ⟨hc.2,.inr ?_⟩
  rcases h with ⟨hj,h | ⟨k,hk,hkl,hr⟩⟩
  · exact ⟨j,h,hj,.one hc⟩
  · exact ⟨k,hk,hkl,hr.trans hj (.one hc)⟩
theorem shut_all {p : Pg} {from_ : Nat → Prop} {o : Nat → Bool} (hs : Shut p o) (h0 : ∀ j,from_ j → j < p.len → o j = true) {f : Nat} (h : Comes p from_ f) : o f = true:=by
  obtain ⟨hf,h | ⟨j,hj,hjl,hr⟩⟩:=h
  · exact h0 f h hf
  · have key : ∀ x y,Q.Reach (CallIn p) p.len x y → x < p.len → o x = true → o y = true:=by
      intro x y hr
      induction hr with
      | one he => intro hx ho;exact hs _ _ hx ho he
      | more he hk _ ih => intro hx ho;exact ih hk (hs _ _ hx ho he)
    exact key j f hr hjl (h0 j hj hjl)
structure CallInv (p : Pg) (from_ : Nat → Prop) (o0 o : Nat → Bool) (i : Nat) : Prop where
  mono : ∀ g,o0 g = true → o g = true
  right : Right p from_ o
  done : ∀ j y,j < i → o0 j = true → CallIn p j y → o y = true
  keep : Shut p o0 → ∀ g,o g = true → o0 g = true
theorem CallInv.start {p : Pg} {from_ : Nat → Prop} {o : Nat → Bool} (h : Right p from_ o) : CallInv p from_ o o 0:=⟨fun _ h => h,h,fun j y hj => by omega,fun _ _ h => h⟩
structure NameInv (n : Nat) (o o' : Nat → Bool) (f : Nat) (cs : List Nat) (k : Nat) : Prop where
  mono : ∀ g,o g = true → o' g = true
  self : o' f = true → o f = true
  new : ∀ g,o' g = true → o g = true ∨ (o f = true ∧ g < n ∧ g ∈ cs)
  done : ∀ (j g : Nat),j < k → cs[j]? = some g → g < n → o f = true → o' g = true
theorem NameInv.start (n : Nat) (o : Nat → Bool) (f : Nat) (cs : List Nat) : NameInv n o o f cs 0:=⟨fun _ h => h,fun h => h,fun _ h => .inl h,fun j g hj => by omega⟩
theorem NameInv.skip {n : Nat} {o o' : Nat → Bool} {f : Nat} {cs : List Nat} {k y : Nat} (h : NameInv n o o' f cs k) (hy : cs[k]? = some y) (hn : ¬ (o' f = true ∧ y < n)) : NameInv n o o' f cs (k + 1):=by
  refine ⟨h.mono,h.self,h.new,fun j g hj hjs hg hof => ?_⟩
  by_cases hjk : j = k
  · subst hjk;rw [hy] at hjs;cases hjs;exact absurd ⟨h.mono f hof,hg⟩ hn
  · exact h.done j g (by omega) hjs hg hof
theorem NameInv.set {n : Nat} {o o' : Nat → Bool} {f : Nat} {cs : List Nat} {k y : Nat} (h : NameInv n o o' f cs k) (hy : cs[k]? = some y) (hf : o' f = true) (hlt : y < n) : NameInv n o (fun g => if g = y then true else o' g) f cs (k + 1):=by
  have hf2:=h.self hf
  refine ⟨fun g hg => ?_,fun _ => hf2,fun g hg => ?_,fun j g hj hjs hg hof => ?_⟩
  · split
    · rfl
    · exact h.mono g hg
  · by_cases hgy : g = y
    · subst hgy;exact .inr ⟨hf2,hlt,List.mem_of_getElem? hy⟩
    · simp only [if_neg hgy] at hg
      rcases h.new g hg with h1 | ⟨h1,h2,h3⟩
      · exact .inl h1
      · exact .inr ⟨hf2,h2,h3⟩
  · by_cases hgy : g = y
    · rw [if_pos hgy]
    · rw [if_neg hgy]
      by_cases hjk : j = k
      · subst hjk;rw [hy] at hjs;cases hjs;exact absurd rfl hgy
      · exact h.done j g (by omega) hjs hg hof
theorem CallInv.step {p : Pg} {from_ : Nat → Prop} {o0 o o' : Nat → Bool} {i : Nat} {fn : Fn} (h : CallInv p from_ o0 o i) (hl : p.fns.length = p.len) (h32 : p.len ≤ 32) (hi : p.fns[i]? = some fn) (hst : NameInv p.len o o' i (namedL fn.nodes 7) (namedL fn.nodes 7).length) : CallInv p from_ o0 o' (i + 1):=by
  have hil : i < p.len:=by rw [← hl];exact (List.getElem?_eq_some_iff.1 hi).1
  have call : ∀ g,g < p.len → g ∈ namedL fn.nodes 7 → CallIn p i g:=by
    intro g hg hm
    obtain ⟨_,nd,hnd,h7,ha⟩:=uB.1 hm
    exact ⟨⟨fn,hi,nd,hnd,h7,ha⟩,hg⟩
  refine ⟨fun g hg => hst.mono g (h.mono g hg),fun g hg => ?_,fun j y hj hsj he => ?_,fun hc g hg => ?_⟩
  · rcases hst.new g hg with h1 | ⟨h1,h2,h3⟩
    · exact h.right g h1
    · exact yJ (h.right i h1) (call g h2 h3)
  · by_cases hji : j = i
    · subst hji
      obtain ⟨⟨fn',hx',nd,hnd,h7,ha⟩,hyl⟩:=he
      rw [hi] at hx';cases hx'
      obtain ⟨k,hk⟩:=List.mem_iff_getElem?.1 (uB.2 ⟨by omega,nd,hnd,h7,ha⟩ : y ∈ namedL fn.nodes 7)
      exact hst.done k y (List.getElem?_eq_some_iff.1 hk).1 hk hyl (h.mono j hsj)
    · exact hst.mono y (h.done j y (by omega) hsj he)
  · rcases hst.new g hg with h1 | ⟨h1,h2,h3⟩
    · exact h.keep hc g h1
    · exact hc i g hil (h.keep hc i h1) (call g h2 h3)
theorem CallInv.gain {p : Pg} {from_ : Nat → Prop} {o0 o : Nat → Bool} {r : Nat} (h : CallInv p from_ o0 o p.len) (hr : Shut p o0 ∨ r ≤ cnt o0 p.len) : Shut p o ∨ r + 1 ≤ cnt o p.len:=by
  by_cases hc : Shut p o0
  · exact .inl fun j i hj hs he => h.mono i (hc j i hj (h.keep hc j hs) he)
  · have hr':=hr.resolve_left hc
    have hx : ∃ j i,j < p.len ∧ o0 j = true ∧ CallIn p j i ∧ o0 i = false:=by
      refine Classical.byContradiction fun hno => hc fun j i hj hs he => ?_
      cases ho : o0 i
      · exact absurd ⟨j,i,hj,hs,he,ho⟩ hno
      · rfl
    obtain ⟨j,i,hj,hs,he,ho⟩:=hx
    have:=cnt_lt (f:=i) p.len (fun g _ hg => h.mono g hg) he.2 ho (h.done j i hj hs he)
    exact .inr (by omega)
theorem YD {p : Pg} {o : Nat → Bool} (h : Shut p o ∨ p.len ≤ cnt o p.len) : Shut p o:=by
  rcases h with h | h
  · exact h
  · intro j i hj ho he
    cases hoi : o i
    · have:=cnt_lt (P:=o) (P':=fun _ => true) (f:=i) p.len (fun _ _ _ => rfl) he.2 hoi rfl
      have h2:=uU (fun _ => true) p.len
      omega
    · rfl
end Go.Proofs.YtfiafbflhglpeaaDoor
