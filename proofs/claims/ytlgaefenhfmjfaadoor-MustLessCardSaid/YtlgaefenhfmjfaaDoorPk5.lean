/- GraphAfter, GraphRef2, GraphRef3, GraphReach. -/
import Derived.Test.YtlgaefenhfmjfaaDoorPk4
namespace Go.Proofs.YtlgaefenhfmjfaaDoor
open Go.RowKit
def Edge (l : List Nd) (j i : Nat) : Prop:=i < l.length ∧ ∃ nd,l[j]? = some nd ∧ (i : Int) ∈ Q.succ nd
def Behind (l : List Nd) (from_ : List Int) (i : Nat) : Prop:=∃ j : Nat,(j : Int) ∈ from_ ∧ j < l.length ∧ Q.Reach (Edge l) l.length j i
def Start (from_ : List Int) (o : Nat → Bool) (j : Nat) : Prop:=(j : Int) ∈ from_ ∨ o j = true
def Closed (l : List Nd) (from_ : List Int) (o : Nat → Bool) : Prop:=∀ j i,j < l.length → Start from_ o j → Edge l j i → o i = true
def Sound (l : List Nd) (from_ : List Int) (o : Nat → Bool) : Prop:=∀ i,o i = true → i < l.length ∧ Behind l from_ i
theorem LP {l : List Nd} {from_ : List Int} {o : Nat → Bool} (hs : Sound l from_ o) {j i : Nat} (hj : j < l.length) (h : Start from_ o j) (he : Edge l j i) : i < l.length ∧ Behind l from_ i:=by
  refine ⟨he.1,?_⟩
  rcases h with h | h
  · exact ⟨j,h,hj,.one he⟩
  · obtain ⟨_,k,hk,hkl,hr⟩:=hs j h
    exact ⟨k,hk,hkl,hr.trans hj (.one he)⟩
structure RoundInv (l : List Nd) (from_ : List Int) (o0 o : Nat → Bool) (i : Nat) : Prop where
  mono : ∀ g,o0 g = true → o g = true
  sound : Sound l from_ o
  done : ∀ j y,j < i → Start from_ o0 j → Edge l j y → o y = true
  keep : Closed l from_ o0 → ∀ g,o g = true → o0 g = true
theorem RoundInv.start {l : List Nd} {from_ : List Int} {o : Nat → Bool} (h : Sound l from_ o) : RoundInv l from_ o o 0:=⟨fun _ h => h,h,fun j y hj => by omega,fun _ _ h => h⟩
theorem RoundInv.skip {l : List Nd} {from_ : List Int} {o0 o : Nat → Bool} {i : Nat} (h : RoundInv l from_ o0 o i) (hn : ¬ Start from_ o i) : RoundInv l from_ o0 o (i + 1):=by
  refine ⟨h.mono,h.sound,fun j y hj hs he => ?_,h.keep⟩
  by_cases hji : j = i
  · subst hji
    refine absurd ?_ hn
    rcases hs with hs | hs
    · exact .inl hs
    · exact .inr (h.mono _ hs)
  · exact h.done j y (by omega) hs he
structure StepInv (l : List Nd) (o o' : Nat → Bool) (s : List Int) (k : Nat) : Prop where
  mono : ∀ g,o g = true → o' g = true
  new : ∀ g,o' g = true → o g = true ∨ (g < l.length ∧ ∃ j,j < k ∧ s[j]? = some (g : Int))
  done : ∀ (j g : Nat),j < k → s[j]? = some (g : Int) → g < l.length → o' g = true
theorem StepInv.start (l : List Nd) (o : Nat → Bool) (s : List Int) : StepInv l o o s 0:=⟨fun _ h => h,fun _ h => .inl h,fun j g hj => by omega⟩
theorem StepInv.skip {l : List Nd} {o o' : Nat → Bool} {s : List Int} {k : Nat} {y : Int} (h : StepInv l o o' s k) (hy : s[k]? = some y) (hn : ¬ (0 ≤ y ∧ y < (l.length : Int))) : StepInv l o o' s (k + 1):=by
  refine ⟨h.mono,fun g hg => ?_,fun j g hj hjs hg => ?_⟩
  · rcases h.new g hg with h1 | ⟨h1,j,hj,h2⟩
    · exact .inl h1
    · exact .inr ⟨h1,j,by omega,h2⟩
  · by_cases hjk : j = k
    · subst hjk;rw [hy] at hjs;cases hjs;exact absurd ⟨by omega,by omega⟩ hn
    · exact h.done j g (by omega) hjs hg
theorem StepInv.set {l : List Nd} {o o' : Nat → Bool} {s : List Int} {k y : Nat} (h : StepInv l o o' s k) (hy : s[k]? = some (y : Int)) (hlt : y < l.length) : StepInv l o (fun g => if g = y then true else o' g) s (k + 1):=by
  refine ⟨fun g hg => ?_,fun g hg => ?_,fun j g hj hjs hg => ?_⟩
  · split
    · rfl
    · exact h.mono g hg
  · by_cases hgy : g = y
    · subst hgy;exact .inr ⟨hlt,k,by omega,hy⟩
    · simp only [if_neg hgy] at hg
      rcases h.new g hg with h1 | ⟨h1,j,hj,h2⟩
      · exact .inl h1
      · exact .inr ⟨h1,j,by omega,h2⟩
  · by_cases hgy : g = y
    · rw [if_pos hgy]
    · rw [if_neg hgy]
      by_cases hjk : j = k
      · subst hjk;rw [hy] at hjs;injection hjs with e;omega
      · exact h.done j g (by omega) hjs hg
theorem RoundInv.step {l : List Nd} {from_ : List Int} {o0 o o' : Nat → Bool} {i : Nat} {nd : Nd} (h : RoundInv l from_ o0 o i) (hi : l[i]? = some nd) (hs : Start from_ o i) (hst : StepInv l o o' (Q.succ nd) (Q.succ nd).length) : RoundInv l from_ o0 o' (i + 1):=by
  have hil : i < l.length:=(List.getElem?_eq_some_iff.1 hi).1
  have edge : ∀ g,g < l.length → (∃ j,j < (Q.succ nd).length ∧ (Q.succ nd)[j]? = some (g : Int)) → Edge l i g:=by
    rintro g hg ⟨j,_,hj⟩
    exact ⟨hg,nd,hi,List.mem_of_getElem? hj⟩
  refine ⟨fun g hg => hst.mono g (h.mono g hg),fun g hg => ?_,fun j y hj hsj he => ?_,fun hc g hg => ?_⟩
  · rcases hst.new g hg with h1 | ⟨h1,h2⟩
    · exact h.sound g h1
    · exact LP h.sound hil hs (edge g h1 h2)
  · by_cases hji : j = i
    · subst hji
      obtain ⟨hyl,nd',hnd',hmem⟩:=he
      rw [hi] at hnd';cases hnd'
      obtain ⟨k,hk⟩:=List.mem_iff_getElem?.1 hmem
      exact hst.done k y (List.getElem?_eq_some_iff.1 hk).1 hk hyl
    · exact hst.mono y (h.done j y (by omega) hsj he)
  · rcases hst.new g hg with h1 | ⟨h1,h2⟩
    · exact h.keep hc g h1
    · have hs0 : Start from_ o0 i:=by
        rcases hs with hs | hs
        · exact .inl hs
        · exact .inr (h.keep hc i hs)
      exact hc i g hil hs0 (edge g h1 h2)
theorem RoundInv.gain {l : List Nd} {from_ : List Int} {o0 o : Nat → Bool} {r : Nat} (h : RoundInv l from_ o0 o l.length) (hr : Closed l from_ o0 ∨ r ≤ cnt o0 l.length) : Closed l from_ o ∨ r + 1 ≤ cnt o l.length:=by
  by_cases hc : Closed l from_ o0
  · refine .inl fun j i hj hs he => h.mono i (hc j i hj ?_ he)
    rcases hs with hs | hs
    · exact .inl hs
    · exact .inr (h.keep hc j hs)
  · have hr' : r ≤ cnt o0 l.length:=hr.resolve_left hc
    have hx : ∃ j i,j < l.length ∧ Start from_ o0 j ∧ Edge l j i ∧ o0 i = false:=by
      refine Classical.byContradiction fun hno => hc fun j i hj hs he => ?_
      cases ho : o0 i
      · exact absurd ⟨j,i,hj,hs,he,ho⟩ hno
      · rfl
    obtain ⟨j,i,hj,hs,he,ho⟩:=hx
    have:=cnt_lt (f:=i) l.length (fun g _ hg => h.mono g hg) he.1 ho (h.done j i hj hs he)
    exact .inr (by omega)
def lenV : Value → Nat
  | .slice _ n _ => n
  | _ => 0
def NextFrom (p : Pg) (l : List Nat) (k : Nat) (nx : Int) : Prop :=
  (nx = -1 ∧ ∀ g,k ≤ g → g < p.len → ¬ Free p l g) ∨ ∃ m : Nat,nx = (m : Int) ∧ k ≤ m ∧ m < p.len ∧ Free p l m ∧ ∀ g,k ≤ g → g < m → ¬ Free p l g
theorem NextFrom.skip {p : Pg} {l : List Nat} {k : Nat} {nx : Int} (h : NextFrom p l (k + 1) nx) (hn : ¬ Free p l k) : NextFrom p l k nx:=by
  rcases h with ⟨h1,h2⟩ | ⟨m,h1,h2,h3,h4,h5⟩
  · refine .inl ⟨h1,fun g hg hl => ?_⟩
    by_cases hgk : g = k
    · subst hgk;exact hn
    · exact h2 g (by omega) hl
  · refine .inr ⟨m,h1,by omega,h3,h4,fun g hg hl => ?_⟩
    by_cases hgk : g = k
    · subst hgk;exact hn
    · exact h5 g (by omega) hl
theorem NextFrom.take {p : Pg} {l : List Nat} {k : Nat} (hk : k < p.len) (hf : Free p l k) : NextFrom p l k (k : Int):=.inr ⟨k,rfl,Nat.le_refl _,hk,hf,fun g h1 h2 => by omega⟩
def outB (o : Nat → Bool) (n : Nat) : List Value:=(List.range n).map fun g => .bool (o g)
theorem qZ (o : Nat → Bool) (n f : Nat) (hf : f < n) : (outB o n)[f]? = some (.bool (o f)):=by
  unfold outB
  rw [List.getElem?_map,List.getElem?_range hf];rfl
theorem yJ (o : Nat → Bool) (n : Nat) : (outB o n).length = n:=by simp [outB]
theorem JU (o : Nat → Bool) (n f : Nat) : (outB o n).set f (.bool true) = outB (fun g => if g = f then true else o g) n:=by
  apply List.ext_getElem?
  intro i
  by_cases hi : i < n
  · rw [qZ _ n i hi]
    by_cases hif : f = i
    · subst hif
      rw [List.getElem?_set_self (by rw [yJ];exact hi),if_pos rfl]
    · rw [List.getElem?_set_ne hif,qZ _ n i hi,if_neg (fun e => hif e.symm)]
  · rw [List.getElem?_eq_none (by rw [List.length_set,yJ];omega),List.getElem?_eq_none (by rw [yJ];omega)]
theorem XS (n : Nat) : List.replicate n (Value.bool false) = outB (fun _ => false) n:=by
  apply List.ext_getElem?
  intro i
  by_cases hi : i < n
  · rw [qZ _ n i hi,List.getElem?_replicate,if_pos hi]
  · rw [List.getElem?_eq_none (by rw [List.length_replicate];omega),List.getElem?_eq_none (by rw [yJ];omega)]
theorem YB : (Tryd.prog.info? 4).map (fun i => (i.zero,i.size,i.bytes)) = some (some (.bool false),1,1):=by kernel_rfl
def CallIn (p : Pg) (x y : Nat) : Prop:=Q.calls p x y ∧ y < p.len
def Comes (p : Pg) (from_ : Nat → Prop) (f : Nat) : Prop:=f < p.len ∧ (from_ f ∨ ∃ j,from_ j ∧ j < p.len ∧ Q.Reach (CallIn p) p.len j f)
def Shut (p : Pg) (o : Nat → Bool) : Prop:=∀ j i,j < p.len → o j = true → CallIn p j i → o i = true
def Right (p : Pg) (from_ : Nat → Prop) (o : Nat → Bool) : Prop:=∀ i,o i = true → Comes p from_ i
theorem u9 {p : Pg} {from_ : Nat → Prop} {j i : Nat} (h : Comes p from_ j) (hc : CallIn p j i) : Comes p from_ i:=by
  refine ⟨hc.2,.inr ?_⟩
  rcases h with ⟨hj,h | ⟨k,hk,hkl,hr⟩⟩
  · exact ⟨j,h,hj,.one hc⟩
  · exact ⟨k,hk,hkl,hr.trans hj (.one hc)⟩
theorem shut_all {p : Pg} {from_ : Nat → Prop} {o : Nat → Bool} (hs : Shut p o) (h0 : ∀ j,from_ j → j < p.len → o j = true) {f : Nat} (h : Comes p from_ f) : o f = true:=by
  obtain ⟨hf,h | ⟨j,hj,hjl,hr⟩⟩:=h
  · exact h0 f h hf
  · have key : ∀ x y,Q.Reach (CallIn p) p.len x y → x < p.len → o x = true → o y = true:=by
      intro x y hr
      induction hr with
      | one he => intro hx ho;exact hs _ _ hx ho he
      | more he hk _ ih => intro hx ho;exact ih hk (hs _ _ hx ho he)
    exact key j f hr hjl (h0 j hj hjl)
structure CallInv (p : Pg) (from_ : Nat → Prop) (o0 o : Nat → Bool) (i : Nat) : Prop where
  mono : ∀ g,o0 g = true → o g = true
  right : Right p from_ o
  done : ∀ j y,j < i → o0 j = true → CallIn p j y → o y = true
  keep : Shut p o0 → ∀ g,o g = true → o0 g = true
theorem CallInv.start {p : Pg} {from_ : Nat → Prop} {o : Nat → Bool} (h : Right p from_ o) : CallInv p from_ o o 0:=⟨fun _ h => h,h,fun j y hj => by omega,fun _ _ h => h⟩
structure NameInv (n : Nat) (o o' : Nat → Bool) (f : Nat) (cs : List Nat) (k : Nat) : Prop where
  mono : ∀ g,o g = true → o' g = true
  self : o' f = true → o f = true
  new : ∀ g,o' g = true → o g = true ∨ (o f = true ∧ g < n ∧ g ∈ cs)
  done : ∀ (j g : Nat),j < k → cs[j]? = some g → g < n → o f = true → o' g = true
theorem NameInv.start (n : Nat) (o : Nat → Bool) (f : Nat) (cs : List Nat) : NameInv n o o f cs 0:=⟨fun _ h => h,fun h => h,fun _ h => .inl h,fun j g hj => by omega⟩
theorem NameInv.skip {n : Nat} {o o' : Nat → Bool} {f : Nat} {cs : List Nat} {k y : Nat} (h : NameInv n o o' f cs k) (hy : cs[k]? = some y) (hn : ¬ (o' f = true ∧ y < n)) : NameInv n o o' f cs (k + 1):=by
  refine ⟨h.mono,h.self,h.new,fun j g hj hjs hg hof => ?_⟩
  by_cases hjk : j = k
  · subst hjk;rw [hy] at hjs;cases hjs;exact absurd ⟨h.mono f hof,hg⟩ hn
  · exact h.done j g (by omega) hjs hg hof
theorem NameInv.set {n : Nat} {o o' : Nat → Bool} {f : Nat} {cs : List Nat} {k y : Nat} (h : NameInv n o o' f cs k) (hy : cs[k]? = some y) (hf : o' f = true) (hlt : y < n) : NameInv n o (fun g => if g = y then true else o' g) f cs (k + 1):=by
  have hf2:=h.self hf
  refine ⟨fun g hg => ?_,fun _ => hf2,fun g hg => ?_,fun j g hj hjs hg hof => ?_⟩
  · split
    · rfl
    · exact h.mono g hg
  · by_cases hgy : g = y
    · subst hgy;exact .inr ⟨hf2,hlt,List.mem_of_getElem? hy⟩
    · simp only [if_neg hgy] at hg
      rcases h.new g hg with h1 | ⟨h1,h2,h3⟩
      · exact .inl h1
      · exact .inr ⟨hf2,h2,h3⟩
  · by_cases hgy : g = y
    · rw [if_pos hgy]
    · rw [if_neg hgy]
      by_cases hjk : j = k
      · subst hjk;rw [hy] at hjs;cases hjs;exact absurd rfl hgy
      · exact h.done j g (by omega) hjs hg hof
theorem CallInv.step {p : Pg} {from_ : Nat → Prop} {o0 o o' : Nat → Bool} {i : Nat} {fn : Fn} (h : CallInv p from_ o0 o i) (hl : p.fns.length = p.len) (h32 : p.len ≤ 32) (hi : p.fns[i]? = some fn) (hst : NameInv p.len o o' i (namedL fn.nodes 7) (namedL fn.nodes 7).length) : CallInv p from_ o0 o' (i + 1):=by
  have hil : i < p.len:=by rw [← hl];exact (List.getElem?_eq_some_iff.1 hi).1
  have call : ∀ g,g < p.len → g ∈ namedL fn.nodes 7 → CallIn p i g:=by
    intro g hg hm
    obtain ⟨_,nd,hnd,h7,ha⟩:=zB.1 hm
    exact ⟨⟨fn,hi,nd,hnd,h7,ha⟩,hg⟩
  refine ⟨fun g hg => hst.mono g (h.mono g hg),fun g hg => ?_,fun j y hj hsj he => ?_,fun hc g hg => ?_⟩
  · rcases hst.new g hg with h1 | ⟨h1,h2,h3⟩
    · exact h.right g h1
    · exact u9 (h.right i h1) (call g h2 h3)
  · by_cases hji : j = i
    · subst hji
      obtain ⟨⟨fn',hx',nd,hnd,h7,ha⟩,hyl⟩:=he
      rw [hi] at hx';cases hx'
      obtain ⟨k,hk⟩:=List.mem_iff_getElem?.1 (zB.2 ⟨by omega,nd,hnd,h7,ha⟩ : y ∈ namedL fn.nodes 7)
      exact hst.done k y (List.getElem?_eq_some_iff.1 hk).1 hk hyl (h.mono j hsj)
    · exact hst.mono y (h.done j y (by omega) hsj he)
  · rcases hst.new g hg with h1 | ⟨h1,h2,h3⟩
    · exact h.keep hc g h1
    · exact hc i g hil (h.keep hc i h1) (call g h2 h3)
theorem CallInv.gain {p : Pg} {from_ : Nat → Prop} {o0 o : Nat → Bool} {r : Nat} (h : CallInv p from_ o0 o p.len) (hr : Shut p o0 ∨ r ≤ cnt o0 p.len) : Shut p o ∨ r + 1 ≤ cnt o p.len:=by
  by_cases hc : Shut p o0
  · exact .inl fun j i hj hs he => h.mono i (hc j i hj (h.keep hc j hs) he)
  · have hr':=hr.resolve_left hc
    have hx : ∃ j i,j < p.len ∧ o0 j = true ∧ CallIn p j i ∧ o0 i = false:=by
      refine Classical.byContradiction fun hno => hc fun j i hj hs he => ?_
      cases ho : o0 i
      · exact absurd ⟨j,i,hj,hs,he,ho⟩ hno
      · rfl
    obtain ⟨j,i,hj,hs,he,ho⟩:=hx
    have:=cnt_lt (f:=i) p.len (fun g _ hg => h.mono g hg) he.2 ho (h.done j i hj hs he)
    exact .inr (by omega)
theorem shut_end {p : Pg} {o : Nat → Bool} (h : Shut p o ∨ p.len ≤ cnt o p.len) : Shut p o:=by
  rcases h with h | h
  · exact h
  · intro j i hj ho he
    cases hoi : o i
    · have:=cnt_lt (P:=o) (P':=fun _ => true) (f:=i) p.len (fun _ _ _ => rfl) he.2 hoi rfl
      have h2:=JD (fun _ => true) p.len
      omega
    · rfl
end Go.Proofs.YtlgaefenhfmjfaaDoor
