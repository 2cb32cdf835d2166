/- Reach, Mat, CheckMath, RelMath, Tail, Still, ProgP0, ProgP1. -/
import Derived.WalkKit
import Derived.Test.YtoekiejipdabmaaDoorPk1
import Derived.Test.YtoekiejipdabmaaDoorPk2
import Derived.StillTailTactics
import Derived.Test.YtoekiejipdabmaaDoorProgRef2
import Derived.BigQuiet
import Derived.Sort.AtCall
namespace Go.Proofs.YtoekiejipdabmaaDoor.Q
inductive Reach (R : Nat → Nat → Prop) (n : Nat) : Nat → Nat → Prop
  | one {x y : Nat} : R x y → Reach R n x y
  | more {x j y : Nat} : R x j → j < n → Reach R n j y → Reach R n x y
theorem Reach.trans {R : Nat → Nat → Prop} {n x j y : Nat} (h : Reach R n x j) (hj : j < n) (k : Reach R n j y) : Reach R n x y:=by
  induction h with
  | one h => exact .more h hj k
  | more h hl _ ih => exact .more h hl (ih hj k)
def Via (R : Nat → Nat → Prop) : Nat → Nat → Nat → Prop
  | 0 => R
  | k + 1 => fun x y => Via R k x y ∨ (Via R k x k ∧ Via R k k y)
theorem vX {R : Nat → Nat → Prop} {x y : Nat} (h : R x y) : ∀ k,Via R k x y
  | 0 => h
  | k + 1 => .inl (vX h k)
theorem yA {R : Nat → Nat → Prop} : ∀ (k j x y : Nat),j < k → Via R k x j → Via R k j y → Via R k x y
  | 0,j,_,_,hj,_,_ => by omega
  | k + 1,j,x,y,hj,h1,h2 => by
    rcases Nat.lt_or_ge j k with hlt | hge
    · rcases h1 with h1 | ⟨h1,h1'⟩
      · rcases h2 with h2 | ⟨h2,h2'⟩
        · exact .inl (yA k j x y hlt h1 h2)
        · exact .inr ⟨yA k j x k hlt h1 h2,h2'⟩
      · rcases h2 with h2 | ⟨_,h2'⟩
        · exact .inr ⟨h1,yA k j k y hlt h1' h2⟩
        · exact .inr ⟨h1,h2'⟩
    · have e : j = k:=by omega
      subst e
      have a : Via R j x j:=by rcases h1 with h1 | ⟨h1,_⟩ <;> exact h1
      have b : Via R j j y:=by rcases h2 with h2 | ⟨_,h2⟩ <;> exact h2
      exact .inr ⟨a,b⟩
theorem J4 {R : Nat → Nat → Prop} {n x y : Nat} (h : Reach R n x y) : Via R n x y:=by
  induction h with
  | one h => exact vX h n
  | more h hj _ ih => exact yA n _ _ _ hj (vX h n) ih
def mget (M : List (List Nat)) (a b : Nat) : Nat:=(M.getD a []).getD b 0
def mset (M : List (List Nat)) (a b : Nat) : List (List Nat):=M.set a ((M.getD a []).set b 1)
def Square (n : Nat) (M : List (List Nat)) : Prop:=M.length = n ∧ ∀ r ∈ M,r.length = n
theorem Square.row {n : Nat} {M : List (List Nat)} (h : Square n M) {a : Nat} (ha : a < n) : ∃ r,M[a]? = some r ∧ r.length = n ∧ M.getD a [] = r:=by
  have hl : a < M.length:=by rw [h.1];exact ha
  exact ⟨M[a],List.getElem?_eq_getElem hl,h.2 _ (List.getElem_mem hl),by rw [List.getD_eq_getElem?_getD,List.getElem?_eq_getElem hl];rfl⟩
theorem LH {n : Nat} {M : List (List Nat)} (h : Square n M) {a b : Nat} (ha : a < n) : Square n (mset M a b):=by
  obtain ⟨r,_,hr,e⟩:=h.row ha
  refine ⟨by unfold mset;rw [List.length_set];exact h.1,fun x hx => ?_⟩
  unfold mset at hx
  rcases List.mem_or_eq_of_mem_set hx with hx | hx
  · exact h.2 x hx
  · rw [hx,List.length_set,e,hr]
theorem zX {n : Nat} {M : List (List Nat)} (h : Square n M) {a b : Nat} (ha : a < n) (hb : b < n) (x y : Nat) : mget (mset M a b) x y = if x = a ∧ y = b then 1 else mget M x y:=by
  obtain ⟨r,hra,hr,e⟩:=h.row ha
  have hl : a < M.length:=by rw [h.1];exact ha
  unfold mget mset
  rw [e]
  by_cases hx : x = a
  · subst hx
    have h1 : (M.set x (r.set b 1)).getD x [] = r.set b 1:=by rw [List.getD_eq_getElem?_getD,List.getElem?_set_self hl];rfl
    rw [h1,e]
    by_cases hy : y = b
    · subst hy
      rw [if_pos ⟨rfl,rfl⟩,List.getD_eq_getElem?_getD,List.getElem?_set_self (by rw [hr];exact hb)]
      rfl
    · rw [if_neg (by intro h;exact hy h.2),List.getD_eq_getElem?_getD,List.getElem?_set_ne (by omega),← List.getD_eq_getElem?_getD]
  · have h2 : (M.set a (r.set b 1)).getD x [] = M.getD x []:=by rw [List.getD_eq_getElem?_getD,List.getElem?_set_ne (by omega),← List.getD_eq_getElem?_getD]
    rw [if_neg (by intro h;exact hx h.1),h2]
structure Closing (R : Nat → Nat → Prop) (n k a b : Nat) (M : List (List Nat)) : Prop where
  sq : Square n M
  sound : ∀ x y,x < n → y < n → mget M x y = 1 → Reach R n x y
  base : ∀ x y,x < n → y < n → Via R k x y → mget M x y = 1
  done : ∀ x y,x < n → y < n → (x < a ∨ (x = a ∧ y < b)) → Via R k x k → Via R k k y → mget M x y = 1
theorem Closing.set {R : Nat → Nat → Prop} {n k a b : Nat} {M : List (List Nat)} (h : Closing R n k a b M) (hk : k < n) (ha : a < n) (hb : b < n) (h1 : mget M a k = 1) (h2 : mget M k b = 1) : Closing R n k a (b + 1) (mset M a b):=by
  refine ⟨LH h.sq ha,fun x y hx hy e => ?_,fun x y hx hy v => ?_,fun x y hx hy hlt v1 v2 => ?_⟩
  · rw [zX h.sq ha hb] at e
    split at e
    · rename_i hxy
      rw [hxy.1,hxy.2]
      exact (h.sound a k ha hk h1).trans hk (h.sound k b hk hb h2)
    · exact h.sound x y hx hy e
  · rw [zX h.sq ha hb]
    split
    · rfl
    · exact h.base x y hx hy v
  · rw [zX h.sq ha hb]
    split
    · rfl
    · rename_i hxy
      exact h.done x y hx hy (by omega) v1 v2
theorem Closing.skip {R : Nat → Nat → Prop} {n k a b : Nat} {M : List (List Nat)} (h : Closing R n k a b M) (hk : k < n) (h1 : ¬ (mget M a k = 1 ∧ mget M k b = 1)) : Closing R n k a (b + 1) M:=by
  refine ⟨h.sq,h.sound,h.base,fun x y hx hy hlt v1 v2 => ?_⟩
  by_cases e : x = a ∧ y = b
  · exfalso
    obtain ⟨rfl,rfl⟩:=e
    exact h1 ⟨h.base x k hx hk v1,h.base k y hk hy v2⟩
  · exact h.done x y hx hy (by omega) v1 v2
theorem Closing.line {R : Nat → Nat → Prop} {n k a : Nat} {M : List (List Nat)} (h : Closing R n k a n M) : Closing R n k (a + 1) 0 M :=
  ⟨h.sq,h.sound,h.base,fun x y hx hy _ v1 v2 => h.done x y hx hy (by omega) v1 v2⟩
theorem Closing.round {R : Nat → Nat → Prop} {n k : Nat} {M : List (List Nat)} (h : Closing R n k n 0 M) : Closing R n (k + 1) 0 0 M :=
  ⟨h.sq,h.sound,fun x y hx hy v => by
    rcases v with v | ⟨v1,v2⟩
    · exact h.base x y hx hy v
    · exact h.done x y hx hy (by omega) v1 v2,fun x y _ _ hlt _ _ => by omega⟩
theorem Closing.end_ {R : Nat → Nat → Prop} {n : Nat} {M : List (List Nat)} (h : Closing R n n 0 0 M) (x y : Nat) (hx : x < n) (hy : y < n) : mget M x y = 1 ↔ Reach R n x y :=
  ⟨h.sound x y hx hy,fun r => h.base x y hx hy (J4 r)⟩
theorem Closing.start {R : Nat → Nat → Prop} {n : Nat} {M : List (List Nat)} (hs : Square n M) (h : ∀ x y,x < n → y < n → (mget M x y = 1 ↔ R x y)) : Closing R n 0 0 0 M :=
  ⟨hs,fun x y hx hy e => .one ((h x y hx hy).1 e),fun x y hx hy v => (h x y hx hy).2 v,fun x y _ _ hlt _ _ => by omega⟩
end Go.Proofs.YtoekiejipdabmaaDoor.Q
namespace Go.Proofs.YtoekiejipdabmaaDoor
open Go.RowKit
def rowV (n : Nat) (g : Nat) : Value:=.slice (some ⟨g,0,none⟩) n n
structure Mat (w : World) (C : Nat) (e e2 : TypeId) (v : Value) (n : Nat) (gs : List Nat) (M : List (List Nat)) : Prop where
  own : Own w C e v (gs.map (rowV n))
  len : gs.length = M.length
  blk : ∀ (i g : Nat) (r : List Nat),gs[i]? = some g → M[i]? = some r → Blk w g e2 (r.map natV) ∧ r.length = n
  lo : ∀ g ∈ gs,C ≤ g
  apart : ∀ g ∈ gs,v.ownBlock ≠ some g
  nodup : gs.Nodup
section
variable {w w' : World} {C : Nat} {e e2 : TypeId} {v : Value} {n : Nat} {gs : List Nat} {M : List (List Nat)}
theorem Mat.nil (w : World) (C : Nat) (e e2 : TypeId) (n : Nat) : Mat w C e e2 (.slice none 0 0) n [] [] :=
  ⟨Own.nil _ _ _,rfl,fun i g r h => by simp at h,by simp,by simp,List.nodup_nil⟩
theorem Mat.below (h : Mat w C e e2 v n gs M) (hb : Below w.heap.size w w') : Mat w' C e e2 v n gs M :=
  ⟨h.own.below hb (Nat.le_refl _),h.len,fun i g r hg hr => ⟨(h.blk i g r hg hr).1.below hb (h.blk i g r hg hr).1.lt,(h.blk i g r hg hr).2⟩,h.lo,h.apart,h.nodup⟩
theorem Mat.drewN (h : Mat w C e e2 v n gs M) (k : Nat) : Mat (w.drewN k) C e e2 v n gs M:=h.below (below_drewN (Below.refl _ _) k)
theorem Mat.less (h : Mat w C e e2 v n gs M) {C' : Nat} (hC : C' ≤ C) : Mat w C' e e2 v n gs M :=
  ⟨h.own.less hC,h.len,h.blk,fun g hg => Nat.le_trans hC (h.lo g hg),h.apart,h.nodup⟩
theorem Mat.fresh (h : Mat w C e e2 v n gs M) {x : Nat} (hx : w.heap.size ≤ x) : v.ownBlock ≠ some x ∧ ∀ g ∈ gs,g ≠ x:=by
  refine ⟨fun e1 => ?_,fun g hg e1 => ?_⟩
  · have:=(h.own.block x e1).2
    omega
  · obtain ⟨i,hi,rfl⟩:=List.getElem_of_mem hg
    have hM : i < M.length:=by rw [← h.len];exact hi
    have:=(h.blk i _ _ (List.getElem?_eq_getElem hi) (List.getElem?_eq_getElem hM)).1.lt
    omega
theorem Mat.snoc (h : Mat w C e e2 v n gs M) {g : Nat} {r : List Nat} {v' : Value} (hown : Own w' C e v' (gs.map (rowV n) ++ [rowV n g])) (hg : Grew w w' v v') (hk : Blk w g e2 (r.map natV)) (hr : r.length = n) (hC : C ≤ g) (hf : v.ownBlock ≠ some g ∧ ∀ g' ∈ gs,g' ≠ g) :
    Mat w' C e e2 v' n (gs ++ [g]) (M ++ [r]):=by
  obtain ⟨hv,hnew⟩:=hf
  have hap : ∀ x,(x < w.heap.size) → v.ownBlock ≠ some x → v'.ownBlock ≠ some x:=fun x hx hne e1 => by
    rcases hg.2 with h2 | h2
    · exact hne (h2 ▸ e1)
    · have:=h2 x e1;omega
  have hold : ∀ (i x : Nat) (q : List Nat),gs[i]? = some x → M[i]? = some q → Blk w' x e2 (q.map natV) ∧ q.length = n:=fun i x q hx hq =>
    ⟨(h.blk i x q hx hq).1.grown hg.1 (fun e1 => h.apart x (List.mem_of_getElem? hx) e1.symm),(h.blk i x q hx hq).2⟩
  refine ⟨by rw [List.map_append];exact hown,by simp [h.len],fun i x q hx hq => ?_,fun x hx => ?_,fun x hx => ?_,?_⟩
  · by_cases hi : i < gs.length
    · rw [List.getElem?_append_left hi] at hx
      rw [List.getElem?_append_left (by rw [← h.len];exact hi)] at hq
      exact hold i x q hx hq
    · rw [List.getElem?_append_right (by omega)] at hx
      rw [List.getElem?_append_right (by rw [← h.len];omega)] at hq
      have hi0 : i - gs.length = 0:=by
        rcases Nat.eq_zero_or_pos (i - gs.length) with h0 | h0
        · exact h0
        · rw [List.getElem?_eq_none (by simp;omega)] at hx;cases hx
      rw [hi0] at hx
      rw [← h.len,hi0] at hq
      simp at hx hq
      subst hx;subst hq
      exact ⟨hk.grown hg.1 (fun e1 => hv e1.symm),hr⟩
  · rcases List.mem_append.1 hx with hx | hx
    · exact h.lo x hx
    · rw [List.mem_singleton] at hx;rw [hx];exact hC
  · rcases List.mem_append.1 hx with hx | hx
    · obtain ⟨i,hi,rfl⟩:=List.getElem_of_mem hx
      have hM : i < M.length:=by rw [← h.len];exact hi
      exact hap _ (h.blk i _ _ (List.getElem?_eq_getElem hi) (List.getElem?_eq_getElem hM)).1.lt (h.apart _ hx)
    · rw [List.mem_singleton] at hx;rw [hx];exact hap g hk.lt hv
  · rw [List.nodup_append]
    exact ⟨h.nodup,by simp,fun a ha b hb => by rw [List.mem_singleton] at hb;rw [hb];exact hnew a ha⟩
theorem Mat.get (h : Mat w C e e2 v n gs M) {a : Nat} (ha : a < M.length) :
    ∃ (ad : Addr) (g cap : Nat) (r : List Nat),v = .slice (some ad) M.length cap ∧ ad.block < w.heap.size ∧ gs[a]? = some g ∧ M[a]? = some r ∧ r.length = n ∧ w.cell? (ad.add a) = some (.slice (some ⟨g,0,none⟩) n n) ∧ Blk w g e2 (r.map natV) ∧ C ≤ g ∧ v.ownBlock ≠ some g ∧ M.length ≤ cap ∧ cap ≤ maxLen:=by
  obtain ⟨A,cap,hv,hc,hm,hr⟩:=Own.readsN h.own h.len
  obtain ⟨ad,g,e1,hb,hg,hcell⟩:=hr.get (k:=a) ha
  obtain ⟨r,hra⟩ : ∃ r,M[a]? = some r:=⟨_,List.getElem?_eq_getElem ha⟩
  obtain ⟨k1,k2⟩:=h.blk a g r hg hra
  exact ⟨ad,g,cap,r,by rw [hv,e1],hb,hg,hra,k2,hcell,k1,h.lo g (List.mem_of_getElem? hg),h.apart g (List.mem_of_getElem? hg),hc,hm⟩
theorem Mat.set (h : Mat w C e e2 v n gs M) {a b g : Nat} (hg : gs[a]? = some g) : Mat (w.setCell ⟨g,b,none⟩ (natV 1)) C e e2 v n gs (Q.mset M a b):=by
  have hal : a < gs.length:=(List.getElem?_eq_some_iff.1 hg).1
  have haM : a < M.length:=by rw [← h.len];exact hal
  have hgr : w.grownBy (w.setCell ⟨g,b,none⟩ (natV 1)) (some g):=jX (jS _ _)
  refine ⟨h.own.far hgr ?_,by unfold Q.mset;rw [List.length_set];exact h.len,fun i x q hx hq => ?_,h.lo,h.apart,h.nodup⟩
  · exact .inr (h.apart g (List.mem_of_getElem? hg))
  · unfold Q.mset at hq
    by_cases hi : a = i
    · subst hi
      rw [hg] at hx;cases hx
      rw [List.getElem?_set_self haM] at hq
      cases hq
      obtain ⟨k1,k2⟩:=h.blk a g _ hg (List.getElem?_eq_getElem haM)
      have e1 : M.getD a [] = M[a]:=by rw [List.getD_eq_getElem?_getD,List.getElem?_eq_getElem haM];rfl
      rw [e1]
      refine ⟨?_,by rw [List.length_set];exact k2⟩
      have:=k1.set b (natV 1)
      rw [List.map_set]
      exact this
    · rw [List.getElem?_set_ne hi] at hq
      obtain ⟨k1,k2⟩:=h.blk i x q hx hq
      refine ⟨k1.other _ _ ?_,k2⟩
      intro e1
      have hil : i < gs.length:=(List.getElem?_eq_some_iff.1 hx).1
      have h1 : gs[i]'hil = x:=(List.getElem?_eq_some_iff.1 hx).2
      have h2 : gs[a]'hal = g:=(List.getElem?_eq_some_iff.1 hg).2
      have h3 : gs[i]'hil = gs[a]'hal:=by rw [h1,h2];exact e1
      have hp:=List.pairwise_iff_getElem.1 h.nodup
      rcases Nat.lt_or_gt_of_ne hi with hlt | hlt
      · exact hp a i hal hil hlt h3.symm
      · exact hp i a hil hal hlt h3
end
end Go.Proofs.YtoekiejipdabmaaDoor
namespace Go.Proofs.YtoekiejipdabmaaDoor.Q
open Classical in
noncomputable def firstIdx (P : Nat → Prop) : Nat → Option Nat
  | 0 => none
  | n + 1 => match firstIdx P n with
    | some i => some i
    | none => if P n then some n else none
theorem firstIdx_none {P : Nat → Prop} : ∀ n,(∀ i,i < n → ¬ P i) → firstIdx P n = none
  | 0,_ => rfl
  | n + 1,h => by
    have h1:=firstIdx_none n fun i hi => h i (by omega)
    have h2:=h n (by omega)
    simp only [firstIdx,h1,if_neg h2]
theorem lP {P : Nat → Prop} {i : Nat} (hP : P i) : ∀ n,i < n → (∀ j,j < i → ¬ P j) → firstIdx P n = some i
  | 0,hi,_ => by omega
  | n + 1,hi,h => by
    by_cases hin : i < n
    · have h1:=lP hP n hin h
      simp only [firstIdx,h1]
    · have e : i = n:=by omega
      subst e
      have h1:=firstIdx_none i h
      simp only [firstIdx,h1,if_pos hP]
def badNode (p : Pg) (fn : Fn) (i : Nat) : Prop:=∃ nd,fn.nodes[i]? = some nd ∧ may p.g p.l p.s p.len nd fn.nodes.length = false
noncomputable def fnFault (p : Pg) (fn : Fn) : Int × Nat :=
  if fn.nodes.length = 0 then (-1,1) else if 64 < fn.nodes.length then (-1,4) else match firstIdx (badNode p fn) fn.nodes.length with
    | some i => ((i : Int),3)
    | none => (0,0)
def badFn (p : Pg) (f : Nat) : Prop:=∃ fn,p.fns[f]? = some fn ∧ (fnFault p fn).2 ≠ 0
def roundAt (p : Pg) (f i : Nat) : Prop:=∃ fn nd,p.fns[f]? = some fn ∧ fn.nodes[i]? = some nd ∧ nd.kind = 7 ∧ ∃ k : Nat,nd.arg = (k : Int) ∧ k < p.fns.length ∧ (k = f ∨ Reach (calls p) p.fns.length k f)
noncomputable def roundIn (p : Pg) (f : Nat) : Option Nat:=firstIdx (roundAt p f) 64
def badRound (p : Pg) (f : Nat) : Prop:=∃ i,roundAt p f i
noncomputable def check (p : Pg) : Int × Int × Nat :=
  if p.g < 0 ∨ p.l < 0 ∨ p.s < 0 ∨ p.fns.length = 0 then (-1,-1,1)
  else if 16 < p.g ∨ 16 < p.l ∨ 8 < p.s ∨ 16 < p.fns.length then (-1,-1,4)
  else match firstIdx (badFn p) p.fns.length with
    | some f => ((f : Int),(fnFault p (p.fns.getD f default)).1,(fnFault p (p.fns.getD f default)).2)
    | none => match firstIdx (badRound p) p.fns.length with
      | some f => ((f : Int),(((roundIn p f).getD 0 : Nat) : Int),8)
      | none => (0,0,0)
theorem fault_empty (p : Pg) (fn : Fn) (h : fn.nodes.length = 0) : fnFault p fn = (-1,1):=by unfold fnFault;rw [if_pos h]
theorem fault_long (p : Pg) (fn : Fn) (h : 64 < fn.nodes.length) : fnFault p fn = (-1,4):=by unfold fnFault;rw [if_neg (by omega),if_pos h]
theorem fault_node (p : Pg) (fn : Fn) (i : Nat) (h0 : fn.nodes.length ≠ 0) (h64 : fn.nodes.length ≤ 64) (hi : badNode p fn i) (hlt : i < fn.nodes.length) (hp : ∀ j,j < i → ¬ badNode p fn j) : fnFault p fn = ((i : Int),3):=by
  unfold fnFault
  rw [if_neg h0,if_neg (by omega),lP hi _ hlt hp]
theorem fault_none (p : Pg) (fn : Fn) (h0 : fn.nodes.length ≠ 0) (h64 : fn.nodes.length ≤ 64) (hp : ∀ j,j < fn.nodes.length → ¬ badNode p fn j) : fnFault p fn = (0,0):=by
  unfold fnFault
  rw [if_neg h0,if_neg (by omega),firstIdx_none _ hp]
structure Counts (p : Pg) : Prop where
  g : 0 ≤ p.g ∧ p.g ≤ 16
  l : 0 ≤ p.l ∧ p.l ≤ 16
  s : 0 ≤ p.s ∧ p.s ≤ 8
  f : 0 < p.fns.length ∧ p.fns.length ≤ 16
theorem check_fn {p : Pg} (hc : Counts p) {f : Nat} {fn : Fn} (hf : p.fns[f]? = some fn) (hb : (fnFault p fn).2 ≠ 0) (hp : ∀ j,j < f → ¬ badFn p j) : check p = ((f : Int),(fnFault p fn).1,(fnFault p fn).2):=by
  have hlt : f < p.fns.length:=(List.getElem?_eq_some_iff.1 hf).1
  unfold check
  rw [if_neg (by have:=hc.g;have:=hc.l;have:=hc.s;have:=hc.f;omega),if_neg (by have:=hc.g;have:=hc.l;have:=hc.s;have:=hc.f;omega),lP ⟨fn,hf,hb⟩ _ hlt hp]
  have e : p.fns.getD f default = fn:=by rw [List.getD_eq_getElem?_getD,hf];rfl
  simp only [e]
theorem check_round {p : Pg} (hc : Counts p) (hn : ∀ j,j < p.fns.length → ¬ badFn p j) {f i : Nat} (hr : roundAt p f i) (hi : i < 64) (hlt : f < p.fns.length) (hp : ∀ j,j < f → ¬ badRound p j) (hpi : ∀ j,j < i → ¬ roundAt p f j) : check p = ((f : Int),(i : Int),8):=by
  unfold check
  rw [if_neg (by have:=hc.g;have:=hc.l;have:=hc.s;have:=hc.f;omega),if_neg (by have:=hc.g;have:=hc.l;have:=hc.s;have:=hc.f;omega),firstIdx_none _ hn]
  simp only
  rw [lP ⟨i,hr⟩ _ hlt hp]
  have e : roundIn p f = some i:=lP hr _ hi hpi
  simp only [e,Option.getD_some]
theorem check_fine {p : Pg} (hc : Counts p) (hn : ∀ j,j < p.fns.length → ¬ badFn p j) (hp : ∀ j,j < p.fns.length → ¬ badRound p j) : check p = (0,0,0):=by
  unfold check
  rw [if_neg (by have:=hc.g;have:=hc.l;have:=hc.s;have:=hc.f;omega),if_neg (by have:=hc.g;have:=hc.l;have:=hc.s;have:=hc.f;omega),firstIdx_none _ hn]
  simp only
  rw [firstIdx_none _ hp]
theorem fine_fn {p : Pg} {f : Nat} {fn : Fn} (hf : p.fns[f]? = some fn) (h : ¬ badFn p f) : 0 < fn.nodes.length ∧ fn.nodes.length ≤ 64 ∧ ∀ (i : Nat) (nd : Nd),fn.nodes[i]? = some nd → may p.g p.l p.s p.len nd fn.nodes.length = true:=by
  have h2 : (fnFault p fn).2 = 0:=by
    cases e : (fnFault p fn).2 with
    | zero => rfl
    | succ k => exact absurd ⟨fn,hf,by omega⟩ h
  by_cases h0 : fn.nodes.length = 0
  · rw [fault_empty p fn h0] at h2;cases h2
  · by_cases h64 : 64 < fn.nodes.length
    · rw [fault_long p fn h64] at h2;cases h2
    · refine ⟨by omega,by omega,fun i nd hnd => ?_⟩
      cases hm : may p.g p.l p.s p.len nd fn.nodes.length with
      | true => rfl
      | false =>
        exfalso
        have hb : badNode p fn i:=⟨nd,hnd,hm⟩
        have hil : i < fn.nodes.length:=(List.getElem?_eq_some_iff.1 hnd).1
        -- some first one
        have hex : ∃ i,i < fn.nodes.length ∧ badNode p fn i ∧ ∀ j,j < i → ¬ badNode p fn j:=by
          have : ∀ n,(∃ i,i ≤ n ∧ badNode p fn i) → ∃ i,i ≤ n ∧ badNode p fn i ∧ ∀ j,j < i → ¬ badNode p fn j:=by
            intro n
            induction n with
            | zero => rintro ⟨i,hi,hb⟩;exact ⟨i,hi,hb,fun j hj => by omega⟩
            | succ n ih =>
              rintro ⟨i,hi,hb⟩
              by_cases h : ∃ j,j ≤ n ∧ badNode p fn j
              · obtain ⟨j,h1,h2⟩:=ih h
                exact ⟨j,by omega,h2⟩
              · exact ⟨i,hi,hb,fun j hj hbj => h ⟨j,by omega,hbj⟩⟩
          obtain ⟨j,h1,h2⟩:=this i ⟨i,Nat.le_refl _,hb⟩
          exact ⟨j,by omega,h2⟩
        obtain ⟨j,h1,h3,h4⟩:=hex
        rw [fault_node p fn j h0 (by omega) h3 h1 h4] at h2
        cases h2
end Go.Proofs.YtoekiejipdabmaaDoor.Q
namespace Go.Proofs.YtoekiejipdabmaaDoor.Q
structure Clo (R : Nat → Nat → Prop) (n k a b : Nat) (G : Nat → Nat → Prop) : Prop where
  sound : ∀ x y,x < n → y < n → G x y → Reach R n x y
  base : ∀ x y,x < n → y < n → Via R k x y → G x y
  done : ∀ x y,x < n → y < n → (x < a ∨ (x = a ∧ y < b)) → Via R k x k → Via R k k y → G x y
section
variable {R : Nat → Nat → Prop} {n k a b : Nat} {G G' : Nat → Nat → Prop}
theorem Clo.step (h : Clo R n k a b G) (hk : k < n) (ha : a < n) (hb : b < n) (hG : ∀ x y,x < n → y < n → (G' x y ↔ G x y ∨ (x = a ∧ y = b ∧ G a k ∧ G k b))) : Clo R n k a (b + 1) G':=by
  refine ⟨fun x y hx hy e => ?_,fun x y hx hy v => (hG x y hx hy).2 (.inl (h.base x y hx hy v)),fun x y hx hy hlt v1 v2 => ?_⟩
  · rcases (hG x y hx hy).1 e with e | ⟨rfl,rfl,g1,g2⟩
    · exact h.sound x y hx hy e
    · exact (h.sound x k hx hk g1).trans hk (h.sound k y hk hy g2)
  · by_cases e : x = a ∧ y = b
    · obtain ⟨rfl,rfl⟩:=e
      exact (hG x y hx hy).2 (.inr ⟨rfl,rfl,h.base x k hx hk v1,h.base k y hk hy v2⟩)
    · exact (hG x y hx hy).2 (.inl (h.done x y hx hy (by omega) v1 v2))
theorem Clo.line (h : Clo R n k a n G) : Clo R n k (a + 1) 0 G :=
  ⟨h.sound,h.base,fun x y hx hy _ v1 v2 => h.done x y hx hy (by omega) v1 v2⟩
theorem Clo.round (h : Clo R n k n 0 G) : Clo R n (k + 1) 0 0 G :=
  ⟨h.sound,fun x y hx hy v => by
    rcases v with v | ⟨v1,v2⟩
    · exact h.base x y hx hy v
    · exact h.done x y hx hy (by omega) v1 v2,fun x y _ _ hlt _ _ => by omega⟩
theorem Clo.end_ (h : Clo R n n 0 0 G) (x y : Nat) (hx : x < n) (hy : y < n) : G x y ↔ Reach R n x y :=
  ⟨h.sound x y hx hy,fun r => h.base x y hx hy (J4 r)⟩
theorem Clo.start (h : ∀ x y,x < n → y < n → (G x y ↔ R x y)) : Clo R n 0 0 0 G :=
  ⟨fun x y hx hy e => .one ((h x y hx hy).1 e),fun x y hx hy v => (h x y hx hy).2 v,fun x y _ _ hlt _ _ => by omega⟩
end
def ent (L : List Bool) (x y : Nat) : Prop:=L.getD (x * 16 + y) false = true
theorem ent_set {L : List Bool} (hL : L.length = 256) {a b : Nat} (ha : a < 16) (hb : b < 16) (v : Bool) (x y : Nat) (_hx : x < 16) (hy : y < 16) : ent (L.set (a * 16 + b) v) x y ↔ if x = a ∧ y = b then v = true else ent L x y:=by
  unfold ent
  by_cases e : x = a ∧ y = b
  · obtain ⟨rfl,rfl⟩:=e
    rw [if_pos ⟨rfl,rfl⟩,List.getD_eq_getElem?_getD,List.getElem?_set_self (by omega)]
    simp
  · rw [if_neg e,List.getD_eq_getElem?_getD,List.getElem?_set_ne (by omega),← List.getD_eq_getElem?_getD]
theorem ent_zero (x y : Nat) : ¬ ent (List.replicate 256 false) x y:=by
  unfold ent
  rw [List.getD_eq_getElem?_getD,List.getElem?_replicate]
  split <;> simp
theorem ent_at {L : List Bool} (hL : L.length = 256) {x y : Nat} (hx : x < 16) (hy : y < 16) : ∃ v,L[x * 16 + y]? = some v ∧ (ent L x y ↔ v = true):=by
  have h : x * 16 + y < L.length:=by omega
  refine ⟨L[x * 16 + y],List.getElem?_eq_getElem h,?_⟩
  unfold ent
  rw [List.getD_eq_getElem?_getD,List.getElem?_eq_getElem h]
  rfl
theorem reach_less {R : Nat → Nat → Prop} {n m : Nat} (hR : ∀ x y,R x y → y < m) {x y : Nat} (h : Reach R n x y) : Reach R m x y:=by
  induction h with
  | one h => exact .one h
  | more h _ _ ih => exact .more h (hR _ _ h) ih
theorem reach_more {R : Nat → Nat → Prop} {n m : Nat} (hnm : m ≤ n) {x y : Nat} (h : Reach R m x y) : Reach R n x y:=by
  induction h with
  | one h => exact .one h
  | more h hj _ ih => exact .more h (by omega) ih
theorem calls_lt {p : Pg} (h : CallsFit p) (x y : Nat) (hc : calls p x y) : y < p.len:=by
  obtain ⟨f,hf,nd,hnd,h7,ha⟩:=hc
  have:=h f (List.mem_of_getElem? hf) nd hnd h7
  omega
end Go.Proofs.YtoekiejipdabmaaDoor.Q
namespace Go.Proofs.YtoekiejipdabmaaDoor
open Go.RowKit
def maskOf (acc : List Nat) (o : Oper) : Nat:=(waits o).foldl (fun m j => m ||| (2 ^ j ||| acc.getD j 0)) 0
def masks (l : List Oper) : List Nat:=l.foldl (fun acc o => acc ++ [maskOf acc o]) []
theorem QW (l : List Oper) (o : Oper) : masks (l ++ [o]) = masks l ++ [maskOf (masks l) o]:=by simp [masks]
theorem zY (l : List Oper) : (masks l).length = l.length:=by
  have h : ∀ (l : List Oper) (acc : List Nat),(l.foldl (fun acc o => acc ++ [maskOf acc o]) acc).length = acc.length + l.length:=by
    intro l
    induction l with
    | nil => intro acc;rfl
    | cons o r ih => intro acc;rw [List.foldl_cons,ih];simp;omega
  have:=h l []
  simpa [masks] using this
theorem uM (l : List Oper) (i : Nat) (o : Oper) (h : l[i]? = some o) : (masks l).getD i 0 = maskOf (masks (l.take i)) o:=by
  have hi:=(List.getElem?_eq_some_iff.1 h).1
  have e : l = l.take i ++ [o] ++ l.drop (i + 1):=by
    have h1 : l.take (i + 1) = l.take i ++ [o]:=by rw [List.take_add_one,h];rfl
    rw [← h1,List.take_append_drop]
  have hpre : ∀ (r : List Oper) (a : List Oper),(masks (a ++ r)).take a.length = masks a:=by
    intro r a
    have hx : ∀ (r : List Oper) (acc : List Nat),∃ t,r.foldl (fun acc o => acc ++ [maskOf acc o]) acc = acc ++ t:=by
      intro r
      induction r with
      | nil => intro acc;exact ⟨[],by simp⟩
      | cons x r ih =>
        intro acc
        obtain ⟨t,ht⟩:=ih (acc ++ [maskOf acc x])
        exact ⟨[maskOf acc x] ++ t,by rw [List.foldl_cons,ht,List.append_assoc]⟩
    obtain ⟨t,ht⟩:=hx r (masks a)
    have h3 : masks (a ++ r) = masks a ++ t:=by unfold masks at ht ⊢;rw [List.foldl_append];exact ht
    rw [h3,List.take_left' (zY a)]
  have hl : (l.take i).length = i:=by rw [List.length_take];omega
  have h2:=hpre (l.drop (i + 1)) (l.take i ++ [o])
  rw [← e,List.length_append,hl,QW] at h2
  have h3 : (masks l)[i]? = ((masks l).take (i + 1))[i]?:=by rw [List.getElem?_take,if_pos (by omega)]
  rw [List.getD_eq_getElem?_getD,h3]
  show (((masks l).take (i + [o].length))[i]?).getD 0 = _
  rw [h2,List.getElem?_append_right (by rw [zY,hl];exact Nat.le_refl _),zY,hl,Nat.sub_self]
  rfl
theorem XN (f : Nat → Nat) (j : Nat) : ∀ (l : List Nat) (m : Nat),(l.foldl (fun m k => m ||| f k) m).testBit j = true → m.testBit j = true ∨ ∃ k ∈ l,(f k).testBit j = true
  | [],m,h => .inl h
  | k :: l,m,h => by
    rcases XN f j l _ h with h | ⟨k',hk,h⟩
    · rw [Nat.testBit_or,Bool.or_eq_true] at h
      rcases h with h | h
      · exact .inl h
      · exact .inr ⟨k,List.mem_cons_self,h⟩
    · exact .inr ⟨k',List.mem_cons_of_mem _ hk,h⟩
theorem lZ {l : List Oper} {listed : Array Bool} (hback : ∀ i o,l[i]? = some o → ∀ e ∈ o.after,Region.binds .any e = true → e.on < i)
    (hshut : ∀ j oj,l[j]? = some oj → listed.getD j false = true → ∀ e ∈ oj.after,Region.binds .any e = true → listed.getD e.on false = true) :
    ∀ i o,l[i]? = some o → (∀ e ∈ o.after,Region.binds .any e = true → listed.getD e.on false = true) → ∀ j,((masks l).getD i 0).testBit j = true → listed.getD j false = true:=by
  intro i
  induction i using Nat.strongRecOn with
  | _ i ih =>
    intro o ho hw j hj
    rw [uM l i o ho] at hj
    rcases XN _ j _ _ hj with h | ⟨k,hk,h⟩
    · simp at h
    · obtain ⟨e,he,hb,hon⟩:=yF.1 hk
      have hkl : listed.getD k false = true:=by rw [← hon];exact hw e he hb
      have hki : k < i:=by rw [← hon];exact hback i o ho e he hb
      rw [Nat.testBit_or,Bool.or_eq_true] at h
      rcases h with h | h
      · rw [Nat.testBit_two_pow] at h
        have : k = j:=by simpa using h
        rw [← this];exact hkl
      · have hil:=(List.getElem?_eq_some_iff.1 ho).1
        have hk2 : l[k]? = some (l[k]'(by omega)):=List.getElem?_eq_getElem (by omega)
        have hkt : (l.take i)[k]? = some (l[k]'(by omega)):=by rw [List.getElem?_take,if_pos hki];exact hk2
        have h' : ((masks l).getD k 0).testBit j = true:=by
          rw [uM l k _ hk2]
          rw [uM (l.take i) k _ hkt,List.take_take,Nat.min_eq_left (by omega)] at h
          exact h
        exact ih k hki _ hk2 (hshut k _ hk2 hkl) j h'
def tailOk (l : List Oper) (n : Nat) : Bool:=(List.range l.length).all fun i => decide (i < n) || (masks l).getD i 0 == 2 ^ i - 1
section
variable {P : Program} {Q : Exit → Act → World → Prop} {a0 : Act} {w : World} {R : List Fact} {D : List (List (Nat × Nat))} {every : List (Nat × Nat)} {l : List Oper} {n : Nat}
theorem forced (hback : ∀ i o,l[i]? = some o → ∀ e ∈ o.after,Region.binds .any e = true → e.on < i) (ht : tailOk l n = true) :
    ∀ (fuel m : Nat) (listed : Array Bool) (a : Act) (W : World),n ≤ m → l.length ≤ m + fuel → listed.size = l.length → (∀ j,j < m → listed.getD j false = true) → (∀ j,m ≤ j → j < l.length → listed.getD j true = false) →
      wpList P l.toArray Q (l.drop m) a W → wpAny P .any l.toArray Q fuel listed a W:=by
  intro fuel
  induction fuel with
  | zero =>
    intro m listed a W hn hm hs h1 h2 h
    rw [List.drop_of_length_le (by omega)] at h
    refine ⟨?_,h⟩
    cases hr : Region.ready .any l.toArray listed with
    | nil => rfl
    | cons x xs =>
      have hx : x ∈ Region.ready .any l.toArray listed:=by rw [hr];exact List.mem_cons_self
      obtain ⟨hl,o,hi,_⟩:=mem_ready.1 hx
      have hlt : x < l.length:=by
        have:=(Array.getElem?_eq_some_iff.1 hi).1
        simpa using this
      have h3:=h1 x (by omega)
      have hxl : x < listed.size:=by omega
      simp [hxl] at hl h3
      rw [hl] at h3;cases h3
  | succ fuel ih =>
    intro m listed a W hn hm hs h1 h2 h
    rcases Nat.lt_or_ge m l.length with hml | hml
    rotate_left
    · rw [List.drop_of_length_le hml] at h
      refine ⟨fun _ => h,fun i hi => ?_⟩
      exfalso
      obtain ⟨hl,o,hio,_⟩:=mem_ready.1 hi
      have hlt : i < l.length:=by
        have:=(Array.getElem?_eq_some_iff.1 hio).1
        simpa using this
      have h3:=h1 i (by omega)
      have hxl : i < listed.size:=by omega
      simp [hxl] at hl h3
      rw [hl] at h3;cases h3
    have hmo : l[m]? = some l[m]:=List.getElem?_eq_getElem hml
    have hmr : m ∈ Region.ready .any l.toArray listed:=mem_ready.2 ⟨h2 m (Nat.le_refl _) hml,l[m],by simp,fun e he hb => h1 _ (hback m _ hmo e he hb)⟩
    refine ⟨fun hr => (by rw [hr] at hmr;cases hmr),fun i hi => ?_⟩
    obtain ⟨hil,o,hio,hall⟩:=mem_ready.1 hi
    have hio' : l[i]? = some o:=by simpa using hio
    have hilt:=(List.getElem?_eq_some_iff.1 hio').1
    have him : m ≤ i:=by
      rcases Nat.lt_or_ge i m with hlt | hge
      · have h3:=h1 i hlt
        have hxl : i < listed.size:=by omega
        simp [hxl] at hil h3
        rw [hil] at h3;cases h3
      · exact hge
    have hshut : ∀ j oj,l[j]? = some oj → listed.getD j false = true → ∀ e ∈ oj.after,Region.binds .any e = true → listed.getD e.on false = true:=by
      intro j oj hj hlj e he hb
      have hjl:=(List.getElem?_eq_some_iff.1 hj).1
      have hjm : j < m:=by
        rcases Nat.lt_or_ge j m with hlt | hge
        · exact hlt
        · have h3:=h2 j hge hjl
          have hxl : j < listed.size:=by omega
          simp [hxl] at h3 hlj
          rw [h3] at hlj;cases hlj
      exact h1 _ (Nat.lt_trans (hback j oj hj e he hb) hjm)
    have hie : i = m:=by
      rcases Nat.lt_or_ge m i with hlt | hge
      · exfalso
        have ht1:=List.all_eq_true.1 ht i (List.mem_range.2 hilt)
        have ht2 : (masks l).getD i 0 = 2 ^ i - 1:=by
          simp only [Bool.or_eq_true,decide_eq_true_eq,beq_iff_eq] at ht1
          rcases ht1 with h | h
          · omega
          · exact h
        have h3:=lZ hback hshut i o hio' hall m (by rw [ht2,Nat.testBit_two_pow_sub_one];simpa using hlt)
        have h4:=h2 m (Nat.le_refl _) hml
        have hxl : m < listed.size:=by omega
        simp [hxl] at h3 h4
        rw [h4] at h3;cases h3
      · omega
    subst hie
    have hoo : o = l[i]:=by rw [hmo] at hio';cases hio';rfl
    subst hoo
    rw [List.drop_eq_getElem_cons hml] at h
    have hK : ∀ a' W',wpList P l.toArray Q (l.drop (i + 1)) a' W' → wpAny P .any l.toArray Q fuel (listed.setIfInBounds i true) a' W':=fun a' W' h' =>
      ih (i + 1) _ a' W' (by omega) (by omega) (by simpa using hs) (fun j hj => by
        by_cases hji : j = i
        · subst hji
          have : j < listed.size:=by omega
          simp [this]
        · exact getD_set_true (h1 j (by omega))) (fun j hj hjl => by rw [getD_set_ne true (by omega)];exact h2 j (by omega) hjl) h'
    unfold wpOp
    rw [hio]
    simp only
    unfold wpList at h
    split
    · rename_i hw
      rw [if_pos hw] at h
      exact h.imp (Oper.wp_mono hK) id
    · rename_i hw
      rw [if_neg hw] at h
      exact hK _ _ h
theorem QS {E : List (Nat × Nat)} (hok : ∀ i o,l.toArray[i]? = some o → OpOk l.toArray D E a0.tmps.size i o) (hev : ∀ p ∈ every,p.1 < n ∧ ∃ oj,l[p.1]? = some oj ∧ oj.dst = some p.2) (ht : tailOk l n = true) (hn : n ≤ l.length)
    (hob : ∀ i o,i < n → l.toArray[i]? = some o → ∀ W,Below w.heap.size w W → given R W (fun a1 => wpList P l.toArray (PartPost a0.defers W o (factAt R i)) [o] a1 W) (D.getD i []) a0)
    (hmem : ∀ i o d,i < n → l[i]? = some o → o.dst = some d → (i,d) ∈ every)
    (hend : ∀ W,Below w.heap.size w W → given R W (fun a => wpList P l.toArray Q (l.drop n) a W) every a0) :
    ∀ (fuel : Nat) (listed : Array Bool) (a : Act) (W : World),PInv l.toArray R a0 w listed a W → (∀ j,n ≤ j → j < l.length → listed.getD j true = false) → (listed.toList.take n).count false + (l.length - n) ≤ fuel → wpAny P .any l.toArray Q fuel listed a W:=by
  have hback : ∀ i o,l[i]? = some o → ∀ e ∈ o.after,Region.binds .any e = true → e.on < i:=fun i o hi => (hok i o (by simpa using hi)).back
  have switch : ∀ (fuel : Nat) (listed : Array Bool) (a : Act) (W : World),PInv l.toArray R a0 w listed a W → (∀ j,n ≤ j → j < l.length → listed.getD j true = false) → (∀ j,j < n → listed.getD j false = true) → l.length - n ≤ fuel → wpAny P .any l.toArray Q fuel listed a W:=by
    intro fuel listed a W h h2 h1 hf
    have hs : listed.size = l.length:=by have:=h.size;simpa using this
    refine forced hback ht fuel n listed a W (Nat.le_refl _) (by omega) hs h1 h2 ?_
    have h3:=xO (a:=a) every a0 (hend W h.ext) fun p hp => by
      obtain ⟨hpn,oj,hj,hd⟩:=hev p hp
      exact h.got p.1 oj p.2 (by simpa using hj) hd (h1 p.1 hpn)
    have e1 : fill a every a0 = a:=by
      have e2 : (fill a every a0).tmps = a.tmps:=by
        apply Array.ext_getElem?
        intro t
        rw [yK]
        by_cases hc : t ∈ every.map (·.2) ∧ t < a0.tmps.size
        · rw [if_pos hc,zK a t (by rw [h.tsz];exact hc.2)]
        · rw [if_neg hc]
          by_cases hts : t < a0.tmps.size
          · refine (h.old t fun j oj hj hd => ?_).symm
            have hj' : l[j]? = some oj:=by simpa using hj
            rcases Nat.lt_or_ge j n with hjn | hjn
            · exact absurd ⟨List.mem_map.2 ⟨(j,t),hmem j oj t hjn hj' hd,rfl⟩,hts⟩ hc
            · have hjl:=(List.getElem?_eq_some_iff.1 hj').1
              have h4:=h2 j hjn hjl
              have hxl : j < listed.size:=by omega
              simp [hxl] at h4 ⊢;exact h4
          · rw [Array.getElem?_eq_none (by omega),Array.getElem?_eq_none (by rw [h.tsz];omega)]
      have e3:=(xD a every a0).trans h.defs.symm
      cases hf : fill a every a0
      cases a
      rw [hf] at e2 e3
      simp only at e2 e3
      rw [e2,e3]
    rw [e1] at h3
    exact h3
  intro fuel
  induction fuel with
  | zero =>
    intro listed a W h h2 hc
    refine switch 0 listed a W h h2 (fun j hj => ?_) (by omega)
    have hs : listed.size = l.length:=by have:=h.size;simpa using this
    have hn0 : false ∉ listed.toList.take n:=List.count_eq_zero.1 (by omega)
    have hjl : j < listed.size:=by omega
    cases hb : listed[j]
    · refine absurd ?_ hn0
      have : (listed.toList.take n)[j]? = some false:=by rw [List.getElem?_take,if_pos hj];simp [hjl,hb]
      exact List.mem_of_getElem? this
    · simp [hjl,hb]
  | succ fuel ih =>
    intro listed a W h h2 hc
    have hs : listed.size = l.length:=by have:=h.size;simpa using this
    by_cases hall : ∀ j,j < n → listed.getD j false = true
    · exact switch _ listed a W h h2 hall (by omega)
    · refine ⟨fun hr => ?_,fun i hi => ?_⟩
      · exact absurd (fun j hj => yY hok h.size hr j (by simp;omega)) hall
      · obtain ⟨hl,o,hio,hw⟩:=mem_ready.1 hi
        have hio' : l[i]? = some o:=by simpa using hio
        have hil:=(List.getElem?_eq_some_iff.1 hio').1
        have hin : i < n:=by
          rcases Nat.lt_or_ge i n with hlt | hge
          · exact hlt
          · exfalso
            refine hall fun j hj => ?_
            have ht1:=List.all_eq_true.1 ht i (List.mem_range.2 hil)
            have ht2 : (masks l).getD i 0 = 2 ^ i - 1:=by
              simp only [Bool.or_eq_true,decide_eq_true_eq,beq_iff_eq] at ht1
              rcases ht1 with h | h
              · omega
              · exact h
            exact lZ hback (fun j oj hj => h.shut j oj (by simpa using hj)) i o hio' hw j (by rw [ht2,Nat.testBit_two_pow_sub_one];simpa using (by omega : j < i))
        refine LA hio (hok i o hio) (hob i o hin hio) h hi fun a' W' h' => ih _ _ _ h' (fun j hj hjl => by rw [getD_set_ne true (by omega)];exact h2 j hj hjl) ?_
        have hixl : i < listed.size:=by omega
        have:=yL (listed.toList.take n) i (by
          rw [List.getElem?_take,if_pos hin]
          simp [hixl] at hl ⊢;exact hl)
        rw [Array.toList_setIfInBounds,List.take_set]
        omega
theorem jJ {id : Nat} (n : Nat) (R : List Fact) (D : List (List (Nat × Nat))) (every : List (Nat × Nat)) (hm : P.follows .mixedOrders = true) (hok : partsOk l.toArray D (every ++ ((List.range l.length).filterMap fun i => if n ≤ i then ((l[i]?).bind (·.dst)).map fun d => (i,d) else none)) a0.tmps.size = true)
    (ht : tailOk l n = true) (hn : decide (n ≤ l.length) = true) (hev : every.all (fun p => decide (p.1 < n)) = true)
    (hob : obs P l.toArray R D w a0 0 (l.take n)) (hend : ∀ W,Below w.heap.size w W → given R W (fun a => wpList P l.toArray Q (l.drop n) a W) every a0) : (Code.region id l.toArray true).wp P Q a0 w:=by
  unfold partsOk at hok
  simp only [Bool.and_eq_true] at hok
  generalize hE : every ++ ((List.range l.length).filterMap fun i => if n ≤ i then ((l[i]?).bind (·.dst)).map fun d => (i,d) else none) = E at hok
  have hn' : n ≤ l.length:=by simpa using hn
  have ok : ∀ i o,l.toArray[i]? = some o → OpOk l.toArray D E a0.tmps.size i o:=fun i o hi => OpOk.of (by
    have:=List.all_eq_true.1 hok.1 i (List.mem_range.2 (Array.getElem?_eq_some_iff.1 hi).1)
    rw [hi] at this
    exact this)
  have hmem : ∀ i o d,i < n → l[i]? = some o → o.dst = some d → (i,d) ∈ every:=fun i o d hin hio hd => by
    have h1:=((ok i o (by simpa using hio)).dst d hd).2.1
    rw [← hE,List.mem_append] at h1
    rcases h1 with h1 | h1
    · exact h1
    · exfalso
      obtain ⟨k,hk,hkk⟩:=List.mem_filterMap.1 h1
      split at hkk
      · obtain ⟨d',_,hdd⟩:=Option.map_eq_some_iff.1 hkk
        cases hdd;omega
      · cases hkk
  have hev' : ∀ p ∈ every,p.1 < n ∧ ∃ oj,l[p.1]? = some oj ∧ oj.dst = some p.2:=fun p hp => by
    have h1:=List.all_eq_true.1 hok.2 p (by rw [← hE];exact List.mem_append_left _ hp)
    obtain ⟨oj,h6,h7⟩:=Option.bind_eq_some_iff.1 (beq_iff_eq.1 h1)
    have h2:=List.all_eq_true.1 hev p hp
    exact ⟨by simpa using h2,oj,by simpa using h6,h7⟩
  refine wp_region_any hm (QS (every:=every) (D:=D) (R:=R) (n:=n) ok hev' ht hn' (fun i o hin hio W hW => ?_) hmem hend _ _ a0 _ ⟨by simp,⟨rfl,rfl,rfl,Nat.le_refl _,fun _ _ => rfl⟩,rfl,rfl,fun j oj d hj _ hl => ?_,fun _ _ => rfl,fun j oj hj hl => ?_⟩ (fun j _ hjl => by simp [hjl]) ?_)
  · have h1:=QT (l.take n) 0 hob i o (by rw [List.getElem?_take,if_pos hin];simpa using hio) W hW
    rw [Nat.zero_add] at h1
    exact h1
  · exfalso
    have hlt : j < l.length:=by have:=(Array.getElem?_eq_some_iff.1 hj).1;simpa using this
    simp [hlt] at hl
  · exfalso
    have hlt : j < l.length:=by have:=(Array.getElem?_eq_some_iff.1 hj).1;simpa using this
    simp [hlt] at hl
  · simp;omega
end
end Go.Proofs.YtoekiejipdabmaaDoor
namespace Go.Proofs.YtoekiejipdabmaaDoor
section
variable {P : Program} {ops : Array Oper} {w : World} {Q : Act → Prop} {a : Act} {o : Oper} {rest : List Oper}
end
end Go.Proofs.YtoekiejipdabmaaDoor
namespace Go.Proofs.YtoekiejipdabmaaDoor
open Go.RowKit
def roomQ (g l s f k n : Int) : Int × Int × Int :=
  if k = 0 then (1,n,1)
  else if k = 1 then (g,n,1)
  else if k = 2 then (g,n,1)
  else if k = 3 then (l,n,1)
  else if k = 4 then (l,n,1)
  else if k = 5 then (f,n,s)
  else if k = 6 then (s,n,1)
  else if k = 7 then (f,n,1)
  else if k = 8 then (1,n,n)
  else if k = 9 then (1,1,1)
  else (0,0,0)
theorem XH (g l s f k n : Int) (h : k < 0 ∨ 9 < k) : roomQ g l s f k n = (0,0,0):=by
  unfold roomQ
  rw [if_neg (by omega),if_neg (by omega),if_neg (by omega),if_neg (by omega),if_neg (by omega),if_neg (by omega),if_neg (by omega),if_neg (by omega),if_neg (by omega),if_neg (by omega)]
theorem l6 (q : Nat → Bool) : (List.range 3).all q = (q 0 && (q 1 && (q 2 && true))):=rfl
theorem may_room (g l s f : Int) (x : Nd) (nodes : Int) {a b c : Int} (h : roomQ g l s f x.kind (max nodes 1) = (a,b,c)) :
    Q.may g l s f x nodes = (decide (0 ≤ x.arg ∧ x.arg < a) && (decide (0 ≤ x.next ∧ x.next < b) && decide (0 ≤ x.alt ∧ x.alt < c))):=by
  obtain ⟨k,ar,nx,al⟩:=x
  simp only at h ⊢
  by_cases hk : k < 0 ∨ 9 < k
  · rw [XH g l s f k _ hk] at h
    cases h
    unfold Q.may
    have e : Q.row k = []:=by unfold Q.row;rw [if_pos hk]
    simp only [e]
    have e2 : decide (0 ≤ ar ∧ ar < 0) = false:=decide_eq_false (by omega)
    rw [e2]
    rfl
  · rcases kinds k (by omega) (by omega) with h0 | h0 | h0 | h0 | h0 | h0 | h0 | h0 | h0 | h0 <;> subst h0
    · cases h
      unfold Q.may
      rw [show Q.row 0 = [45,110,45] from rfl,l6]
      simp [Q.fields,Q.size]
    · cases h
      unfold Q.may
      rw [show Q.row 1 = [103,110,45] from rfl,l6]
      simp [Q.fields,Q.size]
    · cases h
      unfold Q.may
      rw [show Q.row 2 = [103,110,45] from rfl,l6]
      simp [Q.fields,Q.size]
    · cases h
      unfold Q.may
      rw [show Q.row 3 = [108,110,45] from rfl,l6]
      simp [Q.fields,Q.size]
    · cases h
      unfold Q.may
      rw [show Q.row 4 = [108,110,45] from rfl,l6]
      simp [Q.fields,Q.size]
    · cases h
      unfold Q.may
      rw [show Q.row 5 = [102,110,115] from rfl,l6]
      simp [Q.fields,Q.size]
    · cases h
      unfold Q.may
      rw [show Q.row 6 = [115,110,45] from rfl,l6]
      simp [Q.fields,Q.size]
    · cases h
      unfold Q.may
      rw [show Q.row 7 = [102,110,45] from rfl,l6]
      simp [Q.fields,Q.size]
    · cases h
      unfold Q.may
      rw [show Q.row 8 = [45,110,110] from rfl,l6]
      simp [Q.fields,Q.size]
    · cases h
      unfold Q.may
      rw [show Q.row 9 = [45,45,45] from rfl,l6]
      simp [Q.fields,Q.size]
set_option maxRecDepth 100000 in
set_option maxHeartbeats 800000 in
theorem l8 (n c : Int) (r : Bool) (hr : decide (0 ≤ n ∧ n < c) = r) (w : World) :
    Calls Tryd.prog 80 #[.int .i64 n,.int .i64 c] w fun e w' => e = .returned (.bool r) ∧ Below w.heap.size w w':=by
  have HR:=kp hr
  clear hr
  by_cases h1 : 0 ≤ n
  · have z1 : (n ≥ 0) = True:=by simpa using h1
    by_cases h2 : n < c
    · have HE : Kept (true = r):=kp <| by rw [← HR.out,decide_eq_true ⟨h1,h2⟩]
      go_enter Tryd.func80,Tryd.ntmps80
      go_wp2
      go_ret
      exact ⟨jG HE.out,Below.refl _ _⟩
    · have HE : Kept (decide (n < c) = r):=kp <| by rw [← HR.out,decide_eq_false h2,decide_eq_false (by omega)]
      clear h2
      go_enter Tryd.func80,Tryd.ntmps80
      go_wp2
      go_ret
      exact ⟨jG HE.out,Below.refl _ _⟩
  · have HE : Kept (false = r):=kp <| by rw [← HR.out,decide_eq_false (by omega)]
    have h3 : n < 0:=by omega
    clear h1
    go_enter Tryd.func80,Tryd.ntmps80
    go_wp2
    go_ret
    exact ⟨jG HE.out,Below.refl _ _⟩
theorem lF {a b c a' b' c' : Int} (h : (a,b,c) = (a',b',c')) : Ending.returned (.tuple #[.int .i64 a,.int .i64 b,.int .i64 c]) = Ending.returned (.tuple #[.int .i64 a',.int .i64 b',.int .i64 c']):=by
  injection h with h1 h2
  injection h2 with h2 h3
  rw [h1,h2,h3]
set_option maxRecDepth 100000 in
set_option maxHeartbeats 3200000 in
theorem zV (p : Pg) (k n : Int) (a b c : Int) (hr : roomQ p.g p.l p.s p.len k n = (a,b,c)) (w : World) :
    Calls Tryd.prog 79 #[pgA p,.int .i64 k,.int .i64 n] w fun e w' => e = .returned (.tuple #[.int .i64 a,.int .i64 b,.int .i64 c]) ∧ Below w.heap.size w w':=by
  rw [jM]
  by_cases hk : k < 0 ∨ 9 < k
  · have HE:=kp ((XH p.g p.l p.s p.len k n hk).symm.trans hr)
    have z0 : (k == 0) = false:=by simp;omega
    have z1 : (k == 1) = false:=by simp;omega
    have z2 : (k == 2) = false:=by simp;omega
    have z3 : (k == 3) = false:=by simp;omega
    have z4 : (k == 4) = false:=by simp;omega
    have z5 : (k == 5) = false:=by simp;omega
    have z6 : (k == 6) = false:=by simp;omega
    have z7 : (k == 7) = false:=by simp;omega
    have z8 : (k == 8) = false:=by simp;omega
    have z9 : (k == 9) = false:=by simp;omega
    clear hk hr
    go_enter Tryd.func79,Tryd.ntmps79
    go_wp2_with ((with_reducible refine j4 rfl 24 (.tmp 0) rfl (pgC p) rfl ?_);intro g1 w1 hg1 hk1 hw1;obtain ⟨hc0,hc1,hc2,hc3⟩:=j8 hk1;have HW1:=kp hw1;clear hg1 hk1 hw1)
    go_ret3
    exact ⟨lF HE.out,HW1.out⟩
  · rcases kinds k (by omega) (by omega) with h0 | h0 | h0 | h0 | h0 | h0 | h0 | h0 | h0 | h0 <;> subst h0 <;> clear hk
    · have HE : Kept (((1 : Int),n,(1 : Int)) = (a,b,c)):=kp hr
      clear hr
      go_enter Tryd.func79,Tryd.ntmps79
      go_wp2_with ((with_reducible refine j4 rfl 24 (.tmp 0) rfl (pgC p) rfl ?_);intro g1 w1 hg1 hk1 hw1;obtain ⟨hc0,hc1,hc2,hc3⟩:=j8 hk1;have HW1:=kp hw1;clear hg1 hk1 hw1)
      go_ret3
      exact ⟨lF HE.out,HW1.out⟩
    · have HE : Kept ((p.g,n,(1 : Int)) = (a,b,c)):=kp hr
      clear hr
      go_enter Tryd.func79,Tryd.ntmps79
      go_wp2_with ((with_reducible refine j4 rfl 24 (.tmp 0) rfl (pgC p) rfl ?_);intro g1 w1 hg1 hk1 hw1;obtain ⟨hc0,hc1,hc2,hc3⟩:=j8 hk1;have HW1:=kp hw1;clear hg1 hk1 hw1)
      go_ret3
      exact ⟨lF HE.out,HW1.out⟩
    · have HE : Kept ((p.g,n,(1 : Int)) = (a,b,c)):=kp hr
      clear hr
      go_enter Tryd.func79,Tryd.ntmps79
      go_wp2_with ((with_reducible refine j4 rfl 24 (.tmp 0) rfl (pgC p) rfl ?_);intro g1 w1 hg1 hk1 hw1;obtain ⟨hc0,hc1,hc2,hc3⟩:=j8 hk1;have HW1:=kp hw1;clear hg1 hk1 hw1)
      go_ret3
      exact ⟨lF HE.out,HW1.out⟩
    · have HE : Kept ((p.l,n,(1 : Int)) = (a,b,c)):=kp hr
      clear hr
      go_enter Tryd.func79,Tryd.ntmps79
      go_wp2_with ((with_reducible refine j4 rfl 24 (.tmp 0) rfl (pgC p) rfl ?_);intro g1 w1 hg1 hk1 hw1;obtain ⟨hc0,hc1,hc2,hc3⟩:=j8 hk1;have HW1:=kp hw1;clear hg1 hk1 hw1)
      go_ret3
      exact ⟨lF HE.out,HW1.out⟩
    · have HE : Kept ((p.l,n,(1 : Int)) = (a,b,c)):=kp hr
      clear hr
      go_enter Tryd.func79,Tryd.ntmps79
      go_wp2_with ((with_reducible refine j4 rfl 24 (.tmp 0) rfl (pgC p) rfl ?_);intro g1 w1 hg1 hk1 hw1;obtain ⟨hc0,hc1,hc2,hc3⟩:=j8 hk1;have HW1:=kp hw1;clear hg1 hk1 hw1)
      go_ret3
      exact ⟨lF HE.out,HW1.out⟩
    · have HE : Kept (((p.len : Int),n,p.s) = (a,b,c)):=kp hr
      clear hr
      go_enter Tryd.func79,Tryd.ntmps79
      go_wp2_with ((with_reducible refine j4 rfl 24 (.tmp 0) rfl (pgC p) rfl ?_);intro g1 w1 hg1 hk1 hw1;obtain ⟨hc0,hc1,hc2,hc3⟩:=j8 hk1;have HW1:=kp hw1;clear hg1 hk1 hw1)
      go_quiet (fail)
      go_wp2
      go_ret3
      exact ⟨lF HE.out,below_drewN HW1.out _⟩
    · have HE : Kept ((p.s,n,(1 : Int)) = (a,b,c)):=kp hr
      clear hr
      go_enter Tryd.func79,Tryd.ntmps79
      go_wp2_with ((with_reducible refine j4 rfl 24 (.tmp 0) rfl (pgC p) rfl ?_);intro g1 w1 hg1 hk1 hw1;obtain ⟨hc0,hc1,hc2,hc3⟩:=j8 hk1;have HW1:=kp hw1;clear hg1 hk1 hw1)
      go_ret3
      exact ⟨lF HE.out,HW1.out⟩
    · have HE : Kept (((p.len : Int),n,(1 : Int)) = (a,b,c)):=kp hr
      clear hr
      go_enter Tryd.func79,Tryd.ntmps79
      go_wp2_with ((with_reducible refine j4 rfl 24 (.tmp 0) rfl (pgC p) rfl ?_);intro g1 w1 hg1 hk1 hw1;obtain ⟨hc0,hc1,hc2,hc3⟩:=j8 hk1;have HW1:=kp hw1;clear hg1 hk1 hw1)
      go_ret3
      exact ⟨lF HE.out,HW1.out⟩
    · have HE : Kept (((1 : Int),n,n) = (a,b,c)):=kp hr
      clear hr
      go_enter Tryd.func79,Tryd.ntmps79
      go_wp2_with ((with_reducible refine j4 rfl 24 (.tmp 0) rfl (pgC p) rfl ?_);intro g1 w1 hg1 hk1 hw1;obtain ⟨hc0,hc1,hc2,hc3⟩:=j8 hk1;have HW1:=kp hw1;clear hg1 hk1 hw1)
      go_ret3
      exact ⟨lF HE.out,HW1.out⟩
    · have HE : Kept (((1 : Int),(1 : Int),(1 : Int)) = (a,b,c)):=kp hr
      clear hr
      go_enter Tryd.func79,Tryd.ntmps79
      go_wp2_with ((with_reducible refine j4 rfl 24 (.tmp 0) rfl (pgC p) rfl ?_);intro g1 w1 hg1 hk1 hw1;obtain ⟨hc0,hc1,hc2,hc3⟩:=j8 hk1;have HW1:=kp hw1;clear hg1 hk1 hw1)
      go_ret3
      exact ⟨lF HE.out,HW1.out⟩
set_option maxRecDepth 100000 in
set_option maxHeartbeats 3200000 in
theorem uE (B : Nat) (p : Pg) (x : Nd) (_hx : x.Ok) (nodes : Int) (hn : I64 nodes) (r : Bool) (hr : Q.may p.g p.l p.s p.len x nodes = r) (w : World) (_hp : p.Ok w B) (_hB : B ≤ w.heap.size) :
    Calls Tryd.prog 66 #[pgA p,ndA x,.int .i64 nodes] w fun e w' => e = .returned (.bool r) ∧ Below w.heap.size w w':=by
  obtain ⟨a,b,c,habc⟩ : ∃ a b c,roomQ p.g p.l p.s p.len x.kind (max nodes 1) = (a,b,c):=⟨_,_,_,rfl⟩
  have HRoom:=kp habc
  obtain ⟨r1,h1⟩ : ∃ r1,decide (0 ≤ x.arg ∧ x.arg < a) = r1:=⟨_,rfl⟩
  obtain ⟨r2,h2⟩ : ∃ r2,decide (0 ≤ x.next ∧ x.next < b) = r2:=⟨_,rfl⟩
  obtain ⟨r3,h3⟩ : ∃ r3,decide (0 ≤ x.alt ∧ x.alt < c) = r3:=⟨_,rfl⟩
  have HR : Kept ((r1 && (r2 && r3)) = r):=kp <| by rw [← hr,may_room _ _ _ _ _ _ habc,h1,h2,h3]
  have H1:=kp h1;have H2:=kp h2;have H3:=kp h3
  obtain ⟨hn1,hn2⟩:=hn
  clear habc h1 h2 h3 hr
  rw [jM,show ndA x = .agg (ndC x).toArray from rfl]
  cases r1
  case false =>
    go_enter Tryd.func66,Tryd.ntmps66
    go_wp2_with (first
      | ((with_reducible refine j4 rfl 24 (.tmp 0) rfl (pgC p) rfl ?_);intro g1 w1 hg1 hk1 hw1;have HK1:=kp hk1;have HW1:=kp hw1;have hs1:=hw1.size;clear hg1 hk1 hw1)
      | ((with_reducible refine j4 rfl 66 (.tmp 1) rfl (ndC x) rfl ?_);intro g2 w2 hg2 hk2 hw2;have HK2:=kp hk2;obtain ⟨hd0,hd1,hd2,hd3⟩:=jB hk2;have HW2:=kp (HW1.out.trans (hw2.mono hs1));have HKp:=kp (HK1.out.below hw2 HK1.out.lt);have hs2:=HW2.out.size;clear hg2 hk2 hw2)
      | ((with_reducible show Sl 11);go_must (refine j6 rfl 24 (.tmp 3) rfl g1 rfl _ (pgC p) _ HKp.out Tryd.underlying24 rfl jL ?_))
      | (go_at_call 79;go_must (refine (zV p x.kind _ a b c (by first | exact HRoom.out | (rw [← HRoom.out];congr 1;omega)) _).mono ?_);rintro e9 w9 ⟨rfl,hw9⟩;have HK9:=kp (HK2.out.below hw9 HK2.out.lt);clear hd0 hd1 hd2 hd3;obtain ⟨hd0,hd1,hd2,hd3⟩:=jB HK9.out;have HW9:=kp (HW2.out.trans (hw9.mono hs2));have hs9:=HW9.out.size;clear hw9)
      | (go_at_call_of 80 (Value.int IntKind.i64 x.arg);go_must (refine (l8 x.arg a _ H1.out _).mono ?_);rintro e4 w4 ⟨rfl,hw4⟩;have HK4:=kp (HK9.out.below hw4 HK9.out.lt);clear hd0 hd1 hd2 hd3;obtain ⟨hd0,hd1,hd2,hd3⟩:=jB HK4.out;have HW4:=kp (HW9.out.trans (hw4.mono hs9));have hs4:=HW4.out.size;clear hw4)
      | (go_at_call_of 80 (Value.int IntKind.i64 x.next);go_must (refine (l8 x.next b _ H2.out _).mono ?_);rintro e5 w5 ⟨rfl,hw5⟩;have HK5:=kp (HK4.out.below hw5 HK4.out.lt);clear hd0 hd1 hd2 hd3;obtain ⟨hd0,hd1,hd2,hd3⟩:=jB HK5.out;have HW5:=kp (HW4.out.trans (hw5.mono hs4));have hs5:=HW5.out.size;clear hw5)
      | (go_at_call_of 80 (Value.int IntKind.i64 x.alt);go_must (refine (l8 x.alt c _ H3.out _).mono ?_);rintro e6 w6 ⟨rfl,hw6⟩;have HW6:=kp (HW5.out.trans (hw6.mono hs5));clear hw6))
    all_goals go_ret
    all_goals exact ⟨jG HR.out,by first | exact HW6.out | exact HW5.out | exact HW4.out⟩
  case true =>
    cases r2
    case false =>
      go_enter Tryd.func66,Tryd.ntmps66
      go_wp2_with (first
        | ((with_reducible refine j4 rfl 24 (.tmp 0) rfl (pgC p) rfl ?_);intro g1 w1 hg1 hk1 hw1;have HK1:=kp hk1;have HW1:=kp hw1;have hs1:=hw1.size;clear hg1 hk1 hw1)
        | ((with_reducible refine j4 rfl 66 (.tmp 1) rfl (ndC x) rfl ?_);intro g2 w2 hg2 hk2 hw2;have HK2:=kp hk2;obtain ⟨hd0,hd1,hd2,hd3⟩:=jB hk2;have HW2:=kp (HW1.out.trans (hw2.mono hs1));have HKp:=kp (HK1.out.below hw2 HK1.out.lt);have hs2:=HW2.out.size;clear hg2 hk2 hw2)
        | ((with_reducible show Sl 11);go_must (refine j6 rfl 24 (.tmp 3) rfl g1 rfl _ (pgC p) _ HKp.out Tryd.underlying24 rfl jL ?_))
        | (go_at_call 79;go_must (refine (zV p x.kind _ a b c (by first | exact HRoom.out | (rw [← HRoom.out];congr 1;omega)) _).mono ?_);rintro e9 w9 ⟨rfl,hw9⟩;have HK9:=kp (HK2.out.below hw9 HK2.out.lt);clear hd0 hd1 hd2 hd3;obtain ⟨hd0,hd1,hd2,hd3⟩:=jB HK9.out;have HW9:=kp (HW2.out.trans (hw9.mono hs2));have hs9:=HW9.out.size;clear hw9)
        | (go_at_call_of 80 (Value.int IntKind.i64 x.arg);go_must (refine (l8 x.arg a _ H1.out _).mono ?_);rintro e4 w4 ⟨rfl,hw4⟩;have HK4:=kp (HK9.out.below hw4 HK9.out.lt);clear hd0 hd1 hd2 hd3;obtain ⟨hd0,hd1,hd2,hd3⟩:=jB HK4.out;have HW4:=kp (HW9.out.trans (hw4.mono hs9));have hs4:=HW4.out.size;clear hw4)
        | (go_at_call_of 80 (Value.int IntKind.i64 x.next);go_must (refine (l8 x.next b _ H2.out _).mono ?_);rintro e5 w5 ⟨rfl,hw5⟩;have HK5:=kp (HK4.out.below hw5 HK4.out.lt);clear hd0 hd1 hd2 hd3;obtain ⟨hd0,hd1,hd2,hd3⟩:=jB HK5.out;have HW5:=kp (HW4.out.trans (hw5.mono hs4));have hs5:=HW5.out.size;clear hw5)
        | (go_at_call_of 80 (Value.int IntKind.i64 x.alt);go_must (refine (l8 x.alt c _ H3.out _).mono ?_);rintro e6 w6 ⟨rfl,hw6⟩;have HW6:=kp (HW5.out.trans (hw6.mono hs5));clear hw6))
      all_goals go_ret
      all_goals exact ⟨jG HR.out,by first | exact HW6.out | exact HW5.out | exact HW4.out⟩
    case true =>
      go_enter Tryd.func66,Tryd.ntmps66
      go_wp2_with (first
        | ((with_reducible refine j4 rfl 24 (.tmp 0) rfl (pgC p) rfl ?_);intro g1 w1 hg1 hk1 hw1;have HK1:=kp hk1;have HW1:=kp hw1;have hs1:=hw1.size;clear hg1 hk1 hw1)
        | ((with_reducible refine j4 rfl 66 (.tmp 1) rfl (ndC x) rfl ?_);intro g2 w2 hg2 hk2 hw2;have HK2:=kp hk2;obtain ⟨hd0,hd1,hd2,hd3⟩:=jB hk2;have HW2:=kp (HW1.out.trans (hw2.mono hs1));have HKp:=kp (HK1.out.below hw2 HK1.out.lt);have hs2:=HW2.out.size;clear hg2 hk2 hw2)
        | ((with_reducible show Sl 11);go_must (refine j6 rfl 24 (.tmp 3) rfl g1 rfl _ (pgC p) _ HKp.out Tryd.underlying24 rfl jL ?_))
        | (go_at_call 79;go_must (refine (zV p x.kind _ a b c (by first | exact HRoom.out | (rw [← HRoom.out];congr 1;omega)) _).mono ?_);rintro e9 w9 ⟨rfl,hw9⟩;have HK9:=kp (HK2.out.below hw9 HK2.out.lt);clear hd0 hd1 hd2 hd3;obtain ⟨hd0,hd1,hd2,hd3⟩:=jB HK9.out;have HW9:=kp (HW2.out.trans (hw9.mono hs2));have hs9:=HW9.out.size;clear hw9)
        | (go_at_call_of 80 (Value.int IntKind.i64 x.arg);go_must (refine (l8 x.arg a _ H1.out _).mono ?_);rintro e4 w4 ⟨rfl,hw4⟩;have HK4:=kp (HK9.out.below hw4 HK9.out.lt);clear hd0 hd1 hd2 hd3;obtain ⟨hd0,hd1,hd2,hd3⟩:=jB HK4.out;have HW4:=kp (HW9.out.trans (hw4.mono hs9));have hs4:=HW4.out.size;clear hw4)
        | (go_at_call_of 80 (Value.int IntKind.i64 x.next);go_must (refine (l8 x.next b _ H2.out _).mono ?_);rintro e5 w5 ⟨rfl,hw5⟩;have HK5:=kp (HK4.out.below hw5 HK4.out.lt);clear hd0 hd1 hd2 hd3;obtain ⟨hd0,hd1,hd2,hd3⟩:=jB HK5.out;have HW5:=kp (HW4.out.trans (hw5.mono hs4));have hs5:=HW5.out.size;clear hw5)
        | (go_at_call_of 80 (Value.int IntKind.i64 x.alt);go_must (refine (l8 x.alt c _ H3.out _).mono ?_);rintro e6 w6 ⟨rfl,hw6⟩;have HW6:=kp (HW5.out.trans (hw6.mono hs5));clear hw6))
      all_goals go_ret
      all_goals exact ⟨jG HR.out,by first | exact HW6.out | exact HW5.out | exact HW4.out⟩
set_option maxRecDepth 100000 in
set_option maxHeartbeats 800000 in
theorem yD (x : Nd) (_hx : x.Ok) (w : World) :
    Calls Tryd.prog 64 #[ndA x] w fun e w' => ∃ v,e = .returned v ∧ Own w' w.heap.size 3 v ((Q.succ x).map intV) ∧ Below w.heap.size w w':=by
  obtain ⟨l,hl⟩ : ∃ l,Q.succ x = l:=⟨_,rfl⟩
  have HL:=kp hl
  rw [hl]
  clear hl
  rw [show ndA x = .agg (ndC x).toArray from rfl]
  by_cases h8 : x.kind = 8
  · have HE : Kept ([x.next,x.alt] = l):=kp <| by rw [← HL.out];unfold Q.succ;rw [if_neg (by omega),if_pos h8]
    have hz8 : (x.kind == 8) = true:=by simpa using h8
    clear h8
    go_enter Tryd.func64,Tryd.ntmps64
    go_wp2_with ((with_reducible refine j4 rfl 66 (.tmp 0) rfl (ndC x) rfl ?_);intro g1 w1 hg1 hk1 hw1;obtain ⟨hc0,hc1,hc2,hc3⟩:=jB hk1;have HW1:=kp hw1;have hs1:=hw1.size;clear hg1 hk1 hw1)
    go_ret
    exact ⟨_,rfl,by rw [← HE.out];exact Own.new w1 w.heap.size 3 [intV x.next,intV x.alt] hs1 (by simp [maxLen]),HW1.out.alloc hs1 _⟩
  · have hz8 : (x.kind == 8) = false:=by simpa using h8
    by_cases h9 : x.kind = 9
    · have HE : Kept ([] = l):=kp <| by rw [← HL.out];unfold Q.succ;rw [if_pos h9]
      have hz9 : (x.kind == 9) = true:=by simpa using h9
      clear h8 h9
      go_enter Tryd.func64,Tryd.ntmps64
      go_wp2_with ((with_reducible refine j4 rfl 66 (.tmp 0) rfl (ndC x) rfl ?_);intro g1 w1 hg1 hk1 hw1;obtain ⟨hc0,hc1,hc2,hc3⟩:=jB hk1;have HW1:=kp hw1;clear hg1 hk1 hw1)
      go_ret
      exact ⟨_,rfl,by rw [← HE.out];exact Own.nil _ _ _,HW1.out⟩
    · have hz9 : (x.kind == 9) = false:=by simpa using h9
      have HE : Kept ([x.next] = l):=kp <| by rw [← HL.out];unfold Q.succ;rw [if_neg h9,if_neg h8]
      clear h8 h9
      go_enter Tryd.func64,Tryd.ntmps64
      go_wp2_with ((with_reducible refine j4 rfl 66 (.tmp 0) rfl (ndC x) rfl ?_);intro g1 w1 hg1 hk1 hw1;obtain ⟨hc0,hc1,hc2,hc3⟩:=jB hk1;have HW1:=kp hw1;have hs1:=hw1.size;clear hg1 hk1 hw1)
      go_ret
      exact ⟨_,rfl,by rw [← HE.out];exact Own.new w1 w.heap.size 3 [intV x.next] hs1 (by simp [maxLen]),HW1.out.alloc hs1 _⟩
end Go.Proofs.YtoekiejipdabmaaDoor
