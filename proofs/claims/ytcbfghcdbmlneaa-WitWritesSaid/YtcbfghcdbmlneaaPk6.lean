/- Mat, RelMath, Still. -/
import Derived.Test.YtcbfghcdbmlneaaPk1
import Derived.Test.YtcbfghcdbmlneaaPk2
import Derived.Test.YtcbfghcdbmlneaaPk4
import Derived.Test.YtcbfghcdbmlneaaPk3
import Derived.StillTailTactics
namespace Go.Proofs.Ytcbfghcdbmlneaa
open Go.RowKit
def rowV (n : Nat) (g : Nat) : Value:=.slice (some ⟨g,0,none⟩) n n
structure Mat (w : World) (C : Nat) (e e2 : TypeId) (v : Value) (n : Nat) (gs : List Nat) (M : List (List Nat)) : Prop where
  own : Own w C e v (gs.map (rowV n))
  len : gs.length = M.length
  blk : ∀ (i g : Nat) (r : List Nat),gs[i]? = some g → M[i]? = some r → Blk w g e2 (r.map natV) ∧ r.length = n
  lo : ∀ g ∈ gs,C ≤ g
  apart : ∀ g ∈ gs,v.ownBlock ≠ some g
  nodup : gs.Nodup
section
variable {w w' : World} {C : Nat} {e e2 : TypeId} {v : Value} {n : Nat} {gs : List Nat} {M : List (List Nat)}
theorem Mat.nil (w : World) (C : Nat) (e e2 : TypeId) (n : Nat) : Mat w C e e2 (.slice none 0 0) n [] [] :=
  ⟨Own.nil _ _ _,rfl,fun i g r h => by simp at h,by simp,by simp,List.nodup_nil⟩
theorem Mat.below (h : Mat w C e e2 v n gs M) (hb : Below w.heap.size w w') : Mat w' C e e2 v n gs M :=
  ⟨h.own.below hb (Nat.le_refl _),h.len,fun i g r hg hr => ⟨(h.blk i g r hg hr).1.below hb (h.blk i g r hg hr).1.lt,(h.blk i g r hg hr).2⟩,h.lo,h.apart,h.nodup⟩
theorem Mat.drewN (h : Mat w C e e2 v n gs M) (k : Nat) : Mat (w.drewN k) C e e2 v n gs M:=h.below (below_drewN (Below.refl _ _) k)
theorem Mat.less (h : Mat w C e e2 v n gs M) {C' : Nat} (hC : C' ≤ C) : Mat w C' e e2 v n gs M :=
  ⟨h.own.less hC,h.len,h.blk,fun g hg => Nat.le_trans hC (h.lo g hg),h.apart,h.nodup⟩
theorem Mat.fresh (h : Mat w C e e2 v n gs M) {x : Nat} (hx : w.heap.size ≤ x) : v.ownBlock ≠ some x ∧ ∀ g ∈ gs,g ≠ x:=by
  refine ⟨fun e1 => ?_,fun g hg e1 => ?_⟩
  · have:=(h.own.block x e1).2
    omega
  · obtain ⟨i,hi,rfl⟩:=List.getElem_of_mem hg
    have hM : i < M.length:=by rw [← h.len];exact hi
    have:=(h.blk i _ _ (List.getElem?_eq_getElem hi) (List.getElem?_eq_getElem hM)).1.lt
    omega
theorem Mat.snoc (h : Mat w C e e2 v n gs M) {g : Nat} {r : List Nat} {v' : Value} (hown : Own w' C e v' (gs.map (rowV n) ++ [rowV n g])) (hg : Grew w w' v v') (hk : Blk w g e2 (r.map natV)) (hr : r.length = n) (hC : C ≤ g) (hf : v.ownBlock ≠ some g ∧ ∀ g' ∈ gs,g' ≠ g) :
    Mat w' C e e2 v' n (gs ++ [g]) (M ++ [r]):=by
  obtain ⟨hv,hnew⟩:=hf
  have hap : ∀ x,(x < w.heap.size) → v.ownBlock ≠ some x → v'.ownBlock ≠ some x:=fun x hx hne e1 => by
    rcases hg.2 with h2 | h2
    · exact hne (h2 ▸ e1)
    · have:=h2 x e1;omega
  have hold : ∀ (i x : Nat) (q : List Nat),gs[i]? = some x → M[i]? = some q → Blk w' x e2 (q.map natV) ∧ q.length = n:=fun i x q hx hq =>
    ⟨(h.blk i x q hx hq).1.grown hg.1 (fun e1 => h.apart x (List.mem_of_getElem? hx) e1.symm),(h.blk i x q hx hq).2⟩
  refine ⟨by rw [List.map_append];exact hown,by simp [h.len],fun i x q hx hq => ?_,fun x hx => ?_,fun x hx => ?_,?_⟩
  · by_cases hi : i < gs.length
    · rw [List.getElem?_append_left hi] at hx
      rw [List.getElem?_append_left (by rw [← h.len];exact hi)] at hq
      exact hold i x q hx hq
    · rw [List.getElem?_append_right (by omega)] at hx
      rw [List.getElem?_append_right (by rw [← h.len];omega)] at hq
      have hi0 : i - gs.length = 0:=by
        rcases Nat.eq_zero_or_pos (i - gs.length) with h0 | h0
        · exact h0
        · rw [List.getElem?_eq_none (by simp;omega)] at hx;cases hx
      rw [hi0] at hx
      rw [← h.len,hi0] at hq
      simp at hx hq
      subst hx;subst hq
      exact ⟨hk.grown hg.1 (fun e1 => hv e1.symm),hr⟩
  · rcases List.mem_append.1 hx with hx | hx
    · exact h.lo x hx
    · rw [List.mem_singleton] at hx;rw [hx];exact hC
  · rcases List.mem_append.1 hx with hx | hx
    · obtain ⟨i,hi,rfl⟩:=List.getElem_of_mem hx
      have hM : i < M.length:=by rw [← h.len];exact hi
      exact hap _ (h.blk i _ _ (List.getElem?_eq_getElem hi) (List.getElem?_eq_getElem hM)).1.lt (h.apart _ hx)
    · rw [List.mem_singleton] at hx;rw [hx];exact hap g hk.lt hv
  · rw [List.nodup_append]
    exact ⟨h.nodup,by simp,fun a ha b hb => by rw [List.mem_singleton] at hb;rw [hb];exact hnew a ha⟩
theorem Mat.get (h : Mat w C e e2 v n gs M) {a : Nat} (ha : a < M.length) :
    ∃ (ad : Addr) (g cap : Nat) (r : List Nat),v = .slice (some ad) M.length cap ∧ ad.block < w.heap.size ∧ gs[a]? = some g ∧ M[a]? = some r ∧ r.length = n ∧ w.cell? (ad.add a) = some (.slice (some ⟨g,0,none⟩) n n) ∧ Blk w g e2 (r.map natV) ∧ C ≤ g ∧ v.ownBlock ≠ some g ∧ M.length ≤ cap ∧ cap ≤ maxLen:=by
  obtain ⟨A,cap,hv,hc,hm,hr⟩:=Own.readsN h.own h.len
  obtain ⟨ad,g,e1,hb,hg,hcell⟩:=hr.get (k:=a) ha
  obtain ⟨r,hra⟩ : ∃ r,M[a]? = some r:=⟨_,List.getElem?_eq_getElem ha⟩
  obtain ⟨k1,k2⟩:=h.blk a g r hg hra
  exact ⟨ad,g,cap,r,by rw [hv,e1],hb,hg,hra,k2,hcell,k1,h.lo g (List.mem_of_getElem? hg),h.apart g (List.mem_of_getElem? hg),hc,hm⟩
theorem Mat.set (h : Mat w C e e2 v n gs M) {a b g : Nat} (hg : gs[a]? = some g) : Mat (w.setCell ⟨g,b,none⟩ (natV 1)) C e e2 v n gs (Q.mset M a b):=by
  have hal : a < gs.length:=(List.getElem?_eq_some_iff.1 hg).1
  have haM : a < M.length:=by rw [← h.len];exact hal
  have hgr : w.grownBy (w.setCell ⟨g,b,none⟩ (natV 1)) (some g):=jN (jK _ _)
  refine ⟨h.own.far hgr ?_,by unfold Q.mset;rw [List.length_set];exact h.len,fun i x q hx hq => ?_,h.lo,h.apart,h.nodup⟩
  · exact .inr (h.apart g (List.mem_of_getElem? hg))
  · unfold Q.mset at hq
    by_cases hi : a = i
    · subst hi
      rw [hg] at hx;cases hx
      rw [List.getElem?_set_self haM] at hq
      cases hq
      obtain ⟨k1,k2⟩:=h.blk a g _ hg (List.getElem?_eq_getElem haM)
      have e1 : M.getD a [] = M[a]:=by rw [List.getD_eq_getElem?_getD,List.getElem?_eq_getElem haM];rfl
      rw [e1]
      refine ⟨?_,by rw [List.length_set];exact k2⟩
      have:=k1.set b (natV 1)
      rw [List.map_set]
      exact this
    · rw [List.getElem?_set_ne hi] at hq
      obtain ⟨k1,k2⟩:=h.blk i x q hx hq
      refine ⟨k1.other _ _ ?_,k2⟩
      intro e1
      have hil : i < gs.length:=(List.getElem?_eq_some_iff.1 hx).1
      have h1 : gs[i]'hil = x:=(List.getElem?_eq_some_iff.1 hx).2
      have h2 : gs[a]'hal = g:=(List.getElem?_eq_some_iff.1 hg).2
      have h3 : gs[i]'hil = gs[a]'hal:=by rw [h1,h2];exact e1
      have hp:=List.pairwise_iff_getElem.1 h.nodup
      rcases Nat.lt_or_gt_of_ne hi with hlt | hlt
      · exact hp a i hal hil hlt h3.symm
      · exact hp i a hil hal hlt h3
end
end Go.Proofs.Ytcbfghcdbmlneaa
namespace Go.Proofs.Ytcbfghcdbmlneaa.Q
structure Clo (R : Nat → Nat → Prop) (n k a b : Nat) (G : Nat → Nat → Prop) : Prop where
  sound : ∀ x y,x < n → y < n → G x y → Reach R n x y
  base : ∀ x y,x < n → y < n → Via R k x y → G x y
  done : ∀ x y,x < n → y < n → (x < a ∨ (x = a ∧ y < b)) → Via R k x k → Via R k k y → G x y
section
variable {R : Nat → Nat → Prop} {n k a b : Nat} {G G' : Nat → Nat → Prop}
theorem Clo.step (h : Clo R n k a b G) (hk : k < n) (ha : a < n) (hb : b < n) (hG : ∀ x y,x < n → y < n → (G' x y ↔ G x y ∨ (x = a ∧ y = b ∧ G a k ∧ G k b))) : Clo R n k a (b + 1) G':=by
  refine ⟨fun x y hx hy e => ?_,fun x y hx hy v => (hG x y hx hy).2 (.inl (h.base x y hx hy v)),fun x y hx hy hlt v1 v2 => ?_⟩
  · rcases (hG x y hx hy).1 e with e | ⟨rfl,rfl,g1,g2⟩
    · exact h.sound x y hx hy e
    · exact (h.sound x k hx hk g1).trans hk (h.sound k y hk hy g2)
  · by_cases e : x = a ∧ y = b
    · obtain ⟨rfl,rfl⟩:=e
      exact (hG x y hx hy).2 (.inr ⟨rfl,rfl,h.base x k hx hk v1,h.base k y hk hy v2⟩)
    · exact (hG x y hx hy).2 (.inl (h.done x y hx hy (by omega) v1 v2))
theorem Clo.line (h : Clo R n k a n G) : Clo R n k (a + 1) 0 G :=
  ⟨h.sound,h.base,fun x y hx hy _ v1 v2 => h.done x y hx hy (by omega) v1 v2⟩
theorem Clo.round (h : Clo R n k n 0 G) : Clo R n (k + 1) 0 0 G :=
  ⟨h.sound,fun x y hx hy v => by
    rcases v with v | ⟨v1,v2⟩
    · exact h.base x y hx hy v
    · exact h.done x y hx hy (by omega) v1 v2,fun x y _ _ hlt _ _ => by omega⟩
theorem Clo.end_ (h : Clo R n n 0 0 G) (x y : Nat) (hx : x < n) (hy : y < n) : G x y ↔ Reach R n x y :=
  ⟨h.sound x y hx hy,fun r => h.base x y hx hy (X4 r)⟩
theorem Clo.start (h : ∀ x y,x < n → y < n → (G x y ↔ R x y)) : Clo R n 0 0 0 G :=
  ⟨fun x y hx hy e => .one ((h x y hx hy).1 e),fun x y hx hy v => (h x y hx hy).2 v,fun x y _ _ hlt _ _ => by omega⟩
end
def ent (L : List Bool) (x y : Nat) : Prop:=L.getD (x * 16 + y) false = true
theorem ent_set {L : List Bool} (hL : L.length = 256) {a b : Nat} (ha : a < 16) (hb : b < 16) (v : Bool) (x y : Nat) (_hx : x < 16) (hy : y < 16) : ent (L.set (a * 16 + b) v) x y ↔ if x = a ∧ y = b then v = true else ent L x y:=by
  unfold ent
  by_cases e : x = a ∧ y = b
  · obtain ⟨rfl,rfl⟩:=e
    rw [if_pos ⟨rfl,rfl⟩,List.getD_eq_getElem?_getD,List.getElem?_set_self (by omega)]
    simp
  · rw [if_neg e,List.getD_eq_getElem?_getD,List.getElem?_set_ne (by omega),← List.getD_eq_getElem?_getD]
theorem ent_zero (x y : Nat) : ¬ ent (List.replicate 256 false) x y:=by
  unfold ent
  rw [List.getD_eq_getElem?_getD,List.getElem?_replicate]
  split <;> simp
theorem ent_at {L : List Bool} (hL : L.length = 256) {x y : Nat} (hx : x < 16) (hy : y < 16) : ∃ v,L[x * 16 + y]? = some v ∧ (ent L x y ↔ v = true):=by
  have h : x * 16 + y < L.length:=by omega
  refine ⟨L[x * 16 + y],List.getElem?_eq_getElem h,?_⟩
  unfold ent
  rw [List.getD_eq_getElem?_getD,List.getElem?_eq_getElem h]
  rfl
theorem reach_less {R : Nat → Nat → Prop} {n m : Nat} (hR : ∀ x y,R x y → y < m) {x y : Nat} (h : Reach R n x y) : Reach R m x y:=by
  induction h with
  | one h => exact .one h
  | more h _ _ ih => exact .more h (hR _ _ h) ih
theorem reach_more {R : Nat → Nat → Prop} {n m : Nat} (hnm : m ≤ n) {x y : Nat} (h : Reach R m x y) : Reach R n x y:=by
  induction h with
  | one h => exact .one h
  | more h hj _ ih => exact .more h (by omega) ih
theorem calls_lt {p : Pg} (h : CallsFit p) (x y : Nat) (hc : calls p x y) : y < p.len:=by
  obtain ⟨f,hf,nd,hnd,h7,ha⟩:=hc
  have:=h f (List.mem_of_getElem? hf) nd hnd h7
  omega
end Go.Proofs.Ytcbfghcdbmlneaa.Q
namespace Go.Proofs.Ytcbfghcdbmlneaa
section
variable {P : Program} {ops : Array Oper} {w : World} {Q : Act → Prop} {a : Act} {o : Oper} {rest : List Oper}
end
end Go.Proofs.Ytcbfghcdbmlneaa
