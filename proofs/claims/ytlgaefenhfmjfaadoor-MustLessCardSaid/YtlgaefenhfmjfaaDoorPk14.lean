/- Owns, RowsApp. -/
import Derived.Test.YtlgaefenhfmjfaaDoorPk1
import Derived.Great.BuildSlice
namespace Go.Proofs.YtlgaefenhfmjfaaDoor
open Go.RowKit
def cellsR {α : Type} (sz : Nat) (f : α → Nat → Value) (l : List α) : List Value:=l.flatMap fun x => (List.range sz).map (f x)
theorem lP {α : Type} (sz : Nat) (f : α → Nat → Value) : ∀ l : List α,(cellsR sz f l).length = l.length * sz
  | [] => by simp [cellsR]
  | x :: l => by
    have ih:=lP sz f l
    unfold cellsR at ih ⊢
    rw [List.flatMap_cons,List.length_append,ih,List.length_map,List.length_range,List.length_cons,Nat.add_mul];omega
theorem xC {α : Type} (sz : Nat) (f : α → Nat → Value) (l l' : List α) : cellsR sz f (l ++ l') = cellsR sz f l ++ cellsR sz f l':=by unfold cellsR;rw [List.flatMap_append]
theorem lH {α : Type} (sz : Nat) (f : α → Nat → Value) : ∀ (l : List α) (k j : Nat) (x : α),l[k]? = some x → j < sz → (cellsR sz f l)[k * sz + j]? = some (f x j)
  | [],k,j,x,h,_ => by simp at h
  | y :: l,0,j,x,h,hj => by
    have e : y = x:=by simpa using h
    subst e
    unfold cellsR
    rw [List.flatMap_cons,Nat.zero_mul,Nat.zero_add,List.getElem?_append_left (by simpa using hj),List.getElem?_map,List.getElem?_range hj];rfl
  | y :: l,k + 1,j,x,h,hj => by
    have ih:=lH sz f l k j x (by simpa using h) hj
    unfold cellsR at ih ⊢
    rw [List.flatMap_cons,List.getElem?_append_right (by simp [Nat.add_mul];omega),List.length_map,List.length_range,show (k + 1) * sz + j - sz = k * sz + j by rw [Nat.add_mul];omega]
    exact ih
def OwnR {α : Type} (sz : Nat) (f : α → Nat → Value) (w : World) (B : Nat) (e : TypeId) (v : Value) (l : List α) : Prop:=w.ownsRow B e sz v l.length (cellsR sz f l)
section
variable {α : Type} {sz : Nat} {f : α → Nat → Value} {w w' : World} {B : Nat} {e : TypeId} {v : Value} {l : List α}
theorem OwnR.nil (sz : Nat) (f : α → Nat → Value) (w : World) (B : Nat) (e : TypeId) : OwnR sz f w B e (.slice none 0 0) []:=World.ownsRow_nil w B e sz
theorem OwnR.block (h : OwnR sz f w B e v l) : ∀ k,v.ownBlock = some k → B ≤ k ∧ k < w.heap.size:=World.ownsRow.lt h
theorem OwnR.far {row : Option Nat} (h : OwnR sz f w B e v l) (hg : w.grownBy w' row) (hne : v.ownBlock = none ∨ v.ownBlock ≠ row) : OwnR sz f w' B e v l:=World.ownsRow.kept h hg hne
theorem OwnR.below {C : Nat} (h : OwnR sz f w B e v l) (hb : Below C w w') (hC : w.heap.size ≤ C) : OwnR sz f w' B e v l:=by
  refine h.far (row:=none) ⟨hb.os,hb.tape,hb.output,hb.size,fun i hi _ => hb.block i (by omega)⟩ ?_
  cases hv : v.ownBlock with
  | none => exact .inl rfl
  | some k => exact .inr (by simp)
theorem OwnR.form (h : OwnR sz f w B e v l) : ∃ A cap,v = .slice A l.length cap ∧ l.length ≤ cap ∧ cap ≤ maxLen ∧ Recs sz f w w.heap.size A l.length l:=by
  rcases h.2 with ⟨hv,h0⟩ | ⟨g,cap,cur,hv,hB,hg,hn,hm,hs,ht⟩
  · refine ⟨none,0,by rw [h0];exact hv,by omega,by simp [maxLen],⟨rfl,fun hn => by omega⟩⟩
  · refine ⟨_,cap,hv,hn,hm,⟨rfl,fun _ => ⟨_,rfl,?_,fun k x hx j hj => ?_⟩⟩⟩
    · exact (World.ownsRow.lt h g (by rw [hv];rfl)).2
    · exact World.ownsRow.cells h (g:=g) (by rw [hv];rfl) _ _ (lH sz f l k j x hx hj)
end
theorem OwnR.empty {α : Type} (sz : Nat) (f : α → Nat → Value) (w : World) (B : Nat) (e : TypeId) (hB : B ≤ w.heap.size) : OwnR sz f (w.alloc (.cells #[] e)) B e (.slice (some ⟨w.heap.size,0,none⟩) 0 0) [] :=
  ⟨by simp [cellsR],.inr ⟨w.heap.size,0,#[],rfl,hB,heap_alloc_new w _,Nat.le_refl _,by simp [maxLen],by simp,by simp [cellsR]⟩⟩
theorem LS {P : Program} (t ty : TypeId) (B : Nat) (e : TypeId) (sz : Nat) (z : Value) (bytes : Nat) (ht : P.underlying t = some (.slice e)) (hi : (P.info? e).map (fun i => (i.zero,i.size,i.bytes)) = some (some z,sz,bytes)) (hzs : z.cells.size = sz) (hsz : 0 < sz)
    {α : Type} (f : α → Nat → Value) (hone : ∀ x j,(f x j).oneCell' = true) (w : World) (v : Value) (l : List α) (hown : OwnR sz f w B e v l) (A : Option Addr) (m c C : Nat) (news : List α) (hr : Recs sz f w C A m news)
    (h63 : l.length + m ≤ maxLen) (hbytes : (l.length + m) * bytes ≤ 140737488355328) (hB : B ≤ w.heap.size) :
    ∃ v' w',(Builtin.append_ #[t,t] ty #[v,.slice A m c]).run P w = .ok v' w' ∧ OwnR sz f w' B e v' (l ++ news) ∧ Grew w w' v v':=by
  obtain ⟨i,hi0,hzz⟩:=Option.map_eq_some_iff.1 hi
  simp only [Prod.mk.injEq] at hzz
  obtain ⟨hz,hsize,hby⟩:=hzz
  rcases A with _ | ad
  · have h0 : m = 0:=by
      rcases Nat.eq_zero_or_pos m with h0 | h0
      · exact h0
      · obtain ⟨_,h,_⟩:=hr.cells h0;cases h
    subst h0
    have hn : news = []:=List.eq_nil_of_length_eq_zero hr.len
    subst hn
    rcases hown.2 with ⟨rfl,hl0⟩ | ⟨g,cap,cur,rfl,_,_,hnc,_⟩
    · exact ⟨_,w,by simp [Builtin.append_,run_underlying ht,sizeOf,typeInfo,hi0,Builtin.lenOf,Builtin.firstCells],by simpa using hown,Grew.refl _ _⟩
    · exact ⟨_,w,by simp [Builtin.append_,run_underlying ht,sizeOf,typeInfo,hi0,Builtin.lenOf,Builtin.firstCells,hnc,storeCells],by simpa using hown,Grew.refl _ _⟩
  · have hcl : (cellsR sz f news).length = m * sz:=by rw [lP,hr.len]
    have hcells : ∀ j u,(cellsR sz f news)[j]? = some u → w.cell? (ad.add j) = some u:=by
      intro j u hu
      have hj : j < m * sz:=by
        have:=(List.getElem?_eq_some_iff.1 hu).1
        rw [hcl] at this;exact this
      have h0 : 0 < m:=by
        rcases Nat.eq_zero_or_pos m with h0 | h0
        · rw [h0] at hj;omega
        · exact h0
      obtain ⟨ad',e1,_,hc⟩:=hr.cells h0
      cases e1
      have hd : j / sz < m:=by
        rcases Nat.lt_or_ge (j / sz) m with h | h
        · exact h
        · have h1:=Nat.mul_le_mul_right sz h
          have h2:=Nat.div_mul_le_self j sz
          omega
      have hr2 : j % sz < sz:=Nat.mod_lt _ hsz
      have hq : j = j / sz * sz + j % sz:=by have:=Nat.div_add_mod j sz;rw [Nat.mul_comm] at this;omega
      have hx : news[j / sz]? = some (news[j / sz]'(by rw [hr.len];exact hd)):=List.getElem?_eq_getElem _
      have h1:=hc _ _ hx _ hr2
      have h2:=lH sz f news _ _ _ hx hr2
      rw [← hq] at h1 h2
      rw [h2] at hu
      rw [h1,Option.some.inj hu]
    have hone' : ∀ u ∈ cellsR sz f news,u.oneCell' = true:=fun u hu => by
      unfold cellsR at hu
      obtain ⟨x,_,hu⟩:=List.mem_flatMap.1 hu
      obtain ⟨j,_,rfl⟩:=List.mem_map.1 hu
      exact hone x j
    obtain ⟨v',w',hrun,h2,h3,_,h5⟩:=run_append_own_at (P:=P) w B t ty e i z sz bytes ht hi0 hz hsize hby hzs hsz v l.length (cellsR sz f l) hown ad m c (cellsR sz f news) hcl hcells hone' h63 hbytes hB
    refine ⟨v',w',hrun,?_,h3,?_⟩
    · unfold OwnR;rw [List.length_append,hr.len,xC];exact h2
    · rcases h5 with h5 | h5
      · exact .inl h5
      · refine .inr fun g hg => ?_
        rw [h5] at hg;cases hg;exact Nat.le_refl _
theorem lN {P : Program} {ops : Array Oper} {rest : List Oper} {o : Oper} {a : Act} {Q : Exit → Act → World → Prop} (hgd : o.guard = none) (s x : Operand) (t : TypeId)
    (ho : o.op = .call { callee:=.builtin .append,args:=#[s,x],argTypes:=#[t,t] })
    (B : Nat) (e : TypeId) (sz : Nat) (z : Value) (bytes : Nat) (ht : P.underlying t = some (.slice e)) (hi : (P.info? e).map (fun i => (i.zero,i.size,i.bytes)) = some (some z,sz,bytes)) (hzs : z.cells.size = sz) (hsz : 0 < sz)
    {α : Type} (f : α → Nat → Value) (hone : ∀ x j,(f x j).oneCell' = true) (w : World) (v : Value) (l : List α) (hs : a.eval s = v) (hown : OwnR sz f w B e v l) (A : Option Addr) (m c C : Nat) (news : List α) (hx : a.eval x = .slice A m c) (hr : Recs sz f w C A m news)
    (h63 : l.length + m ≤ maxLen) (hbytes : (l.length + m) * bytes ≤ 140737488355328) (hB : B ≤ w.heap.size)
    (h : ∀ v' w',OwnR sz f w' B e v' (l ++ news) → Grew w w' v v' → wpList P ops Q rest (a.put o.dst v') w') : wpList P ops Q (o :: rest) a w:=by
  refine wpList_plain hgd fun K hK => ?_
  obtain ⟨v',w',hr,h2,h3⟩:=LS (P:=P) t o.type B e sz z bytes ht hi hzs hsz f hone w v l hown A m c C news hr h63 hbytes hB
  unfold Oper.wp execOp
  simp only [ho,resolve,invoke,builtin,Sem.run_bind,Sem.run_pure,Result.andThen_ok,List.map_toArray,List.map_cons,List.map_nil,hs,hx,hr]
  exact hK _ _ (h v' w' h2 h3)
end Go.Proofs.YtlgaefenhfmjfaaDoor
