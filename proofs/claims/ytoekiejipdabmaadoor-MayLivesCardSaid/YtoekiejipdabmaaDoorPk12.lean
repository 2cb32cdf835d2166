/- Owns, Make, RowsApp. -/
import Derived.Test.YtoekiejipdabmaaDoorPk1
import Derived.Test.YtoekiejipdabmaaDoorPk2
import Derived.Great.BuildSlice
namespace Go.Proofs.YtoekiejipdabmaaDoor
open Go.RowKit
def cellsR {α : Type} (sz : Nat) (f : α → Nat → Value) (l : List α) : List Value:=l.flatMap fun x => (List.range sz).map (f x)
theorem lU {α : Type} (sz : Nat) (f : α → Nat → Value) : ∀ l : List α,(cellsR sz f l).length = l.length * sz
  | [] => by simp [cellsR]
  | x :: l => by
    have ih:=lU sz f l
    unfold cellsR at ih ⊢
    rw [List.flatMap_cons,List.length_append,ih,List.length_map,List.length_range,List.length_cons,Nat.add_mul];omega
theorem qV {α : Type} (sz : Nat) (f : α → Nat → Value) (l l' : List α) : cellsR sz f (l ++ l') = cellsR sz f l ++ cellsR sz f l':=by unfold cellsR;rw [List.flatMap_append]
theorem lM {α : Type} (sz : Nat) (f : α → Nat → Value) : ∀ (l : List α) (k j : Nat) (x : α),l[k]? = some x → j < sz → (cellsR sz f l)[k * sz + j]? = some (f x j)
  | [],k,j,x,h,_ => by simp at h
  | y :: l,0,j,x,h,hj => by
    have e : y = x:=by simpa using h
    subst e
    unfold cellsR
    rw [List.flatMap_cons,Nat.zero_mul,Nat.zero_add,List.getElem?_append_left (by simpa using hj),List.getElem?_map,List.getElem?_range hj];rfl
  | y :: l,k + 1,j,x,h,hj => by
    have ih:=lM sz f l k j x (by simpa using h) hj
    unfold cellsR at ih ⊢
    rw [List.flatMap_cons,List.getElem?_append_right (by simp [Nat.add_mul];omega),List.length_map,List.length_range,show (k + 1) * sz + j - sz = k * sz + j by rw [Nat.add_mul];omega]
    exact ih
def OwnR {α : Type} (sz : Nat) (f : α → Nat → Value) (w : World) (B : Nat) (e : TypeId) (v : Value) (l : List α) : Prop:=w.ownsRow B e sz v l.length (cellsR sz f l)
section
variable {α : Type} {sz : Nat} {f : α → Nat → Value} {w w' : World} {B : Nat} {e : TypeId} {v : Value} {l : List α}
theorem OwnR.nil (sz : Nat) (f : α → Nat → Value) (w : World) (B : Nat) (e : TypeId) : OwnR sz f w B e (.slice none 0 0) []:=World.ownsRow_nil w B e sz
theorem OwnR.block (h : OwnR sz f w B e v l) : ∀ k,v.ownBlock = some k → B ≤ k ∧ k < w.heap.size:=World.ownsRow.lt h
theorem OwnR.far {row : Option Nat} (h : OwnR sz f w B e v l) (hg : w.grownBy w' row) (hne : v.ownBlock = none ∨ v.ownBlock ≠ row) : OwnR sz f w' B e v l:=World.ownsRow.kept h hg hne
theorem OwnR.below {C : Nat} (h : OwnR sz f w B e v l) (hb : Below C w w') (hC : w.heap.size ≤ C) : OwnR sz f w' B e v l:=by
  refine h.far (row:=none) ⟨hb.os,hb.tape,hb.output,hb.size,fun i hi _ => hb.block i (by omega)⟩ ?_
  cases hv : v.ownBlock with
  | none => exact .inl rfl
  | some k => exact .inr (by simp)
theorem OwnR.form (h : OwnR sz f w B e v l) : ∃ A cap,v = .slice A l.length cap ∧ l.length ≤ cap ∧ cap ≤ maxLen ∧ Recs sz f w w.heap.size A l.length l:=by
  rcases h.2 with ⟨hv,h0⟩ | ⟨g,cap,cur,hv,hB,hg,hn,hm,hs,ht⟩
  · refine ⟨none,0,by rw [h0];exact hv,by omega,by simp [maxLen],⟨rfl,fun hn => by omega⟩⟩
  · refine ⟨_,cap,hv,hn,hm,⟨rfl,fun _ => ⟨_,rfl,?_,fun k x hx j hj => ?_⟩⟩⟩
    · exact (World.ownsRow.lt h g (by rw [hv];rfl)).2
    · exact World.ownsRow.cells h (g:=g) (by rw [hv];rfl) _ _ (lM sz f l k j x hx hj)
end
theorem qX {P : Program} {ops : Array Oper} {rest : List Oper} {o : Oper} {a : Act} {Q : Exit → Act → World → Prop} (hgd : o.guard = none) (s x : Operand) (t : TypeId)
    (ho : o.op = .call { callee:=.builtin .append,args:=#[s,x],argTypes:=#[t,t] })
    (B : Nat) (e : TypeId) (sz : Nat) (z : Value) (bytes : Nat) (ht : P.underlying t = some (.slice e)) (hi : (P.info? e).map (fun i => (i.zero,i.size,i.bytes)) = some (some z,sz,bytes)) (hzs : z.cells.size = sz) (hsz : 0 < sz)
    {α : Type} (f : α → Nat → Value) (hone : ∀ x j,(f x j).oneCell' = true)
    (w : World) (v : Value) (l : List α) (u : α) (hs : a.eval s = v) (hown : OwnR sz f w B e v l) (ad : Addr) (c : Nat) (hx : a.eval x = .slice (some ad) 1 c) (had : ad = ⟨w.heap.size,0,none⟩)
    (cs : Array Value) (hcs : cs = ((List.range sz).map (f u)).toArray) (h63 : l.length + 1 ≤ maxLen) (hbytes : (l.length + 1) * bytes ≤ 140737488355328) (hB : B ≤ w.heap.size)
    (h : ∀ v' w',OwnR sz f w' B e v' (l ++ [u]) → Grew w w' v v' → wpList P ops Q rest (a.put o.dst v') w') : wpList P ops Q (o :: rest) a (w.alloc (.cells cs e)):=by
  subst had
  subst hcs
  obtain ⟨i,hi0,hzz⟩:=Option.map_eq_some_iff.1 hi
  simp only [Prod.mk.injEq] at hzz
  obtain ⟨hz,hsize,hby⟩:=hzz
  have hnb:=Blk.new w e ((List.range sz).map (f u))
  refine wpList_append_lies _ hgd s x t ho B e i z sz bytes ht hi0 hz hsize hby hzs hsz v l.length (cellsR sz f l) hs (World.ownsRow.alloc hown _) _ 1 c ((List.range sz).map (f u)) hx (by simp)
    (fun j y hy => by
      have hadd : (⟨w.heap.size,0,none⟩ : Addr).add j = ⟨w.heap.size,j,none⟩:=by unfold Addr.add;split <;> simp_all
      rw [hadd,hnb.cell j];exact hy)
    (fun y hy => by
      obtain ⟨j,_,rfl⟩:=List.mem_map.1 hy
      exact hone u j)
    (by omega) h63 hbytes (by simp;omega) _ rfl ?_
  intro g cap w' h2 h3 h4 h5
  refine h _ w' ?_ ⟨vM _ _ _ h3,?_⟩
  rotate_left
  · rcases h4 with h4 | h4
    · exact .inl h4.symm
    · refine .inr fun k hk => ?_
      have : g = k:=by simpa [Value.ownBlock] using hk
      subst this
      rw [h4];simp
  unfold OwnR
  rw [List.length_append,List.length_singleton,qV]
  have e1 : cellsR sz f [u] = (List.range sz).map (f u):=by simp [cellsR]
  rw [e1]
  exact h2
theorem jF {P : Program} {ops : Array Oper} {rest : List Oper} {o : Oper} {a : Act} {w : World} {Q : Exit → Act → World → Prop} (hgd : o.guard = none) (ty : TypeId) (x y : Operand) (ho : o.op = .store ty x y)
    (g k : Nat) (v : Value) (hx : a.eval x = .pointer (some ⟨g,k,none⟩)) (hy : a.eval y = v) (h1 : v.oneCell' = true) (hc : v.cells = #[v])
    (t : TypeId) (cs : List Value) (hg : Blk w g t cs) (hk : k < cs.length) (hi : (P.info? ty).map (·.size) = some 1)
    (h : ∀ w',Blk w' g t (cs.set k v) → w.grownBy w' (some g) → w'.heap.size = w.heap.size → wpList P ops Q rest (a.put o.dst undef) w') : wpList P ops Q (o :: rest) a w:=by
  refine wpList_plain hgd fun K hK => ?_
  have hrun : (storeVar ty ⟨g,k,none⟩ v).run P w = .ok () (w.setCells g k [v]):=by
    have hst:=run_storeCells_cells (P:=P) g k [v] 0 w (fun j hj => by
      have : j = 0:=by simp at hj;exact hj
      subst this
      show (w.cell? ⟨g,k,none⟩).isSome = true
      rw [hg.cell,List.getElem?_eq_getElem hk];rfl) (fun j hj => by
      have : j = 0:=by simp at hj;exact hj
      subst this
      exact hg.frozen _) (fun u hu => by rw [List.mem_singleton] at hu;subst hu;exact h1)
    cases hq : P.info? ty with
    | none => simp [hq] at hi
    | some i =>
      have hs : i.size = 1:=by simpa [hq] using hi
      simp only [Nat.add_zero] at hst
      simp [storeVar,sizeOf,typeInfo,hq,hc,hs,hst]
  have hw : w.setCells g k [v] = w.setCell ⟨g,k,none⟩ v:=rfl
  rw [hw] at hrun
  unfold Oper.wp execOp
  simp only [ho,hx,hy,Instr.storeAt,Instr.sureAddr,Sem.run_bind,Sem.run_pure,Result.andThen_ok,hrun]
  exact hK _ _ (h _ (hg.set k v) (jX (jS _ _)) (by simp))
theorem OwnR.empty {α : Type} (sz : Nat) (f : α → Nat → Value) (w : World) (B : Nat) (e : TypeId) (hB : B ≤ w.heap.size) : OwnR sz f (w.alloc (.cells #[] e)) B e (.slice (some ⟨w.heap.size,0,none⟩) 0 0) [] :=
  ⟨by simp [cellsR],.inr ⟨w.heap.size,0,#[],rfl,hB,heap_alloc_new w _,Nat.le_refl _,by simp [maxLen],by simp,by simp [cellsR]⟩⟩
theorem Q7 {P : Program} (t ty : TypeId) (B : Nat) (e : TypeId) (sz : Nat) (z : Value) (bytes : Nat) (ht : P.underlying t = some (.slice e)) (hi : (P.info? e).map (fun i => (i.zero,i.size,i.bytes)) = some (some z,sz,bytes)) (hzs : z.cells.size = sz) (hsz : 0 < sz)
    {α : Type} (f : α → Nat → Value) (hone : ∀ x j,(f x j).oneCell' = true) (w : World) (v : Value) (l : List α) (hown : OwnR sz f w B e v l) (A : Option Addr) (m c C : Nat) (news : List α) (hr : Recs sz f w C A m news)
    (h63 : l.length + m ≤ maxLen) (hbytes : (l.length + m) * bytes ≤ 140737488355328) (hB : B ≤ w.heap.size) :
    ∃ v' w',(Builtin.append_ #[t,t] ty #[v,.slice A m c]).run P w = .ok v' w' ∧ OwnR sz f w' B e v' (l ++ news) ∧ Grew w w' v v':=by
  obtain ⟨i,hi0,hzz⟩:=Option.map_eq_some_iff.1 hi
  simp only [Prod.mk.injEq] at hzz
  obtain ⟨hz,hsize,hby⟩:=hzz
  rcases A with _ | ad
  · have h0 : m = 0:=by
      rcases Nat.eq_zero_or_pos m with h0 | h0
      · exact h0
      · obtain ⟨_,h,_⟩:=hr.cells h0;cases h
    subst h0
    have hn : news = []:=List.eq_nil_of_length_eq_zero hr.len
    subst hn
    rcases hown.2 with ⟨rfl,hl0⟩ | ⟨g,cap,cur,rfl,_,_,hnc,_⟩
    · exact ⟨_,w,by simp [Builtin.append_,run_underlying ht,sizeOf,typeInfo,hi0,Builtin.lenOf,Builtin.firstCells],by simpa using hown,Grew.refl _ _⟩
    · exact ⟨_,w,by simp [Builtin.append_,run_underlying ht,sizeOf,typeInfo,hi0,Builtin.lenOf,Builtin.firstCells,hnc,storeCells],by simpa using hown,Grew.refl _ _⟩
  · have hcl : (cellsR sz f news).length = m * sz:=by rw [lU,hr.len]
    have hcells : ∀ j u,(cellsR sz f news)[j]? = some u → w.cell? (ad.add j) = some u:=by
      intro j u hu
      have hj : j < m * sz:=by
        have:=(List.getElem?_eq_some_iff.1 hu).1
        rw [hcl] at this;exact this
      have h0 : 0 < m:=by
        rcases Nat.eq_zero_or_pos m with h0 | h0
        · rw [h0] at hj;omega
        · exact h0
      obtain ⟨ad',e1,_,hc⟩:=hr.cells h0
      cases e1
      have hd : j / sz < m:=by
        rcases Nat.lt_or_ge (j / sz) m with h | h
        · exact h
        · have h1:=Nat.mul_le_mul_right sz h
          have h2:=Nat.div_mul_le_self j sz
          omega
      have hr2 : j % sz < sz:=Nat.mod_lt _ hsz
      have hq : j = j / sz * sz + j % sz:=by have:=Nat.div_add_mod j sz;rw [Nat.mul_comm] at this;omega
      have hx : news[j / sz]? = some (news[j / sz]'(by rw [hr.len];exact hd)):=List.getElem?_eq_getElem _
      have h1:=hc _ _ hx _ hr2
      have h2:=lM sz f news _ _ _ hx hr2
      rw [← hq] at h1 h2
      rw [h2] at hu
      rw [h1,Option.some.inj hu]
    have hone' : ∀ u ∈ cellsR sz f news,u.oneCell' = true:=fun u hu => by
      unfold cellsR at hu
      obtain ⟨x,_,hu⟩:=List.mem_flatMap.1 hu
      obtain ⟨j,_,rfl⟩:=List.mem_map.1 hu
      exact hone x j
    obtain ⟨v',w',hrun,h2,h3,_,h5⟩:=run_append_own_at (P:=P) w B t ty e i z sz bytes ht hi0 hz hsize hby hzs hsz v l.length (cellsR sz f l) hown ad m c (cellsR sz f news) hcl hcells hone' h63 hbytes hB
    refine ⟨v',w',hrun,?_,h3,?_⟩
    · unfold OwnR;rw [List.length_append,hr.len,qV];exact h2
    · rcases h5 with h5 | h5
      · exact .inl h5
      · refine .inr fun g hg => ?_
        rw [h5] at hg;cases hg;exact Nat.le_refl _
theorem qO {P : Program} {ops : Array Oper} {rest : List Oper} {o : Oper} {a : Act} {Q : Exit → Act → World → Prop} (hgd : o.guard = none) (s x : Operand) (t : TypeId)
    (ho : o.op = .call { callee:=.builtin .append,args:=#[s,x],argTypes:=#[t,t] })
    (B : Nat) (e : TypeId) (sz : Nat) (z : Value) (bytes : Nat) (ht : P.underlying t = some (.slice e)) (hi : (P.info? e).map (fun i => (i.zero,i.size,i.bytes)) = some (some z,sz,bytes)) (hzs : z.cells.size = sz) (hsz : 0 < sz)
    {α : Type} (f : α → Nat → Value) (hone : ∀ x j,(f x j).oneCell' = true) (w : World) (v : Value) (l : List α) (hs : a.eval s = v) (hown : OwnR sz f w B e v l) (A : Option Addr) (m c C : Nat) (news : List α) (hx : a.eval x = .slice A m c) (hr : Recs sz f w C A m news)
    (h63 : l.length + m ≤ maxLen) (hbytes : (l.length + m) * bytes ≤ 140737488355328) (hB : B ≤ w.heap.size)
    (h : ∀ v' w',OwnR sz f w' B e v' (l ++ news) → Grew w w' v v' → wpList P ops Q rest (a.put o.dst v') w') : wpList P ops Q (o :: rest) a w:=by
  refine wpList_plain hgd fun K hK => ?_
  obtain ⟨v',w',hr,h2,h3⟩:=Q7 (P:=P) t o.type B e sz z bytes ht hi hzs hsz f hone w v l hown A m c C news hr h63 hbytes hB
  unfold Oper.wp execOp
  simp only [ho,resolve,invoke,builtin,Sem.run_bind,Sem.run_pure,Result.andThen_ok,List.map_toArray,List.map_cons,List.map_nil,hs,hx,hr]
  exact hK _ _ (h v' w' h2 h3)
end Go.Proofs.YtoekiejipdabmaaDoor
