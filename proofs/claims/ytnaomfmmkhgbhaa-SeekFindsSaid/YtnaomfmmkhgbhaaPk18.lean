/- SemRIn, SemROwn, SemRB, SemR1, SemR2, SemR4. -/
import Derived.Test.YtnaomfmmkhgbhaaPk5
import Derived.Test.YtnaomfmmkhgbhaaPk7
import Derived.Test.YtnaomfmmkhgbhaaPk6
import Derived.Test.YtnaomfmmkhgbhaaPk8
import Derived.Test.YtnaomfmmkhgbhaaPk2
import Derived.Test.YtnaomfmmkhgbhaaProgRef5
import Derived.Test.YtnaomfmmkhgbhaaPk3
import Derived.Test.YtnaomfmmkhgbhaaSemPb
import Derived.Test.YtnaomfmmkhgbhaaPk10
namespace Go.Proofs.Ytnaomfmmkhgbhaa
open Go.RowKit
def slV (l : List Nat) (j : Nat) : Value:=.int .i64 ((l.getD j 0 : Nat) : Int)
theorem vP (l : List Nat) (j : Nat) : (slV l j).oneCell' = true:=rfl
structure Rc where
  A : Option Addr
  cap : Nat
  svs : List Sv
  A2 : Option Addr
  cap2 : Nat
  sls : List (List Nat)
  len : Nat
  ow : List Nat
def rcC (q : Rc) : List Value:=.slice q.A q.len q.cap :: .slice q.A2 q.len q.cap2 :: q.ow.map natV
def rcA (q : Rc) : Value:=.agg (rcC q).toArray
theorem lC (q : Rc) : rcA q = .agg (rcC q).toArray:=rfl
def Rc.cf (q : Rc) : M.Cf:=⟨List.zipWith (fun (s : Sv) l => ⟨s.stack,l⟩) q.svs q.sls,q.ow⟩
structure Rc.Ok (q : Rc) (w : World) (B : Nat) : Prop where
  row : Row svV w B q.A q.len q.svs
  slr : Recs 8 slV w B q.A2 q.len q.sls
  lc : q.len ≤ q.cap ∧ q.cap ≤ maxLen
  lc2 : q.len ≤ q.cap2 ∧ q.cap2 ≤ maxLen
  svs : ∀ x ∈ q.svs,x.Ok w B
theorem Rc.Ok.keep {q : Rc} {w w' : World} {B : Nat} (h : q.Ok w B) (hk : ∀ p : Addr,p.block < B → w'.cell? p = w.cell? p) : q.Ok w' B:=⟨h.row.keep hk,h.slr.keep hk,h.lc,h.lc2,fun x hx => (h.svs x hx).keep hk⟩
theorem Rc.Ok.below {q : Rc} {w w' : World} {B : Nat} (h : q.Ok w B) (hb : Below B w w') : q.Ok w' B:=h.keep fun _ hp => hb.cell hp
theorem Rc.Ok.more {q : Rc} {w : World} {B B' : Nat} (h : q.Ok w B) (hB : B ≤ B') : q.Ok w B':=⟨h.row.more hB,h.slr.more hB,h.lc,h.lc2,fun x hx => (h.svs x hx).more hB⟩
theorem Rc.Ok.len {q : Rc} {w : World} {B : Nat} (h : q.Ok w B) : q.cf.ths.length = q.len:=by
  unfold Rc.cf
  rw [List.length_zipWith,h.row.len,h.slr.len,Nat.min_self]
theorem Rc.Ok.thread {q : Rc} {w : World} {B : Nat} (h : q.Ok w B) {k : Nat} (hk : k < q.len) :
    ∃ ad x ad2 sl,q.A = some ad ∧ ad.block < B ∧ q.svs[k]? = some x ∧ x.Ok w B ∧ w.cell? (ad.add k) = some (.slice x.A x.len x.cap) ∧ q.A2 = some ad2 ∧ ad2.block < B ∧ q.sls[k]? = some sl ∧ M.th q.cf k = ⟨x.stack,sl⟩ ∧ x.stack.length = x.len ∧
      ∀ j,j < 8 → w.cell? (ad2.add (k * 8 + j)) = some (.int .i64 ((sl.getD j 0 : Nat) : Int)):=by
  obtain ⟨ad,x,e,hb,hx,hc⟩:=h.row.get hk
  obtain ⟨ad2,sl,e2,hb2,hsl,hc2⟩:=h.slr.get hk
  have hok:=h.svs x (List.mem_of_getElem? hx)
  refine ⟨ad,x,ad2,sl,e,hb,hx,hok,hc,e2,hb2,hsl,M.th_is ?_,hok.row.len,fun j hj => hc2 j hj⟩
  unfold Rc.cf
  rw [List.getElem?_zipWith,hx,hsl]
theorem jJ {q : Rc} (h : q.ow.length = 16) : (rcC q).length = 18:=by simp [rcC,h]
theorem l0 (q : Rc) : ∀ u ∈ rcC q,u.oneCell' = true:=by
  intro u hu
  unfold rcC at hu
  rcases List.mem_cons.1 hu with rfl | hu
  · rfl
  rcases List.mem_cons.1 hu with rfl | hu
  · rfl
  · obtain ⟨x,_,rfl⟩:=List.mem_map.1 hu
    rfl
theorem lM {P : Program} {ops : Array Oper} {rest : List Oper} {o : Oper} {a : Act} {w : World} {Q : Exit → Act → World → Prop} (hgd : o.guard = none) (s x : Operand) (t : TypeId)
    (ho : o.op = .call { callee:=.builtin .append,args:=#[s,x],argTypes:=#[t,t] })
    (B : Nat) (e : TypeId) (sz : Nat) (z : Value) (bytes : Nat) (ht : P.underlying t = some (.slice e)) (hi : (P.info? e).map (fun i => (i.zero,i.size,i.bytes)) = some (some z,sz,bytes)) (hzs : z.cells.size = sz) (hsz : 0 < sz)
    {α : Type} (f : α → Nat → Value) (hone : ∀ x j,(f x j).oneCell' = true) (g : Nat) (hs : a.eval s = .slice (some ⟨g,0,none⟩) 0 0) (hown : OwnR sz f w B e (.slice (some ⟨g,0,none⟩) 0 0) ([] : List α)) (A : Option Addr) (m c C : Nat) (news : List α) (hx : a.eval x = .slice A m c) (hr : Recs sz f w C A m news)
    (h63 : m ≤ maxLen) (hbytes : m * bytes ≤ 140737488355328) (hB : B ≤ w.heap.size)
    (h : ∀ g' c' w',OwnR sz f w' B e (.slice (some ⟨g',0,none⟩) m c') news → Below w.heap.size w w' → (g' = g ∨ w.heap.size ≤ g') → wpList P ops Q rest (a.put o.dst (.slice (some ⟨g',0,none⟩) m c')) w') : wpList P ops Q (o :: rest) a w:=by
  refine wpList_plain hgd fun K hK => ?_
  have key : ∃ g' c' w',(Builtin.append_ #[t,t] o.type #[.slice (some ⟨g,0,none⟩) 0 0,.slice A m c]).run P w = .ok (.slice (some ⟨g',0,none⟩) m c') w' ∧ OwnR sz f w' B e (.slice (some ⟨g',0,none⟩) m c') news ∧ Below w.heap.size w w' ∧ (g' = g ∨ w.heap.size ≤ g'):=by
    rcases Nat.eq_zero_or_pos m with h0 | h0
    · subst h0
      have hn : news = []:=List.eq_nil_of_length_eq_zero hr.len
      subst hn
      obtain ⟨i,hi0,hzz⟩:=Option.map_eq_some_iff.1 hi
      refine ⟨g,0,w,?_,hown,Below.refl _ _,.inl rfl⟩
      cases A with
      | none => simp [Builtin.append_,run_underlying ht,sizeOf,typeInfo,hi0,Builtin.lenOf,Builtin.firstCells,storeCells]
      | some ad =>
        have hl : (loadCells ad 0).run P w = .ok #[] w:=run_loadCells_list (P:=P) w ad [] (fun j v h => by simp at h)
        simp [Builtin.append_,run_underlying ht,sizeOf,typeInfo,hi0,Builtin.lenOf,Builtin.firstCells,storeCells,hl]
    · obtain ⟨v',w',hrun,h2,h3⟩:=J3 (P:=P) t o.type B e sz z bytes ht hi hzs hsz f hone w _ [] hown A m c C news hr (by simpa using h63) (by simpa using hbytes) hB
      obtain ⟨i,hi0,hzz⟩:=Option.map_eq_some_iff.1 hi
      simp only [Prod.mk.injEq] at hzz
      obtain ⟨hz,hsize,hby⟩:=hzz
      obtain ⟨ad,rfl,_,hc⟩:=hr.cells h0
      have hcl : (cellsR sz f news).length = m * sz:=by rw [lU,hr.len]
      have hcells : ∀ j u,(cellsR sz f news)[j]? = some u → w.cell? (ad.add j) = some u:=by
        intro j u hu
        have hj : j < m * sz:=by
          have:=(List.getElem?_eq_some_iff.1 hu).1
          rw [hcl] at this;exact this
        have hd : j / sz < m:=by
          rcases Nat.lt_or_ge (j / sz) m with h | h
          · exact h
          · have h1:=Nat.mul_le_mul_right sz h
            have h2:=Nat.div_mul_le_self j sz
            omega
        have hr2 : j % sz < sz:=Nat.mod_lt _ hsz
        have hq : j = j / sz * sz + j % sz:=by have:=Nat.div_add_mod j sz;rw [Nat.mul_comm] at this;omega
        have hx : news[j / sz]? = some (news[j / sz]'(by rw [hr.len];exact hd)):=List.getElem?_eq_getElem _
        have h1:=hc _ _ hx _ hr2
        have h2:=lE sz f news _ _ _ hx hr2
        rw [← hq] at h1 h2
        rw [h2] at hu
        rw [h1,Option.some.inj hu]
      have hsm : m ≤ 9223372036854775807:=by unfold maxLen at h63;omega
      have hr2:=run_append_grow (P:=P) w t o.type e i z ht hi0 hz ⟨g,0,none⟩ 0 0 [] (by simp) (fun j v h => by simp at h) ad m c (cellsR sz f news) (by rw [hsize];exact hcl) hcells (by omega) (by omega) (growslice_fits (by omega) (by rw [hby];simpa using hbytes))
      rw [hrun] at hr2
      injection hr2 with e1 e2
      subst e1
      rw [Nat.zero_add] at hrun h2
      refine ⟨w.heap.size,_,w',hrun,by simpa using h2,?_,.inr (Nat.le_refl _)⟩
      rw [e2]
      exact ⟨rfl,rfl,rfl,by simp,fun k hk => Below.heap_alloc w.drew _ k hk⟩
  obtain ⟨g',c',w',hrun,h1,h2,h3⟩:=key
  unfold Oper.wp execOp
  simp only [ho,resolve,invoke,builtin,Sem.run_bind,Sem.run_pure,Result.andThen_ok,List.map_toArray,List.map_cons,List.map_nil,hs,hx,hrun]
  exact hK _ _ (h g' c' w' h1 h2 h3)
def svR (x : Sv) (_ : Nat) : Value:=svV x
theorem QD (x : Sv) (j : Nat) : (svR x j).oneCell' = true:=rfl
theorem recs_row {w : World} {B n : Nat} {A : Option Addr} {l : List Sv} (h : Recs 1 svR w B A n l) : Row svV w B A n l :=
  ⟨h.len,fun h0 => by
    obtain ⟨ad,e,hb,hc⟩:=h.cells h0
    refine ⟨ad,e,hb,fun k hk => ?_⟩
    have hx : l[k]? = some (l[k]'(by rw [h.len];exact hk)):=List.getElem?_eq_getElem _
    have:=hc k _ hx 0 (by omega)
    rw [hx]
    rw [Nat.mul_one,Nat.add_zero] at this
    exact this⟩
structure RMine (w : World) (B : Nat) (q : Rc) : Prop where
  row : OwnR 1 svR w B 123 (.slice q.A q.len q.cap) q.svs
  slr : OwnR 8 slV w B 92 (.slice q.A2 q.len q.cap2) q.sls
  fam : Fam 122 w B (fun b => (Value.slice q.A q.len q.cap).ownBlock = some b ∨ (Value.slice q.A2 q.len q.cap2).ownBlock = some b) q.svs
  ne : ∀ b,(Value.slice q.A q.len q.cap).ownBlock = some b → (Value.slice q.A2 q.len q.cap2).ownBlock ≠ some b
theorem RMine.ok {w : World} {B : Nat} {q : Rc} (h : RMine w B q) : q.Ok w w.heap.size :=
  ⟨recs_row h.row.recs,h.slr.recs,h.row.len_is.2,h.slr.len_is.2,fun x hx => by
    obtain ⟨k,hk⟩:=List.mem_iff_getElem?.1 hx
    have ho:=h.fam.own k x hk
    exact ⟨ho.recs,ho.len_is.2.1,ho.len_is.2.2⟩⟩
theorem RMine.below {w w' : World} {B C : Nat} {q : Rc} (h : RMine w B q) (hb : Below C w w') (hC : w.heap.size ≤ C) : RMine w' B q:=⟨h.row.below hb hC,h.slr.below hb hC,h.fam.below hb hC,h.ne⟩
theorem RMine.far {w w' : World} {B g : Nat} {q : Rc} (h : RMine w B q) (hg : w.grownBy w' (some g)) (hB : g < B ∨ w.heap.size ≤ g) : RMine w' B q:=by
  have key : ∀ b,B ≤ b ∧ b < w.heap.size → b ≠ g:=fun b hb e => by subst e;omega
  have k1 : ∀ v : Value,(∀ b,v.ownBlock = some b → B ≤ b ∧ b < w.heap.size) → v.ownBlock = none ∨ v.ownBlock ≠ some g:=fun v hv => by
    cases h1 : v.ownBlock with
    | none => exact .inl rfl
    | some b => exact .inr fun e => key b (hv b h1) (by cases e;rfl)
  exact ⟨h.row.far hg (k1 _ h.row.block),h.slr.far hg (k1 _ h.slr.block),⟨fun k x hx => (h.fam.own k x hx).far hg (k1 _ fun b hb => h.fam.block hx hb),h.fam.out,h.fam.apart⟩,h.ne⟩
theorem zK {v : Value} {g : Nat} (h : ∀ b,v.ownBlock = some b → b ≠ g) : v.ownBlock = none ∨ v.ownBlock ≠ some g:=by
  cases hv : v.ownBlock with
  | none => exact .inl rfl
  | some b => exact .inr fun e => h b hv (by cases e;rfl)
theorem OwnR.room_or {α : Type} {sz : Nat} {f : α → Nat → Value} {w : World} {B : Nat} {e : TypeId} {A : Option Addr} {n cap : Nat} {l : List α} (h : OwnR sz f w B e (.slice A n cap) l) :
    (∃ g,A = some ⟨g,0,none⟩ ∧ n + 1 ≤ cap) ∨ (Value.slice A n cap = .slice none 0 0 ∨ ∃ g,Value.slice A n cap = .slice (some ⟨g,0,none⟩) l.length l.length):=by
  rcases h.2 with ⟨hv,hz⟩ | ⟨g,cap',cur,hv,hB,hg,hn,hm,hs,ht⟩
  · exact .inr (.inl hv)
  · injection hv with e1 e2 e3
    by_cases hr : n + 1 ≤ cap
    · exact .inl ⟨g,e1,hr⟩
    · refine .inr (.inr ⟨g,?_⟩)
      rw [e1,e2,show cap = l.length by omega]
section
variable {P : Program} {ops : Array Oper} {rest : List Oper} {o : Oper} {a : Act} {w : World} {Q : Exit → Act → World → Prop} {α : Type}
theorem lB (hgd : o.guard = none) (s x : Operand) (t : TypeId)
    (ho : o.op = .call { callee:=.builtin .append,args:=#[s,x],argTypes:=#[t,t] })
    (B : Nat) (e : TypeId) (sz : Nat) (z : Value) (bytes : Nat) (ht : P.underlying t = some (.slice e)) (hi : (P.info? e).map (fun i => (i.zero,i.size,i.bytes)) = some (some z,sz,bytes)) (hzs : z.cells.size = sz) (hsz : 0 < sz)
    (f : α → Nat → Value) (hone : ∀ x j,(f x j).oneCell' = true)
    (A : Option Addr) (cap n : Nat) (l : List α) (hn : l.length = n) (u : α) (hs : a.eval s = .slice A n cap) (hown : OwnR sz f w B e (.slice A n cap) l) (hfull : Value.slice A n cap = .slice none 0 0 ∨ ∃ g,Value.slice A n cap = .slice (some ⟨g,0,none⟩) l.length l.length)
    (gn c : Nat) (hx : a.eval x = .slice (some ⟨gn,0,none⟩) 1 c) (hbk : Blk w gn e ((List.range sz).map (f u))) (h63 : n + 1 ≤ maxLen) (hbytes : (n + 1) * bytes ≤ 140737488355328) (hB : B ≤ w.heap.size)
    (h : ∀ g c' w',OwnR sz f w' B e (.slice (some ⟨g,0,none⟩) (n + 1) c') (l ++ [u]) → Below w.heap.size w w' → w.heap.size ≤ g → wpList P ops Q rest (a.put o.dst (.slice (some ⟨g,0,none⟩) (n + 1) c')) w') : wpList P ops Q (o :: rest) a w:=by
  subst hn
  refine xJ hgd s x t ho B e sz z bytes ht hi hzs hsz f hone _ l u hs hown hfull gn c hx hbk h63 hbytes hB fun v' w' h1 h2 h3 => ?_
  obtain ⟨A',c',rfl,_⟩:=h1.form
  rw [List.length_append,List.length_singleton] at h1 h3 ⊢
  cases A' with
  | none => cases h3
  | some ad =>
    have e1 : ad.block = w.heap.size:=by injection h3
    obtain ⟨g,cur,hA,_⟩:=h1.blk (by omega)
    injection hA with hA
    subst hA
    exact h g c' w' h1 h2 (by rw [← e1];exact Nat.le_refl _)
end
structure RB (w : World) (B gO gR : Nat) (A : Option Addr) (n cap : Nat) (svs : List Sv) (A2 : Option Addr) (n2 cap2 : Nat) (sls : List (List Nat)) (ow : List Nat) : Prop where
  conf : Blk w gO 79 (.slice A n cap :: .slice A2 n2 cap2 :: ow.map natV)
  row : OwnR 1 svR w B 123 (.slice A n cap) svs
  slr : OwnR 8 slV w B 92 (.slice A2 n2 cap2) sls
  fam : Fam 122 w B (fun b => b = gO ∨ b = gR ∨ (Value.slice A n cap).ownBlock = some b ∨ (Value.slice A2 n2 cap2).ownBlock = some b) svs
  ne : ∀ b,(Value.slice A n cap).ownBlock = some b → b ≠ gO ∧ b ≠ gR ∧ (Value.slice A2 n2 cap2).ownBlock ≠ some b
  ne2 : ∀ b,(Value.slice A2 n2 cap2).ownBlock = some b → b ≠ gO ∧ b ≠ gR
  low : B ≤ gO ∧ gR < w.heap.size
section
variable {w W w' : World} {B gO gR : Nat} {A A' A2 : Option Addr} {n cap cap' n2 cap2 : Nat} {svs : List Sv} {sls : List (List Nat)} {ow : List Nat}
theorem RB.below {C : Nat} (h : RB w B gO gR A n cap svs A2 n2 cap2 sls ow) (hb : Below C w w') (hC : w.heap.size ≤ C) : RB w' B gO gR A n cap svs A2 n2 cap2 sls ow :=
  ⟨h.conf.below hb (Nat.lt_of_lt_of_le h.conf.lt hC),h.row.below hb hC,h.slr.below hb hC,h.fam.below hb hC,h.ne,h.ne2,h.low.1,Nat.lt_of_lt_of_le h.low.2 hb.size⟩
theorem RB.len (h : RB w B gO gR A n cap svs A2 n2 cap2 sls ow) : svs.length = n ∧ sls.length = n2:=⟨h.row.len_is.1,h.slr.len_is.1⟩
theorem RB.mine (h : RB w B gO gR A n cap svs A2 n cap2 sls ow) : RMine w B ⟨A,cap,svs,A2,cap2,sls,n,ow⟩ :=
  ⟨h.row,h.slr,h.fam.less fun _ hb => .inl (.inr (.inr hb)),fun b hb => (h.ne b hb).2.2⟩
theorem RB.row_push {g : Nat} {sv : Sv} (h : RB w B gO gR A n cap svs A2 n2 cap2 sls ow) (hg0 : w.grownBy W (Value.slice A n cap).ownBlock) (hrow : OwnR 1 svR W B 123 (.slice (some ⟨g,0,none⟩) (n + 1) cap') (svs ++ [sv]))
    (hV : (Value.slice A n cap).ownBlock = some g ∨ w.heap.size ≤ g) (ho : OwnR 2 frV W B 122 (svV sv) sv.stack) (hs : ∀ b,(svV sv).ownBlock = some b → w.heap.size ≤ b ∧ b ≠ g)
    (hb : Blk w' gO 79 (.slice (some ⟨g,0,none⟩) (n + 1) cap' :: .slice A2 n2 cap2 :: ow.map natV)) (hg : W.grownBy w' (some gO)) (hz : W.heap.size ≤ w'.heap.size) :
    RB w' B gO gR (some ⟨g,0,none⟩) (n + 1) cap' (svs ++ [sv]) A2 n2 cap2 sls ow:=by
  have hOl:=h.conf.lt
  have hRl:=h.low.2
  have hgO : g ≠ gO:=by
    rcases hV with hV | hV
    · exact (h.ne g hV).1
    · omega
  have hgR : g ≠ gR:=by
    rcases hV with hV | hV
    · exact (h.ne g hV).2.1
    · omega
  have hs2 : ∀ b,(Value.slice A2 n2 cap2).ownBlock = some b → b ≠ g:=fun b hb2 e => by
    subst e
    rcases hV with hV | hV
    · exact (h.ne b hV).2.2 hb2
    · have:=(h.slr.block b hb2).2;omega
  have hslr : OwnR 8 slV W B 92 (.slice A2 n2 cap2) sls:=h.slr.far hg0 (by
    cases hv : (Value.slice A2 n2 cap2).ownBlock with
    | none => exact .inl rfl
    | some b => exact .inr fun e => (h.ne b e.symm).2.2 hv)
  refine ⟨hb,hrow.far hg (.inr fun e => hgO (by cases e;rfl)),hslr.far hg (zK fun b hb => (h.ne2 b hb).1),?_,fun b e => by cases e;exact ⟨hgO,hgR,fun e2 => hs2 _ e2 rfl⟩,h.ne2,h.low.1,by have:=hg0.size;omega⟩
  have f1 : Fam 122 w B (fun b => (b = gO ∨ b = gR ∨ (Value.slice A n cap).ownBlock = some b ∨ (Value.slice A2 n2 cap2).ownBlock = some b) ∨ b = g) svs:=h.fam.less fun b hb => by
    rcases hb with hb | hb
    · exact .inl hb
    · subst hb
      rcases hV with hV | hV
      · exact .inl (.inr (.inr (.inl hV)))
      · exact .inr hV
  have f2:=f1.turn hg0 (fun b e => .inl (.inr (.inr (.inl e))))
  have f3:=f2.add ho (fun b e => by
    have h1:=hs b e
    rintro ((e1 | e1 | e1 | e1) | e1)
    · omega
    · omega
    · have:=(h.row.block b e1).2;omega
    · have:=(h.slr.block b e1).2;omega
    · exact h1.2 e1) (fun k y b hy e e3 => by
    have h1:=hs b e
    have:=(f1.block hy e3).2
    omega)
  have f4:=f3.turn hg (fun b e => by cases e;exact .inl (.inl rfl))
  refine f4.less fun b hb => ?_
  rcases hb with hb | hb | hb | hb
  · exact .inl (.inl (.inl hb))
  · exact .inl (.inl (.inr (.inl hb)))
  · cases hb;exact .inl (.inr rfl)
  · exact .inl (.inl (.inr (.inr (.inr hb))))
theorem RB.slr_push {g : Nat} {sl : List Nat} (h : RB w B gO gR A n cap svs A2 n2 cap2 sls ow) (hg0 : w.grownBy W (Value.slice A2 n2 cap2).ownBlock) (hslr : OwnR 8 slV W B 92 (.slice (some ⟨g,0,none⟩) (n2 + 1) cap') (sls ++ [sl]))
    (hV : (Value.slice A2 n2 cap2).ownBlock = some g ∨ w.heap.size ≤ g)
    (hb : Blk w' gO 79 (.slice A n cap :: .slice (some ⟨g,0,none⟩) (n2 + 1) cap' :: ow.map natV)) (hg : W.grownBy w' (some gO)) (hz : W.heap.size ≤ w'.heap.size) :
    RB w' B gO gR A n cap svs (some ⟨g,0,none⟩) (n2 + 1) cap' (sls ++ [sl]) ow:=by
  have hOl:=h.conf.lt
  have hRl:=h.low.2
  have hgO : g ≠ gO:=by
    rcases hV with hV | hV
    · exact (h.ne2 g hV).1
    · omega
  have hgR : g ≠ gR:=by
    rcases hV with hV | hV
    · exact (h.ne2 g hV).2
    · omega
  have hs2 : ∀ b,(Value.slice A n cap).ownBlock = some b → b ≠ g:=fun b hb2 e => by
    subst e
    rcases hV with hV | hV
    · exact (h.ne b hb2).2.2 hV
    · have:=(h.row.block b hb2).2;omega
  have hrow : OwnR 1 svR W B 123 (.slice A n cap) svs:=h.row.far hg0 (by
    cases hv : (Value.slice A n cap).ownBlock with
    | none => exact .inl rfl
    | some b => exact .inr fun e => (h.ne b hv).2.2 e.symm)
  refine ⟨hb,hrow.far hg (zK fun b hb => (h.ne b hb).1),hslr.far hg (.inr fun e => hgO (by cases e;rfl)),?_,fun b e => ⟨(h.ne b e).1,(h.ne b e).2.1,fun e2 => by cases e2;exact hs2 _ e rfl⟩,fun b e => by cases e;exact ⟨hgO,hgR⟩,h.low.1,by have:=hg0.size;omega⟩
  have f1 : Fam 122 w B (fun b => (b = gO ∨ b = gR ∨ (Value.slice A n cap).ownBlock = some b ∨ (Value.slice A2 n2 cap2).ownBlock = some b) ∨ b = g) svs:=h.fam.less fun b hb => by
    rcases hb with hb | hb
    · exact .inl hb
    · subst hb
      rcases hV with hV | hV
      · exact .inl (.inr (.inr (.inr hV)))
      · exact .inr hV
  have f2:=f1.turn hg0 (fun b e => .inl (.inr (.inr (.inr e))))
  have f4:=f2.turn hg (fun b e => by cases e;exact .inl (.inl rfl))
  refine f4.less fun b hb => ?_
  rcases hb with hb | hb | hb | hb
  · exact .inl (.inl (.inl hb))
  · exact .inl (.inl (.inr (.inl hb)))
  · exact .inl (.inl (.inr (.inr (.inl hb))))
  · cases hb;exact .inl (.inr rfl)
theorem RB.row_set {k gS : Nat} {x sv : Sv} {cur : List Value} (h : RB w B gO gR A n cap svs A2 n2 cap2 sls ow) (hA : A = some ⟨gS,0,none⟩) (hc : Blk w gS 123 cur) (hx : svs[k]? = some x) (hg0 : w.grownBy W (svV x).ownBlock) (ho : OwnR 2 frV W B 122 (svV sv) sv.stack)
    (hbk : (svV sv).ownBlock = (svV x).ownBlock ∨ ∀ b,(svV sv).ownBlock = some b → w.heap.size ≤ b) (hb : Blk w' gS 123 (cur.set k (svV sv))) (hg : W.grownBy w' (some gS)) (hz : W.heap.size ≤ w'.heap.size) :
    RB w' B gO gR A n cap (svs.set k sv) A2 n2 cap2 sls ow:=by
  have hAb : (Value.slice A n cap).ownBlock = some gS:=by rw [hA];rfl
  have hout : ∀ b,(svV x).ownBlock = some b → ¬ (b = gO ∨ b = gR ∨ (Value.slice A n cap).ownBlock = some b ∨ (Value.slice A2 n2 cap2).ownBlock = some b):=fun b hb => h.fam.out k x b hx hb
  have hnS : some gS ≠ (svV x).ownBlock:=fun e => hout gS e.symm (.inr (.inr (.inl hAb)))
  have hnO : some gO ≠ (svV x).ownBlock:=fun e => hout gO e.symm (.inl rfl)
  have hne:=h.ne gS hAb
  refine ⟨(h.conf.grown hg0 hnO).grown hg (fun e => hne.1 (by cases e;rfl)),?_,?_,?_,h.ne,h.ne2,h.low.1,by have:=hg0.size;have:=h.low.2;omega⟩
  · have hr:=h.row.far hg0 (by rw [hAb];exact .inr hnS)
    rw [hA] at hr ⊢
    exact hr.set (x':=sv) (j:=0) hx (by omega) (fun i hi => by
      have : i = 0:=by omega
      subst this;rfl) (hc.grown hg0 hnS) rfl (by rw [Nat.mul_one,Nat.add_zero];exact hb)
  · refine (h.slr.far hg0 ?_).far hg (zK fun b hb e => hne.2.2 (by rw [← e];exact hb))
    cases hv : (Value.slice A2 n2 cap2).ownBlock with
    | none => exact .inl rfl
    | some b => exact .inr fun e => hout b e.symm (.inr (.inr (.inr hv)))
  · refine (h.fam.set hx hg0 ho hbk fun b hb2 => ?_).turn hg fun b e => by cases e;exact .inr (.inr (.inl hAb))
    rcases hb2 with rfl | rfl | hb2 | hb2
    · exact h.conf.lt
    · exact h.low.2
    · exact (h.row.block b hb2).2
    · exact (h.slr.block b hb2).2
theorem RB.goes {k : Nat} {x : Sv} (h : RB w B gO gR A n cap svs A2 n2 cap2 sls ow) (hx : svs[k]? = some x) (h0 : 0 < x.len) :
    ∃ gK cur,x.A = some ⟨gK,0,none⟩ ∧ Blk w gK 122 cur ∧ (x.len - 1) * 2 + 1 < cur.length ∧ gK ≠ gO ∧ gK ≠ gR ∧ B ≤ gK ∧ gK < w.heap.size ∧
      ∀ W w' m,Below w.heap.size w W → Blk w' gK 122 (cur.set ((x.len - 1) * 2 + 1) (.int .i64 ((m : Nat) : Int))) → W.grownBy w' (some gK) → W.heap.size ≤ w'.heap.size → RB w' B gO gR A n cap (svs.set k ⟨x.A,x.len,x.cap,M.goOn x.stack m⟩) A2 n2 cap2 sls ow:=by
  have ho:=h.fam.own k _ hx
  obtain ⟨gK,cur,hA,hb,hs,ht,hB,hn,hm,hl⟩:=ho.blk h0
  have hbk : (svV x).ownBlock = some gK:=by unfold svV;rw [hA];rfl
  have hout:=h.fam.out k _ gK hx hbk
  have hlen : (x.len - 1) * 2 + 1 < cur.length:=by rw [hs];omega
  have hgl:=hb.lt
  refine ⟨gK,cur,hA,hb,hlen,fun e => hout (.inl e),fun e => hout (.inr (.inl e)),hB,hgl,fun W w' m hW hb' hg hz => ?_⟩
  replace hb:=hb.below hW hgl
  replace h:=h.below hW (Nat.le_refl _)
  replace ho:=h.fam.own k _ hx
  have htop : x.stack[x.len - 1]? = some (M.top x.stack):=by rw [← hl];exact M.top_at (by omega)
  have hown : OwnR 2 frV w' B 122 (svV ⟨x.A,x.len,x.cap,M.goOn x.stack m⟩) (M.goOn x.stack m):=by
    have hv : svV ⟨x.A,x.len,x.cap,M.goOn x.stack m⟩ = .slice (some ⟨gK,0,none⟩) x.len x.cap:=by unfold svV;simp only;rw [hA]
    have hst : M.goOn x.stack m = x.stack.set (x.len - 1) ((M.top x.stack).1,m):=by unfold M.goOn;rw [hl]
    rw [hv,hst]
    have ho2:=ho
    unfold svV at ho2
    rw [hA] at ho2
    exact ho2.set htop (by omega) frV_go hb rfl hb'
  refine ⟨h.conf.grown hg (fun e => hout (.inl (by cases e;rfl))),?_,?_,?_,h.ne,h.ne2,h.low.1,by have:=h.low.2;omega⟩
  · refine (h.row.far hg (zK fun b hb2 e => hout (.inr (.inr (.inl (by rw [← e];exact hb2)))))).congr (by simp) (J2 hx ?_)
    funext j
    rfl
  · exact h.slr.far hg (zK fun b hb2 e => hout (.inr (.inr (.inr (by rw [← e];exact hb2)))))
  · refine h.fam.set hx (by rw [hbk];exact hg) hown (.inl rfl) fun b hb2 => ?_
    rcases hb2 with rfl | rfl | hb2 | hb2
    · exact h.conf.lt
    · exact h.low.2
    · exact (h.row.block b hb2).2
    · exact (h.slr.block b hb2).2
theorem RB.owns {a o : Nat} (h : RB w B gO gR A n cap svs A2 n2 cap2 sls ow) (hb : Blk w' gO 79 ((.slice A n cap :: .slice A2 n2 cap2 :: ow.map natV : List Value).set (2 + a) (.int .i64 (o : Int)))) (hg : w.grownBy w' (some gO)) (hz : w.heap.size ≤ w'.heap.size) :
    RB w' B gO gR A n cap svs A2 n2 cap2 sls (ow.set a o):=by
  refine ⟨?_,h.row.far hg (zK fun b hb => (h.ne b hb).1),h.slr.far hg (zK fun b hb => (h.ne2 b hb).1),h.fam.turn hg fun b e => .inl (by cases e;rfl),h.ne,h.ne2,h.low.1,by have:=h.low.2;omega⟩
  have e : (.slice A n cap :: .slice A2 n2 cap2 :: ow.map natV : List Value).set (2 + a) (.int .i64 (o : Int)) = .slice A n cap :: .slice A2 n2 cap2 :: (ow.set a o).map natV:=by
    rw [show 2 + a = (a + 1) + 1 by omega,List.set_cons_succ,List.set_cons_succ,List.map_set];rfl
  rw [e] at hb
  exact hb
theorem RB.slot {k gL j o : Nat} {sl : List Nat} {cur : List Value} (h : RB w B gO gR A n cap svs A2 n2 cap2 sls ow) (hA : A2 = some ⟨gL,0,none⟩) (hc : Blk w gL 92 cur) (hx : sls[k]? = some sl) (h8 : sl.length = 8) (hj : j < 8)
    (hb : Blk w' gL 92 (cur.set (k * 8 + j) (.int .i64 (o : Int)))) (hg : w.grownBy w' (some gL)) (hz : w.heap.size ≤ w'.heap.size) : RB w' B gO gR A n cap svs A2 n2 cap2 (sls.set k (sl.set j o)) ow:=by
  have hAb : (Value.slice A2 n2 cap2).ownBlock = some gL:=by rw [hA];rfl
  have hne:=h.ne2 gL hAb
  refine ⟨h.conf.grown hg (fun e => hne.1 (by cases e;rfl)),h.row.far hg (zK fun b hb e => (h.ne b hb).2.2 (by rw [e];exact hAb)),?_,h.fam.turn hg fun b e => .inr (.inr (.inr (by cases e;exact hAb))),h.ne,h.ne2,h.low.1,by have:=h.low.2;omega⟩
  have hr:=h.slr
  rw [hA] at hr ⊢
  refine hr.set (x':=sl.set j o) hx hj (fun i hi => ?_) hc rfl hb
  show Value.int .i64 (((sl.set j o).getD i 0 : Nat) : Int) = if i = j then _ else .int .i64 ((sl.getD i 0 : Nat) : Int)
  rw [List.getD_eq_getElem?_getD,List.getElem?_set,List.getD_eq_getElem?_getD]
  by_cases e : j = i
  · subst e
    rw [if_pos rfl,if_pos (by omega),if_pos rfl];rfl
  · rw [if_neg e,if_neg (fun e2 => e e2.symm)]
end
set_option maxRecDepth 100000 in
set_option maxHeartbeats 1600000 in
theorem qB (B : Nat) (q : Rc) (w : World) (hq : q.Ok w B) (hB : B ≤ w.heap.size) (_hl : q.len ≤ 1000) (t : Int) (ht : I64 t) (b : Bool) (hb : M.lives q.cf t = b) :
    Calls Try.prog 50 #[rcA q,.int .i64 t] w fun e w' => e = .returned (.bool b) ∧ Below w.heap.size w w':=by
  have hlen:=hq.len
  have hcap:=hq.lc.1;have hcm:=hq.lc.2
  unfold maxLen at hcm
  unfold I64 at ht
  by_cases h0 : 0 ≤ t
  · by_cases h1 : t < (q.len : Int)
    · obtain ⟨k,rfl⟩ : ∃ k : Nat,t = (k : Int):=⟨t.toNat,by omega⟩
      have hk : k < q.len:=by omega
      obtain ⟨ad,x,_,_,hA,hbl,hx,hok,hc0,_,_,_,hth,hsl,_⟩:=hq.thread hk
      rw [XU hth] at hb
      have hb2 : decide (0 < x.len) = b:=by rw [← hb,← hsl]
      have hxm:=hok.cm;have hxc:=hok.lc
      unfold maxLen at hxm
      have HC0:=kp hc0
      obtain ⟨n,hn⟩ : ∃ n,x.len = n:=⟨_,rfl⟩
      rw [hn] at hb2 hxc HC0
      have HE : Kept (rcC q = .slice (some ad) q.len q.cap :: .slice q.A2 q.len q.cap2 :: q.ow.map natV):=kp (by unfold rcC;rw [hA])
      have hbz : ad.block < w.heap.size:=by omega
      clear hq hb hx hok hth hsl hc0 hA hn hbl hlen
      unfold rcA
      rw [HE.out]
      cases b
      all_goals
        go_enter Try.func50,Try.ntmps50
        go_wp2_with ((with_reducible refine j2 rfl 79 (.tmp 0) rfl (.slice (some ad) q.len q.cap :: .slice q.A2 q.len q.cap2 :: q.ow.map natV) rfl ?_);intro g1 w1 hg1 hk1 hw1;have HW1:=kp hw1;have hf0:=hk1.cell 0;have hf1:=(hw1.cell (p:=ad.add k) (by rw [add_block];exact hbz)).trans HC0.out;simp only [List.getElem?_cons_zero] at hf0;clear hk1 hw1)
        go_ret
        exact ⟨rfl,HW1.out⟩
    · have hb0 : M.lives q.cf t = false:=uM (by omega)
      rw [hb0] at hb
      subst hb
      clear hq hlen hb0
      go_enter Try.func50,Try.ntmps50
      go_wp2_with ((with_reducible refine j2 rfl 79 (.tmp 0) rfl (rcC q) rfl ?_);intro g1 w1 hg1 hk1 hw1;have HW1:=kp hw1;have hf0:=hk1.cell 0;simp only [rcC,List.getElem?_cons_zero] at hf0;clear hk1 hw1)
      go_ret
      exact ⟨rfl,HW1.out⟩
  · have hb0 : M.lives q.cf t = false:=uM (by omega)
    rw [hb0] at hb
    subst hb
    clear hq hlen hb0
    go_enter Try.func50,Try.ntmps50
    go_wp2_with ((with_reducible refine j2 rfl 79 (.tmp 0) rfl (rcC q) rfl ?_);intro g1 w1 hg1 hk1 hw1;have HW1:=kp hw1;have hf0:=hk1.cell 0;simp only [rcC,List.getElem?_cons_zero] at hf0;clear hk1 hw1)
    go_ret
    exact ⟨rfl,HW1.out⟩
theorem XI : (Try.prog.info? 122).map (·.size) = some 2:=by kernel_rfl
theorem XH : (Try.prog.info? 122).map (·.zero) = some (some (.agg ([.int .i64 0,.int .i64 0] : List Value).toArray)):=by kernel_rfl
set_option maxRecDepth 100000 in
set_option maxHeartbeats 1600000 in
theorem qS (B : Nat) (p : Pg) (hf : Fine p) (q : Rc) (w : World) (hp : p.Ok w B) (hq : q.Ok w B) (hg : M.Good p q.cf) (hB : B ≤ w.heap.size) (k : Nat) (hlv : M.livesN q.cf k = true) (x : Nd) (hx : M.node p q.cf k = x) :
    Calls Try.prog 29 #[rcA q,pgA p,.int .i64 (k : Int)] w fun e w' => e = .returned (ndA x) ∧ Below w.heap.size w w':=by
  have h8 : q.len ≤ 8:=by rw [← hq.len];exact hg.most
  have hkl : k < q.len:=by rw [← hq.len];exact M.lives_lt hlv
  obtain ⟨ad,sv,_,_,hA,hadB,hsv,hok,hc0,_,_,_,hth,hsl,_⟩:=hq.thread hkl
  have hs0 : 0 < sv.len:=by
    unfold M.livesN at hlv
    rw [hth,decide_eq_true_eq] at hlv
    rw [← hsl];exact hlv
  obtain ⟨ad2,hA2,hadB2,hl0,hl1⟩:=hok.last hs0
  obtain ⟨fn,hfn,hfi,hfx⟩:=M.node_is hg hlv
  rw [hx,hth] at hfx
  rw [hth] at hfn
  have hlen16 : sv.len ≤ 1000:=by
    have h1:=M.high hf hp.row.len hg (x:=M.th q.cf k) (M.th_mem (M.lives_lt hlv))
    have h2:=hf.counts.f
    rw [hth] at h1
    have h4 : sv.stack.length ≤ p.fns.length:=h1
    omega
  obtain ⟨F,hF⟩ : ∃ F,(M.top sv.stack).1 = F:=⟨_,rfl⟩
  obtain ⟨N,hN⟩ : ∃ N,(M.top sv.stack).2 = N:=⟨_,rfl⟩
  have hfn2 : p.fns[F]? = some fn:=by rw [← hF];exact hfn
  have hfx2 : fn.nodes[N]? = some x:=by rw [← hN];exact hfx
  rw [hF] at hl0;rw [hN] at hl1
  have hpl:=hp.row.len
  have hfl : F < p.len:=by rw [← hpl];exact (List.getElem?_eq_some_iff.1 hfn2).1
  obtain ⟨adp,fn',hAp,hadp,hfn',hfok,hfc⟩:=hp.fn hfl
  rw [hfn2] at hfn';cases hfn'
  have hnl0:=hfok.nodes.1.len
  have hnl : N < fn.len:=by rw [← hnl0];exact (List.getElem?_eq_some_iff.1 hfx2).1
  obtain ⟨adn,x',hAn,hadn,hx',hxok,hn0,hn1,hn2,hn3⟩:=hfok.nodes.get hnl
  rw [hfx2] at hx';cases hx'
  rw [hA2] at hc0
  rw [hAn] at hfc
  have hpc:=hp.lc;have hpm:=hp.cm;have hfc2:=hfok.lc;have hfm:=hfok.cm;have hqc:=hq.lc.1;have hqm:=hq.lc.2;have hxc:=hok.lc;have hxm:=hok.cm
  unfold maxLen at hpm hfm hqm hxm
  have HEp : Kept (pgC p = [.int .i64 p.g,.int .i64 p.l,.int .i64 p.s,.slice (some adp) p.len p.cap]):=kp (by unfold pgC;rw [hAp])
  have HE : Kept (rcC q = .slice (some ad) q.len q.cap :: .slice q.A2 q.len q.cap2 :: q.ow.map natV):=kp (by unfold rcC;rw [hA])
  have HC0:=kp hc0;have HL0:=kp hl0;have HL1:=kp hl1;have HFc:=kp hfc;have HN0:=kp hn0;have HN1:=kp hn1;have HN2:=kp hn2;have HN3:=kp hn3
  obtain ⟨n,hn⟩ : ∃ n,sv.len = n:=⟨_,rfl⟩
  obtain ⟨cp,hcp⟩ : ∃ cp,sv.cap = cp:=⟨_,rfl⟩
  rw [hn] at HC0 HL0 HL1 hs0 hlen16 hxc
  rw [hcp] at HC0 hxc hxm
  obtain ⟨mm,rfl⟩ : ∃ mm,n = mm + 1:=⟨n - 1,by omega⟩
  rw [Nat.add_sub_cancel] at HL0 HL1
  clear hp hq hg hf hc0 hl0 hl1 hfn hfx hfn2 hfx2 hF hN hx hsv hok hth hsl hA hA2 hfi hn hcp hfok hfc hn0 hn1 hn2 hn3 hAp hAn hxok hlv hpl hnl0
  rw [lC,jI]
  go_enter Try.func29,Try.ntmps29
  go_wp2_with (first
    | ((with_reducible refine j2 rfl 79 (.tmp 0) rfl (rcC q) rfl ?_);intro g1 w1 hg1 hk1 hw1;have HK1:=kp hk1;have HW1:=kp hw1;have hs1:=hw1.size;have hl1:=hk1.lt;clear hk1 hw1)
    | ((with_reducible refine j2 rfl 24 (.tmp 1) rfl (pgC p) rfl ?_);intro g2 w2 hg2 hk2 hw2;have HK12:=kp (HK1.out.below hw2 hl1);have HK2:=kp hk2;have HW2:=kp (HW1.out.trans (hw2.mono hs1));have hs2:=HW2.out.size;have hl12:=HK12.out.lt;have hl2:=hk2.lt;clear hk2 hw2)
    | ((with_reducible show Sl 6);go_must (refine j3 rfl 55 rfl (ndC ⟨0,0,0,0⟩) jQ ?_);intro g3 w3 hg3 hk3 hw3
       have HK3:=kp hk3;have HK13:=kp (HK12.out.below hw3 hl12);have HK23:=kp (HK2.out.below hw3 hl2);have HW3:=kp (HW2.out.trans (hw3.mono hs2));have hs3:=HW3.out.size;have hl3:=hk3.lt;have hl23:=HK23.out.lt
       have HG3 : Kept (w.heap.size ≤ g3):=kp (by omega)
       have hc:=HK13.out.cell 0
       rw [HE.out,List.getElem?_cons_zero] at hc
       have hcs:=(HW3.out.cell (p:=ad.add k) (by rw [add_block];omega)).trans HC0.out
       have hf0:=(HW3.out.cell (p:=ad2.add (mm * 2)) (by rw [add_block];omega)).trans HL0.out
       have hf1:=(HW3.out.cell (p:=⟨(ad2.add (mm * 2)).block,(ad2.add (mm * 2)).off + 1,none⟩) (by show (ad2.add (mm * 2)).block < _;rw [add_block];omega)).trans HL1.out
       clear hk3 hw3)
    | ((with_reducible show Sl 8);go_must (refine j3 rfl 122 rfl _ XH ?_);intro g4 w4 hg4 hk4 hw4;have HK4:=kp hk4;have HW4:=kp (HW3.out.trans (hw4.mono hs3));have HK34:=kp (HK3.out.below hw4 hl3);have HK24a:=kp (HK23.out.below hw4 hl23);have hs4:=HW4.out.size;have HNe : Kept (g4 ≠ g3 ∧ g4 ≠ g2 ∧ w.heap.size ≤ g4):=kp (by omega);clear hk4 hw4 hc hcs hf0 hf1)
    | ((with_reducible show Sn);(refine j4 rfl 122 (.tmp 8) (.tmp 19) rfl g4 [.int .i64 (F : Int),.int .i64 (N : Int)] rfl rfl _ _ HK4.out XI rfl (by intro u hu;simp at hu;rcases hu with rfl | rfl <;> rfl) ?_);intro w8 hk8 hg8 hs8'
       have HK8:=kp hk8;have HW8:=kp (HW4.out.grown hg8 HW4.out.size (fun k e => by cases e;exact HNe.out.2.2));have HK38:=kp (HK34.out.grown hg8 (fun e => by cases e;exact HNe.out.1 rfl));have HK24:=kp (HK24a.out.grown hg8 (fun e => by cases e;exact HNe.out.2.1 rfl));clear hk8 hg8 hs8'))
  have hs8:=HW8.out.size;have hd2:=HK24.out.lt;have hd8:=HK8.out.lt
  simp only [JU]
  apply jC 10 (.is _ :: .is _ :: .is _ :: .is _ :: .is _ :: .is _ :: .is _ :: .is _ :: .is _ :: .is (ndA x) :: [])
    [[],[(0,20)],[],[(2,22)],[(1,21),(3,23)],[(4,24)],[],[(6,26)],[(5,25),(7,27)],[(8,28)],[(9,29)]]
    [(0,20),(1,21),(2,22),(3,23),(4,24),(5,25),(6,26),(7,27),(8,28),(9,29)] (by kernel_rfl) (by kernel_rfl) (by kernel_rfl) (by kernel_rfl) (by kernel_rfl)
  case hob =>
    refine ⟨?o0,?o1,?o2,?o3,?o4,?o5,?o6,?o7,?o8,?o9,trivial⟩
    case o0 => intro W hW;change wpList _ _ _ _ _ _;go_wp2;exact j0 rfl rfl rfl
    case o1 =>
      intro W hW;rintro _ rfl;change wpList _ _ _ _ _ _
      have hc:=(HK24.out.below hW hd2).cell 3
      rw [HEp.out] at hc
      simp only [List.getElem?_cons_zero,List.getElem?_cons_succ] at hc
      go_wp2;exact j0 rfl rfl rfl
    case o2 => intro W hW;change wpList _ _ _ _ _ _;go_wp2;exact j0 rfl rfl rfl
    case o3 =>
      intro W hW;rintro _ rfl;change wpList _ _ _ _ _ _
      have hc:=(HK8.out.below hW hd8).cell 0
      simp only [List.getElem?_cons_zero] at hc
      go_wp2;exact j0 rfl rfl rfl
    case o4 => intro W hW;rintro _ rfl;rintro _ rfl;change wpList _ _ _ _ _ _;go_wp2;exact j0 rfl rfl rfl
    case o5 =>
      intro W hW;rintro _ rfl;change wpList _ _ _ _ _ _
      have hc:=((HW8.out.trans (hW.mono hs8)).cell (p:=adp.add F) (by rw [add_block];omega)).trans HFc.out
      go_wp2;exact j0 rfl rfl rfl
    case o6 => intro W hW;change wpList _ _ _ _ _ _;go_wp2;exact j0 rfl rfl rfl
    case o7 =>
      intro W hW;rintro _ rfl;change wpList _ _ _ _ _ _
      have hc:=(HK8.out.below hW hd8).cell 1
      simp only [List.getElem?_cons_zero,List.getElem?_cons_succ] at hc
      go_wp2;exact j0 rfl rfl rfl
    case o8 => intro W hW;rintro _ rfl;rintro _ rfl;change wpList _ _ _ _ _ _;go_wp2;exact j0 rfl rfl rfl
    case o9 =>
      intro W hW;rintro _ rfl;change wpList _ _ _ _ _ _
      have hb:=HW8.out.trans (hW.mono hs8)
      have hc0:=(hb.cell (p:=adn.add (N * 4)) (by rw [add_block];omega)).trans HN0.out
      have hc1:=(hb.cell (p:=⟨(adn.add (N * 4)).block,(adn.add (N * 4)).off + 1,none⟩) (by show (adn.add (N * 4)).block < _;rw [add_block];omega)).trans HN1.out
      have hc2:=(hb.cell (p:=⟨(adn.add (N * 4)).block,(adn.add (N * 4)).off + 2,none⟩) (by show (adn.add (N * 4)).block < _;rw [add_block];omega)).trans HN2.out
      have hc3:=(hb.cell (p:=⟨(adn.add (N * 4)).block,(adn.add (N * 4)).off + 3,none⟩) (by show (adn.add (N * 4)).block < _;rw [add_block];omega)).trans HN3.out
      clear hb
      go_wp2;exact j0 rfl rfl rfl
  case hend =>
    intro W hW;rintro _ rfl;rintro _ rfl;rintro _ rfl;rintro _ rfl;rintro _ rfl;rintro _ rfl;rintro _ rfl;rintro _ rfl;rintro _ rfl;rintro _ rfl
    simp only [given,jF,List.set,List.drop]
    have HWw:=kp (HW8.out.trans (hW.mono hs8))
    have hsw:=HWw.out.size
    have HK3w:=kp (HK38.out.below hW HK38.out.lt)
    clear hW
    go_wp2_with (first
      | ((with_reducible show Sn);go_must (refine j4 rfl 55 (.tmp 6) (.tmp 29) rfl g3 (ndC x) rfl rfl _ _ HK3w.out jH rfl (jR x) ?_);intro w9 hk9 hg9 hs9;have HK9:=kp hk9;have HW9:=kp (HWw.out.grown hg9 HWw.out.size (fun k e => by cases e;exact HG3.out));clear hk9 hg9 hs9)
      | ((with_reducible show bodyPost _ _ _ _ _ _);exact bodyPost_ret (jK (P:=Try.prog) (fn:=Try.f29) rfl _ _ g3 55 _ _ rfl HK9.out Try.underlying55 rfl jH) rfl ⟨rfl,HW9.out⟩))
theorem yN : (Try.prog.info? 122).map (fun i => (i.zero.map (·.cells.size),i.size)) = some (some 2,2):=by kernel_rfl
theorem uH : (Try.prog.info? 76).map (·.size) = some 1:=by kernel_rfl
theorem yG : (Try.prog.info? 77).map (·.size) = some 1:=by kernel_rfl
theorem zC : (Try.prog.info? 123).map (·.size) = some 1:=by kernel_rfl
theorem slC {sl : List Nat} (h8 : sl.length = 8) : (List.range 8).map (slV sl) = sl.map natV:=by
  match sl,h8 with
  | [a,b,c,d,e,f,g,h],_ => rfl
def Fact.empty (B K : Nat) : Fact :=
  ⟨fun v W => ∃ g,v = .slice (some ⟨g,0,none⟩) 0 0 ∧ OwnR 2 frV W B 122 (.slice (some ⟨g,0,none⟩) 0 0) [] ∧ K ≤ g,fun _ _ _ hb ⟨g,h1,h2,h3⟩ => ⟨g,h1,h2.below hb (Nat.le_refl _),h3⟩⟩
def GFact.empty (G : Nat → Prop) (B K : Nat) : GFact G :=
  ⟨fun v W => ∃ g,v = .slice (some ⟨g,0,none⟩) 0 0 ∧ OwnR 2 frV W B 122 (.slice (some ⟨g,0,none⟩) 0 0) [] ∧ K ≤ g ∧ ¬ G g,fun _ _ _ ho ⟨g,h1,h2,h3,h4⟩ => ⟨g,h1,h2.only ho (fun b e => by cases e;exact h4),h3,h4⟩⟩
def Fact.stk (B K : Nat) (x : Sv) : Fact :=
  ⟨fun v W => ∃ g c,v = .slice (some ⟨g,0,none⟩) x.len c ∧ OwnR 2 frV W B 122 (.slice (some ⟨g,0,none⟩) x.len c) x.stack ∧ K ≤ g,fun _ _ _ hb ⟨g,c,h1,h2,h3⟩ => ⟨g,c,h1,h2.below hb (Nat.le_refl _),h3⟩⟩
def GFact.stk (G : Nat → Prop) (B K : Nat) (x : Sv) : GFact G :=
  ⟨fun v W => ∃ g c,v = .slice (some ⟨g,0,none⟩) x.len c ∧ OwnR 2 frV W B 122 (.slice (some ⟨g,0,none⟩) x.len c) x.stack ∧ K ≤ g ∧ ¬ G g,fun _ _ _ ho ⟨g,c,h1,h2,h3,h4⟩ => ⟨g,c,h1,h2.only ho (fun b e => by cases e;exact h4),h3,h4⟩⟩
def Fact.one1 (B K : Nat) (x : Sv) : Fact :=
  ⟨fun v W => ∃ gn g c,v = .slice (some ⟨gn,0,none⟩) 1 1 ∧ Blk W gn 123 [.slice (some ⟨g,0,none⟩) x.len c] ∧ OwnR 2 frV W B 122 (.slice (some ⟨g,0,none⟩) x.len c) x.stack ∧ K ≤ g,fun _ _ _ hb ⟨gn,g,c,h1,h2,h3,h4⟩ => ⟨gn,g,c,h1,h2.below hb h2.lt,h3.below hb (Nat.le_refl _),h4⟩⟩
def GFact.one1 (G : Nat → Prop) (B K : Nat) (x : Sv) : GFact G :=
  ⟨fun v W => ∃ gn g c,v = .slice (some ⟨gn,0,none⟩) 1 1 ∧ Blk W gn 123 [.slice (some ⟨g,0,none⟩) x.len c] ∧ ¬ G gn ∧ OwnR 2 frV W B 122 (.slice (some ⟨g,0,none⟩) x.len c) x.stack ∧ K ≤ g ∧ ¬ G g,fun _ _ _ ho ⟨gn,g,c,h1,h2,h3,h4,h5,h6⟩ => ⟨gn,g,c,h1,ho.blk h2 h3,h3,h4.only ho (fun b e => by cases e;exact h6),h5,h6⟩⟩
def Fact.stks (B K n : Nat) (svs : List Sv) (x : Sv) : Fact :=
  ⟨fun v W => ∃ g c gV cV,v = .slice (some ⟨gV,0,none⟩) (n + 1) cV ∧ OwnR 1 svR W B 123 (.slice (some ⟨gV,0,none⟩) (n + 1) cV) (svs ++ [⟨some ⟨g,0,none⟩,x.len,c,x.stack⟩]) ∧ OwnR 2 frV W B 122 (.slice (some ⟨g,0,none⟩) x.len c) x.stack ∧ K ≤ g ∧ K ≤ gV ∧ gV ≠ g,
   fun _ _ _ hb ⟨g,c,gV,cV,h1,h2,h3,h4⟩ => ⟨g,c,gV,cV,h1,h2.below hb (Nat.le_refl _),h3.below hb (Nat.le_refl _),h4⟩⟩
def StkIn (w W : World) (B gA n cap : Nat) (svs : List Sv) (x : Sv) : Prop :=
  ∃ g c,w.grownBy W (some gA) ∧ OwnR 1 svR W B 123 (.slice (some ⟨gA,0,none⟩) (n + 1) cap) (svs ++ [⟨some ⟨g,0,none⟩,x.len,c,x.stack⟩]) ∧ OwnR 2 frV W B 122 (.slice (some ⟨g,0,none⟩) x.len c) x.stack ∧ w.heap.size ≤ g ∧ gA ≠ g
def StkDone (W : World) (B gO gR n : Nat) (st : List (List (Nat × Nat))) (A2 : Option Addr) (n2 cap2 : Nat) (sls : List (List Nat)) (ow : List Nat) : Prop :=
  ∃ A cap svs,RB W B gO gR A n cap svs A2 n2 cap2 sls ow ∧ svs.map (·.stack) = st
def SlIn (w W : World) (B gL n cap : Nat) (sls : List (List Nat)) : Prop :=
  w.grownBy W (some gL) ∧ OwnR 8 slV W B 92 (.slice (some ⟨gL,0,none⟩) (n + 1) cap) sls
def SlDone (W : World) (B gO gR : Nat) (A : Option Addr) (n cap : Nat) (svs : List Sv) (sls : List (List Nat)) (ow : List Nat) : Prop :=
  ∃ A2 cap2,RB W B gO gR A n cap svs A2 n cap2 sls ow
end Go.Proofs.Ytnaomfmmkhgbhaa
