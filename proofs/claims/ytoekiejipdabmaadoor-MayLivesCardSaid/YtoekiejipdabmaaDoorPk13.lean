/- SemSt, TextStep, SemP7, SemP8, SemP9, Build, SemBuild. -/
import Derived.Test.YtoekiejipdabmaaDoorPk11
import Derived.Test.YtoekiejipdabmaaDoorPk12
import Derived.Maps.AppendAt
import Derived.Test.YtoekiejipdabmaaDoorPk6
import Derived.Test.YtoekiejipdabmaaDoorPk3
import Derived.Test.YtoekiejipdabmaaDoorPk1
import Derived.Great.FillDense
import Derived.Great.BuildSlice
namespace Go.Proofs.YtoekiejipdabmaaDoor
open Go.RowKit
theorem OwnR.congr {α : Type} {sz : Nat} {f : α → Nat → Value} {w : World} {B : Nat} {e : TypeId} {v : Value} {l l' : List α} (h : OwnR sz f w B e v l) (hl : l'.length = l.length) (hc : cellsR sz f l' = cellsR sz f l) : OwnR sz f w B e v l':=by
  unfold OwnR
  rw [hl,hc];exact h
theorem LY {α : Type} {sz : Nat} {f : α → Nat → Value} {x x' : α} {l : List α} {k : Nat} (hx : l[k]? = some x) (hf : f x' = f x) : cellsR sz f (l.set k x') = cellsR sz f l:=by
  unfold cellsR
  rw [List.flatMap_def,List.flatMap_def,List.map_set,hf]
  congr 1
  apply List.ext_getElem?
  intro i
  rw [List.getElem?_set]
  by_cases e : k = i
  · subst e
    have hk : k < l.length:=(List.getElem?_eq_some_iff.1 hx).1
    rw [if_pos rfl,List.getElem?_map,hx,if_pos (by simpa using hk)];rfl
  · rw [if_neg e]
def Pc.put (q : Pc) (k : Nat) (x : Tv) : Pc:=⟨q.A,q.len,q.cap,q.tvs.set k x,q.ow⟩
theorem Pc.put_cf (q : Pc) (k : Nat) (x : Tv) : (q.put k x).cf = ⟨q.cf.ths.set k (tvT x),q.ow⟩:=by unfold Pc.put Pc.cf;simp [List.map_set]
def tvGo (x : Tv) (n : Nat) : Tv:=⟨⟨x.sv.A,x.sv.len,x.sv.cap,M.goOn x.sv.stack n⟩,x.slots⟩
theorem frV_go {f : Nat × Nat} {n : Nat} : ∀ i,i < 2 → frV (f.1,n) i = if i = 1 then .int .i64 (n : Int) else frV f i:=by
  intro i hi
  match i,hi with
  | 0,_ => rfl
  | 1,_ => rfl
theorem St.goes {w : World} {B gN gU k : Nat} {q : Pc} {x : Tv} (h : St w B gN gU q) (hx : q.tvs[k]? = some x) (h0 : 0 < x.sv.len) :
    ∃ gS cur,x.sv.A = some ⟨gS,0,none⟩ ∧ Blk w gS 52 cur ∧ (x.sv.len - 1) * 2 + 1 < cur.length ∧ gS ≠ gN ∧ gS ≠ gU ∧ B ≤ gS ∧
      ∀ W w' n,Below w.heap.size w W → Blk w' gS 52 (cur.set ((x.sv.len - 1) * 2 + 1) (.int .i64 ((n : Nat) : Int))) → W.grownBy w' (some gS) → w'.heap.size = W.heap.size → St w' B gN gU (q.put k (tvGo x n)):=by
  have hxs : (q.tvs.map (·.sv))[k]? = some x.sv:=by rw [List.getElem?_map,hx];rfl
  have ho:=h.fam.own k _ hxs
  obtain ⟨gS,cur,hA,hb,hs,ht,hB,hn,hm,hl⟩:=ho.blk h0
  have hbk : (svV x.sv).ownBlock = some gS:=by unfold svV;rw [hA];rfl
  have hout:=h.fam.out k _ gS hxs hbk
  have hlen : (x.sv.len - 1) * 2 + 1 < cur.length:=by rw [hs];omega
  have hgl:=hb.lt
  refine ⟨gS,cur,hA,hb,hlen,fun e => hout (.inl e),fun e => hout (.inr (.inl e)),hB,fun W w' n hW hb' hg hz => ?_⟩
  replace hb:=hb.below hW hgl
  replace h:=h.below hW (Nat.le_refl _)
  replace ho:=h.fam.own k _ hxs
  have htop : x.sv.stack[x.sv.len - 1]? = some (M.top x.sv.stack):=by rw [← hl];exact M.top_at (by omega)
  have hown : OwnR 2 frV w' B 52 (svV (tvGo x n).sv) (tvGo x n).sv.stack:=by
    have hv : svV (tvGo x n).sv = .slice (some ⟨gS,0,none⟩) x.sv.len x.sv.cap:=by unfold svV tvGo;simp only;rw [hA]
    have hst : (tvGo x n).sv.stack = x.sv.stack.set (x.sv.len - 1) ((M.top x.sv.stack).1,n):=by unfold tvGo M.goOn;simp only;rw [hl]
    rw [hv,hst]
    have ho2:=ho
    unfold svV at ho2
    rw [hA] at ho2
    exact ho2.set htop (by omega) frV_go hb rfl hb'
  have hown' : (svV (tvGo x n).sv).ownBlock = (svV x.sv).ownBlock:=rfl
  refine ⟨h.conf.grown hg (fun e => hout (.inl (by cases e;rfl))),?_,?_,h.ne,h.low.1,by rw [hz];exact h.low.2⟩
  · refine (h.row.far hg ?_).congr (by unfold Pc.put;simp) (LY hx ?_)
    · cases hv : (Value.slice q.A q.len q.cap).ownBlock with
      | none => exact .inl rfl
      | some b => exact .inr fun e => hout (.inr (.inr (by cases e;exact hv)))
    · funext j
      cases j <;> rfl
  · have e : (q.put k (tvGo x n)).tvs.map (·.sv) = (q.tvs.map (·.sv)).set k (tvGo x n).sv:=by unfold Pc.put;rw [List.map_set]
    rw [e]
    refine h.fam.set hxs (by rw [hbk];exact hg) hown (.inl hown') fun b hb2 => ?_
    rcases hb2 with rfl | rfl | hb2
    · exact h.conf.lt
    · exact h.low.2
    · exact (h.row.block b hb2).2
def Pc.own (q : Pc) (a o : Nat) : Pc:=⟨q.A,q.len,q.cap,q.tvs,q.ow.set a o⟩
theorem St.owns {w w' : World} {B gN gU a o : Nat} {q : Pc} (h : St w B gN gU q) (hb : Blk w' gN 43 ((pcC q).set (1 + a) (.int .i64 (o : Int)))) (hg : w.grownBy w' (some gN)) (hz : w'.heap.size = w.heap.size) : St w' B gN gU (q.own a o):=by
  refine ⟨?_,?_,?_,h.ne,h.low.1,by rw [hz];exact h.low.2⟩
  · have e : pcC (q.own a o) = (pcC q).set (1 + a) (.int .i64 (o : Int)):=by
      unfold pcC Pc.own
      rw [show 1 + a = a + 1 by omega,List.set_cons_succ,List.map_set];rfl
    rw [e];exact hb
  · refine h.row.far hg ?_
    cases hv : (Value.slice q.A q.len q.cap).ownBlock with
    | none => exact .inl rfl
    | some b => exact .inr fun e => (h.ne b hv).1 (by cases e;rfl)
  · exact h.fam.turn hg fun b e => .inl (by cases e;rfl)
theorem St.field {w w' : World} {B gN gU k gT : Nat} {q : Pc} {x x' : Tv} {cur : List Value} {j : Nat} {v : Value} (hconf : Blk w gN 43 (pcC q)) (hrow : OwnR 9 tvV w B 50 (.slice q.A q.len q.cap) q.tvs)
    (hne : ∀ b,(Value.slice q.A q.len q.cap).ownBlock = some b → b ≠ gN ∧ b ≠ gU) (hlow : B ≤ gN ∧ gU < w.heap.size) (hA : q.A = some ⟨gT,0,none⟩) (hc : Blk w gT 50 cur) (hx : q.tvs[k]? = some x) (hj : j < 9)
    (hf : ∀ i,i < 9 → tvV x' i = if i = j then v else tvV x i) (hb : Blk w' gT 50 (cur.set (k * 9 + j) v)) (hg : w.grownBy w' (some gT)) (hz : w'.heap.size = w.heap.size)
    (hfam : Fam 52 w B (fun b => b = gN ∨ b = gU ∨ (Value.slice q.A q.len q.cap).ownBlock = some b) ((q.tvs.map (·.sv)).set k x'.sv)) : St w' B gN gU (q.put k x'):=by
  have hbk : (Value.slice q.A q.len q.cap).ownBlock = some gT:=by rw [hA];rfl
  refine ⟨hconf.grown hg (fun e => (hne gT hbk).1 (by cases e;rfl)),?_,?_,hne,hlow.1,by rw [hz];exact hlow.2⟩
  · have hr:=hrow
    show OwnR 9 tvV w' B _ (.slice q.A q.len q.cap) (q.tvs.set k x')
    rw [hA] at hr ⊢
    exact hr.set hx hj hf hc rfl hb
  · have e : (q.put k x').tvs.map (·.sv) = (q.tvs.map (·.sv)).set k x'.sv:=by unfold Pc.put;rw [List.map_set]
    rw [e]
    exact hfam.turn hg fun b eb => .inr (.inr (by cases eb;exact hbk))
theorem fam_same {e : TypeId} {w : World} {B : Nat} {S : Nat → Prop} {l : List Sv} {k : Nat} {x : Sv} (h : Fam e w B S l) (hx : l[k]? = some x) : Fam e w B S (l.set k x):=by
  have es : l.set k x = l:=by
    apply List.ext_getElem?
    intro i
    rw [List.getElem?_set]
    by_cases e1 : k = i
    · subst e1
      rw [if_pos rfl,if_pos (List.getElem?_eq_some_iff.1 hx).1,hx]
    · rw [if_neg e1]
  rw [es];exact h
theorem St.slot {w w' : World} {B gN gU k gT j o : Nat} {q : Pc} {x : Tv} {cur : List Value} (h : St w B gN gU q) (hA : q.A = some ⟨gT,0,none⟩) (hc : Blk w gT 50 cur) (hx : q.tvs[k]? = some x) (h8 : x.slots.length = 8) (hj : j < 8)
    (hb : Blk w' gT 50 (cur.set (k * 9 + (j + 1)) (.int .i64 (o : Int)))) (hg : w.grownBy w' (some gT)) (hz : w'.heap.size = w.heap.size) : St w' B gN gU (q.put k ⟨x.sv,x.slots.set j o⟩):=by
  refine St.field (x':=⟨x.sv,x.slots.set j o⟩) h.conf h.row h.ne h.low hA hc hx (j:=j + 1) (by omega) (fun i hi => ?_) hb hg hz (fam_same h.fam (by rw [List.getElem?_map,hx];rfl))
  match i,hi with
  | 0,_ => rfl
  | i + 1,hi =>
    show Value.int .i64 (((x.slots.set j o).getD i 0 : Nat) : Int) = if i + 1 = j + 1 then _ else .int .i64 ((x.slots.getD i 0 : Nat) : Int)
    rw [List.getD_eq_getElem?_getD,List.getElem?_set,List.getD_eq_getElem?_getD]
    by_cases e : j = i
    · subst e
      rw [if_pos rfl,if_pos (by omega),if_pos rfl];rfl
    · rw [if_neg e,if_neg (by omega)]
theorem St.stack {w0 w w' : World} {B gN gU k gT : Nat} {q : Pc} {x : Tv} {sv : Sv} {cur : List Value} (h : St w0 B gN gU q) (hA : q.A = some ⟨gT,0,none⟩) (hc : Blk w0 gT 50 cur) (hx : q.tvs[k]? = some x)
    (hg0 : w0.grownBy w (svV x.sv).ownBlock) (ho : OwnR 2 frV w B 52 (svV sv) sv.stack) (hbk : (svV sv).ownBlock = (svV x.sv).ownBlock ∨ ∀ b,(svV sv).ownBlock = some b → w0.heap.size ≤ b)
    (hb : Blk w' gT 50 (cur.set (k * 9) (svV sv))) (hg : w.grownBy w' (some gT)) (hz : w'.heap.size = w.heap.size) : St w' B gN gU (q.put k ⟨sv,x.slots⟩):=by
  have hxs : (q.tvs.map (·.sv))[k]? = some x.sv:=by rw [List.getElem?_map,hx];rfl
  have hout : ∀ b,(svV x.sv).ownBlock = some b → ¬ (b = gN ∨ b = gU ∨ (Value.slice q.A q.len q.cap).ownBlock = some b):=fun b hb => h.fam.out k _ b hxs hb
  have hAb : (Value.slice q.A q.len q.cap).ownBlock = some gT:=by rw [hA];rfl
  have hnT : some gT ≠ (svV x.sv).ownBlock:=fun e => hout gT e.symm (.inr (.inr hAb))
  have hnN : some gN ≠ (svV x.sv).ownBlock:=fun e => hout gN e.symm (.inl rfl)
  refine St.field (x':=⟨sv,x.slots⟩) (h.conf.grown hg0 hnN) (h.row.far hg0 ?_) h.ne ⟨h.low.1,Nat.lt_of_lt_of_le h.low.2 hg0.size⟩ hA (hc.grown hg0 hnT) hx (j:=0) (by omega) (fun i hi => ?_) hb hg hz ?_
  · rw [hAb];exact .inr hnT
  · match i,hi with
    | 0,_ => rfl
    | i + 1,_ => rfl
  · refine h.fam.set hxs hg0 ho hbk fun b hb2 => ?_
    rcases hb2 with rfl | rfl | hb2
    · exact h.conf.lt
    · exact h.low.2
    · exact (h.row.block b hb2).2
theorem zA {P : Program} {ops : Array Oper} {rest : List Oper} {o : Oper} {a : Act} {w : World} {Q : Exit → Act → World → Prop} (hgd : o.guard = none) (ty : TypeId) (x hi : Operand) (ho : o.op = .slice ty x none (some hi) none)
    (e : TypeId) (sz : Nat) (hu : P.underlying ty = some (.slice e)) (hsz : (P.info? e).map (·.size) = some sz) (A : Option Addr) (n c : Nat) (hx : a.eval x = .slice A n c) (k : IntKind) (m : Nat) (hl : a.eval hi = .int k (m : Int)) (hmc : m ≤ c)
    (h : wpList P ops Q rest (a.put o.dst (.slice A m c)) w) : wpList P ops Q (o :: rest) a w:=by
  refine wpList_plain hgd fun K hK => ?_
  have hel : P.elem ty = e:=by simp [Program.elem,hu]
  have h1:=run_slice_h (P:=P) w ty A n c (by rw [hel];exact hu) k (m : Int) (by omega) (by omega)
  have h2:=run_sliceAt_slice (P:=P) w ty (.slice A n c) none (some (.int k (m : Int))) none (by rw [hel];exact hu)
  rw [h1] at h2
  cases hq : P.info? e with
  | none => simp [hq] at hsz
  | some ie =>
    have hs : ie.size = sz:=by simpa [hq] using hsz
    have hso : (sizeOf e).run P w = .ok sz w:=by simp [sizeOf,typeInfo,hq,hs]
    have hk:=hK _ _ h
    have e0 : (if c = 0 then A else Option.map (fun x => x.add 0) A) = A:=by
      split
      · rfl
      · cases A <;> simp [Addr.add]
    unfold Oper.wp execOp
    simp only [ho,hx,hl,Option.map_some,Option.map_none,h2,Sem.run_bind,Sem.run_pure,hel,hso,sliced,Result.andThen_ok,Int.toNat_natCast,Nat.zero_mul,Nat.sub_zero,e0]
    exact hk
theorem OwnR.front {α : Type} {sz : Nat} {f : α → Nat → Value} {w : World} {B : Nat} {e : TypeId} {l : List α} {A : Option Addr} {n c m : Nat} (h : OwnR sz f w B e (.slice A n c) l) (hm : m ≤ n) : OwnR sz f w B e (.slice A m c) (l.take m):=by
  obtain ⟨hln,hnc,hcm⟩:=h.len_is
  rcases Nat.eq_zero_or_pos n with h0 | h0
  · have hm0 : m = 0:=by omega
    subst hm0
    have hl0 : l = []:=List.eq_nil_of_length_eq_zero (by omega)
    subst hl0
    rw [h0] at h
    exact h
  · obtain ⟨g,cur,hA,hb,hs,ht,hB,_,_,_⟩:=h.blk h0
    rw [hA]
    have e1 : cellsR sz f l = cellsR sz f (l.take m) ++ cellsR sz f (l.drop m):=by rw [← qV,List.take_append_drop]
    have e2 : (cellsR sz f (l.take m)).length = m * sz:=by rw [lU,List.length_take,Nat.min_eq_left (by omega)]
    refine OwnR.of_blk hb hB (by rw [List.length_take,Nat.min_eq_left (by omega)]) (by omega) hcm hs ?_
    have h3 : m * sz ≤ n * sz:=Nat.mul_le_mul_right sz hm
    have h4 : cur.take (m * sz) = (cur.take (n * sz)).take (m * sz):=by rw [List.take_take,Nat.min_eq_left h3]
    rw [h4,ht,e1,← e2,List.take_left]
section
variable {P : Program} {ops : Array Oper} {rest : List Oper} {o : Oper} {a : Act} {w : World} {Q : Exit → Act → World → Prop} {α : Type}
theorem y8 {e : TypeId} {gn : Nat} {vs : List Value} (h : Blk w gn e vs) : ∀ j y,vs[j]? = some y → w.cell? ((⟨gn,0,none⟩ : Addr).add j) = some y:=fun j y hy => by
  have hadd : (⟨gn,0,none⟩ : Addr).add j = ⟨gn,j,none⟩:=by unfold Addr.add;split <;> simp_all
  rw [hadd,h.cell j];exact hy
theorem yR (hgd : o.guard = none) (s x : Operand) (t : TypeId)
    (ho : o.op = .call { callee:=.builtin .append,args:=#[s,x],argTypes:=#[t,t] })
    (B : Nat) (e : TypeId) (sz : Nat) (z : Value) (bytes : Nat) (ht : P.underlying t = some (.slice e)) (hi : (P.info? e).map (fun i => (i.zero,i.size,i.bytes)) = some (some z,sz,bytes)) (hzs : z.cells.size = sz) (hsz : 0 < sz)
    (f : α → Nat → Value) (hone : ∀ x j,(f x j).oneCell' = true)
    (q cap : Nat) (l : List α) (u : α) (hs : a.eval s = .slice (some ⟨q,0,none⟩) l.length cap) (hown : OwnR sz f w B e (.slice (some ⟨q,0,none⟩) l.length cap) l) (hroom : l.length + 1 ≤ cap)
    (gn c : Nat) (hx : a.eval x = .slice (some ⟨gn,0,none⟩) 1 c) (hbk : Blk w gn e ((List.range sz).map (f u))) (hbytes : (l.length + 1) * bytes ≤ 140737488355328)
    (h : ∀ w',OwnR sz f w' B e (.slice (some ⟨q,0,none⟩) (l.length + 1) cap) (l ++ [u]) → w.grownBy w' (some q) → wpList P ops Q rest (a.put o.dst (.slice (some ⟨q,0,none⟩) (l.length + 1) cap)) w') : wpList P ops Q (o :: rest) a w:=by
  obtain ⟨i,hi0,hzz⟩:=Option.map_eq_some_iff.1 hi
  simp only [Prod.mk.injEq] at hzz
  obtain ⟨hz,hsize,hby⟩:=hzz
  have hone' : ∀ y ∈ (List.range sz).map (f u),y.oneCell' = true:=fun y hy => by
    obtain ⟨j,_,rfl⟩:=List.mem_map.1 hy
    exact hone u j
  rcases hown.2 with ⟨hv,_⟩ | ⟨q',cap',cur,hv,hBq,hg,hn,hm,hcs,ht2⟩
  · cases hv
  injection hv with e1 _ e3
  cases e1
  subst e3
  have hlt : q < w.heap.size:=(Array.getElem?_eq_some_iff.1 hg).1
  obtain ⟨v',w',hr,h2,h3,_⟩:=run_append_own_at (P:=P) w B t o.type e i z sz bytes ht hi0 hz hsize hby hzs hsz _ l.length (cellsR sz f l) hown ⟨gn,0,none⟩ 1 c ((List.range sz).map (f u)) (by simp) (y8 hbk) hone'
    (by omega) hbytes (by omega)
  have hr2:=run_append_room (P:=P) w t o.type e i ht hi0 q l.length cap cur hg ⟨gn,0,none⟩ 1 c ((List.range sz).map (f u)) (by rw [hsize];simp) (y8 hbk) hone' hroom (by
    rw [hsize,hcs]
    have h9:=Nat.mul_le_mul_right sz hroom
    simp [Nat.add_mul] at h9 ⊢;omega)
  rw [hr] at hr2
  injection hr2 with e1 e2
  subst e1
  refine wpList_plain hgd fun K hK => ?_
  unfold Oper.wp execOp
  simp only [ho,resolve,invoke,builtin,Sem.run_bind,Sem.run_pure,Result.andThen_ok,List.map_toArray,List.map_cons,List.map_nil,hs,hx,hr]
  refine hK _ _ (h w' ?_ h3)
  unfold OwnR
  rw [List.length_append,List.length_singleton,qV]
  have e1 : cellsR sz f [u] = (List.range sz).map (f u):=by simp [cellsR]
  rw [e1]
  exact h2
theorem yS (hgd : o.guard = none) (s x : Operand) (t : TypeId)
    (ho : o.op = .call { callee:=.builtin .append,args:=#[s,x],argTypes:=#[t,t] })
    (B : Nat) (e : TypeId) (sz : Nat) (z : Value) (bytes : Nat) (ht : P.underlying t = some (.slice e)) (hi : (P.info? e).map (fun i => (i.zero,i.size,i.bytes)) = some (some z,sz,bytes)) (hzs : z.cells.size = sz) (hsz : 0 < sz)
    (f : α → Nat → Value) (hone : ∀ x j,(f x j).oneCell' = true)
    (v : Value) (l : List α) (u : α) (hs : a.eval s = v) (hown : OwnR sz f w B e v l) (hfull : v = .slice none 0 0 ∨ ∃ q,v = .slice (some ⟨q,0,none⟩) l.length l.length)
    (gn c : Nat) (hx : a.eval x = .slice (some ⟨gn,0,none⟩) 1 c) (hbk : Blk w gn e ((List.range sz).map (f u))) (h63 : l.length + 1 ≤ maxLen) (hbytes : (l.length + 1) * bytes ≤ 140737488355328) (hB : B ≤ w.heap.size)
    (h : ∀ v' w',OwnR sz f w' B e v' (l ++ [u]) → Below w.heap.size w w' → v'.ownBlock = some w.heap.size → wpList P ops Q rest (a.put o.dst v') w') : wpList P ops Q (o :: rest) a w:=by
  obtain ⟨i,hi0,hzz⟩:=Option.map_eq_some_iff.1 hi
  simp only [Prod.mk.injEq] at hzz
  obtain ⟨hz,hsize,hby⟩:=hzz
  have hone' : ∀ y ∈ (List.range sz).map (f u),y.oneCell' = true:=fun y hy => by
    obtain ⟨j,_,rfl⟩:=List.mem_map.1 hy
    exact hone u j
  obtain ⟨v',w',hr,h2,h3,_,h5⟩:=run_append_own_at (P:=P) w B t o.type e i z sz bytes ht hi0 hz hsize hby hzs hsz v l.length (cellsR sz f l) hown ⟨gn,0,none⟩ 1 c ((List.range sz).map (f u)) (by simp) (y8 hbk) hone'
    h63 hbytes hB
  have hsm : l.length + 1 ≤ 9223372036854775807:=by unfold maxLen at h63;omega
  have hnew : ∃ cs k,w' = w.drew.alloc (.cells cs e) ∧ v' = .slice (some ⟨w.heap.size,0,none⟩) (l.length + 1) k:=by
    rcases hfull with rfl | ⟨q,rfl⟩
    · have hl0 : l.length = 0:=by
        rcases hown.2 with ⟨_,h0⟩ | ⟨q',cap',cur,hv,_⟩
        · exact h0
        · cases hv
      have hr2:=run_append_nil (P:=P) w t o.type e i z ht hi0 hz ⟨gn,0,none⟩ 1 c ((List.range sz).map (f u)) (by rw [hsize];simp) (y8 hbk) (by omega) (by omega) (by rw [hby];have:=hbytes;rw [hl0] at this;omega)
      rw [hr] at hr2
      injection hr2 with e1 e2
      exact ⟨_,_,e2,by rw [e1,hl0]⟩
    · have holds : ∀ j y,(cellsR sz f l)[j]? = some y → w.cell? ((⟨q,0,none⟩ : Addr).add j) = some y:=World.ownsRow.cells hown (g:=q) rfl
      have hr2:=run_append_grow (P:=P) w t o.type e i z ht hi0 hz ⟨q,0,none⟩ l.length l.length (cellsR sz f l) (by rw [hsize,lU]) holds ⟨gn,0,none⟩ 1 c ((List.range sz).map (f u)) (by rw [hsize];simp) (y8 hbk) (by omega) (by omega) (by rw [hby];exact growslice_fits (by omega) (by omega))
      rw [hr] at hr2
      injection hr2 with e1 e2
      exact ⟨_,_,e2,e1⟩
  obtain ⟨cs,k,rfl,rfl⟩:=hnew
  refine wpList_plain hgd fun K hK => ?_
  unfold Oper.wp execOp
  simp only [ho,resolve,invoke,builtin,Sem.run_bind,Sem.run_pure,Result.andThen_ok,List.map_toArray,List.map_cons,List.map_nil,hs,hx,hr]
  refine hK _ _ (h _ _ ?_ ?_ rfl)
  · unfold OwnR
    rw [List.length_append,List.length_singleton,qV]
    have e1 : cellsR sz f [u] = (List.range sz).map (f u):=by simp [cellsR]
    rw [e1]
    exact h2
  · exact ⟨rfl,rfl,rfl,by simp,fun k hk => Below.heap_alloc w.drew _ k hk⟩
end
def turnC (gN k : Nat) (way : Bool) (x : Nd) : List Value:=[.pointer (some ⟨gN,0,none⟩),.int .i64 (k : Int),.bool way,.int .i64 x.kind,.int .i64 x.arg,.int .i64 x.next,.int .i64 x.alt]
theorem QQ (a : Act) (v : Value) : a.put none v = a:=rfl
set_option maxRecDepth 100000 in
set_option maxHeartbeats 800000 in
theorem qP (gU gN gT k n c : Nat) (way : Bool) (x : Nd) (w : World) (hu : Blk w gU 94 (turnC gN k way x)) (hn : w.cell? ⟨gN,0,none⟩ = some (.slice (some ⟨gT,0,none⟩) n c)) (hk : k < n) :
    Calls Tryd.prog 68 #[.pointer (some ⟨gU,0,none⟩)] w fun e w' => e = .returned (.pointer (some ⟨gT,k * 9,none⟩)) ∧ ∃ m,w' = w.drewN m:=by
  have h0:=hu.cell 0;have h1:=hu.cell 1
  simp only [turnC,List.getElem?_cons_zero,List.getElem?_cons_succ] at h0 h1
  have hkn : (k : Int) < (n : Int):=by omega
  clear hu
  go_enter Tryd.func68,Tryd.ntmps68
  go_wp2
  go_quiet (fail)
  go_wp2
  go_ret
  exact ⟨rfl,_,rfl⟩
set_option maxRecDepth 100000 in
set_option maxHeartbeats 1600000 in
theorem xA (B gN gU k : Nat) (q : Pc) (x : Nd) (way : Bool) (th : Tv) (w : World) (hst : St w B gN gU q) (hu : Blk w gU 94 (turnC gN k way x)) (hkl : k < q.len) (hth : q.tvs[k]? = some th) (hs0 : 0 < th.sv.len) (hlen16 : th.sv.len ≤ 1000) (_h8 : q.len ≤ 8) (nx : Nat) (hnx : x.next = (nx : Int)) :
    Calls Tryd.prog 53 #[.pointer (some ⟨gU,0,none⟩)] w fun e w' => e = .returned (.tuple #[]) ∧ St w' B gN gU (q.put k (tvGo th nx)) ∧ Blk w' gU 94 (turnC gN k way x) ∧ Below B w w':=by
  obtain ⟨gT,curT,th',hA,hbT,hth',hcT0,hcTj,hTN,hTU,hBT,hsl,hthc,hcTl⟩:=hst.thread hkl
  rw [hth] at hth'
  cases hth'
  obtain ⟨gS,cur,hSA,hbS,hlen,hSN,hSU,hBS,hput⟩:=hst.goes hth hs0
  have hbound:=hst.ok
  have hqc:=hbound.lc;have hqm:=hbound.cm
  unfold maxLen at hqm
  have HE : Kept (pcC q = .slice (some ⟨gT,0,none⟩) q.len q.cap :: q.ow.map natV):=kp (by unfold pcC;rw [hA])
  have hgN:=hst.conf.lt;have hgU:=hu.lt;have hgT:=hbT.lt;have hgS:=hbS.lt
  have HSt:=kp hst;have HK:=kp hu;have HT:=kp hbT;have HS:=kp hbS;have HPut:=kp hput
  have hxc:=hbound.svs th (List.mem_of_getElem? hth)
  have hxc2:=hxc.lc;have hxm:=hxc.cm
  unfold maxLen at hxm
  rw [hSA] at hcT0
  have HC0:=kp hcT0
  have hlow:=hst.low.1
  have hBw : B ≤ w.heap.size:=by omega
  have HLow:=kp hst.low
  obtain ⟨n,hn⟩ : ∃ n,th.sv.len = n:=⟨_,rfl⟩
  obtain ⟨cp,hcp⟩ : ∃ cp,th.sv.cap = cp:=⟨_,rfl⟩
  have HThl:=kp hn
  rw [hn] at HC0 hs0 hlen16 hxc2 hlen HPut
  rw [hcp] at HC0 hxc2 hxm
  have HB : Kept (Below B w w):=kp (Below.refl _ _)
  clear hst hu hth hput hbT hbS hcT0 hcTj hthc hcTl hsl hbound hxc hn hcp hSA hA
  go_enter Tryd.func53,Tryd.ntmps53
  go_wp2
  apply jJ 10 (.is _ :: .is _ :: .is _ :: .is _ :: .is _ :: .is _ :: .is _ :: .is _ :: .is _ :: .is _ :: [])
    [[],[(0,2)],[(1,3)],[],[(3,5)],[(4,6)],[(5,7)],[(6,8)],[(2,4)],[(8,10)],[(9,11),(7,9)]]
    [(0,2),(1,3),(2,4),(3,5),(4,6),(5,7),(6,8),(7,9),(8,10),(9,11)] (by kernel_rfl) (by kernel_rfl) (by kernel_rfl) (by kernel_rfl) (by kernel_rfl)
  case hob =>
    refine ⟨?o0,?o1,?o2,?o3,?o4,?o5,?o6,?o7,?o8,?o9,trivial⟩
    case o0 => intro W hW;change wpList _ _ _ _ _ _;go_wp2;exact j3 rfl rfl rfl
    case o1 =>
      intro W hW;rintro _ rfl;change wpList _ _ _ _ _ _
      have hCu:=(HK.out.below hW hgU)
      have hCn:=((HSt.out.conf.below hW hgN).cell 0)
      rw [HE.out,List.getElem?_cons_zero] at hCn
      have HC:=kp (qP gU gN gT k q.len q.cap way x W hCu hCn hkl)
      clear hCu hCn
      go_wp2_with fail
      refine (HC.out).mono ?_
      rintro e w2 ⟨rfl,m,rfl⟩
      go_wp2
      exact jE rfl rfl rfl (below_drewN (Below.refl _ _) m) rfl
    case o2 =>
      intro W hW;rintro _ rfl;change wpList _ _ _ _ _ _
      have hc:=(HT.out.below hW hgT).cell (k * 9)
      rw [HC0.out] at hc
      have hC:=u5 ⟨gT,k * 9,none⟩ ⟨gS,0,none⟩ n cp W hs0 hlen16 hc
      rw [q5] at hC
      have HC:=kp hC
      clear hc hC
      go_wp2_with fail
      refine (HC.out).mono ?_
      rintro e w2 ⟨rfl,m,rfl⟩
      go_wp2
      exact jE rfl rfl rfl (below_drewN (Below.refl _ _) m) rfl
    case o3 => intro W hW;change wpList _ _ _ _ _ _;go_wp2;exact j3 rfl rfl rfl
    case o4 => intro W hW;rintro _ rfl;change wpList _ _ _ _ _ _;go_wp2;exact j3 rfl rfl rfl
    case o5 => intro W hW;rintro _ rfl;change wpList _ _ _ _ _ _;go_wp2;exact j3 rfl rfl rfl
    case o6 => intro W hW;rintro _ rfl;change wpList _ _ _ _ _ _;go_wp2;exact j3 rfl rfl rfl
    case o7 =>
      intro W hW;rintro _ rfl;change wpList _ _ _ _ _ _
      have hc:=(HK.out.below hW hgU).cell 5
      simp only [turnC,List.getElem?_cons_zero,List.getElem?_cons_succ] at hc
      go_wp2;exact j3 rfl rfl rfl
    case o8 => intro W hW;rintro _ rfl;change wpList _ _ _ _ _ _;go_wp2;exact j3 rfl rfl rfl
    case o9 => intro W hW;rintro _ rfl;change wpList _ _ _ _ _ _;go_wp2;exact j3 rfl rfl rfl
  case hend =>
    intro W hW;rintro _ rfl;rintro _ rfl;rintro _ rfl;rintro _ rfl;rintro _ rfl;rintro _ rfl;rintro _ rfl;rintro _ rfl;rintro _ rfl;rintro _ rfl
    simp only [given,jI,List.set,List.drop]
    have HKw:=kp (HS.out.below hW hgS)
    have HStw:=kp (HSt.out.below hW (Nat.le_refl _))
    have HBw:=kp (hW.mono hBw)
    have HKu:=kp (HK.out.below hW hgU)
    have hWs:=hW.size
    have HWg:=kp hW
    have hsw:=HBw.out.size
    clear hW
    go_wp2_with (first
      | ((with_reducible show Sn);go_must (refine jF rfl 3 (.tmp 11) (.tmp 9) rfl gS ((n - 1) * 2 + 1) (.int .i64 (nx : Int)) rfl rfl rfl rfl _ _ HKw.out hlen xX ?_);intro w5 hk5 hg5 hs5;have HFin:=kp (HPut.out W w5 nx HWg.out hk5 hg5 hs5);have HKu5:=kp (HKu.out.grown hg5 (fun e => hSU (by cases e;rfl)));have HB5:=kp (HBw.out.grown hg5 (by omega) (fun k e => by cases e;exact hBS));clear hk5 hg5))
    go_end0
    exact ⟨rfl,HFin.out,HKu5.out,HB5.out⟩
set_option maxRecDepth 100000 in
set_option maxHeartbeats 1600000 in
theorem sem_lock (B gN gU k : Nat) (q : Pc) (x : Nd) (way : Bool) (th : Tv) (w : World) (hst : St w B gN gU q) (hu : Blk w gU 94 (turnC gN k way x)) (hkl : k < q.len) (hth : q.tvs[k]? = some th) (hs0 : 0 < th.sv.len) (hlen16 : th.sv.len ≤ 1000) (h8 : q.len ≤ 8) (nx : Nat) (hnx : x.next = (nx : Int)) (a : Nat) (ha : x.arg = (a : Int)) (ha16 : a < 16) (how : q.ow.length = 16) (hk3 : x.kind = 3) :
    Calls Tryd.prog 54 #[.pointer (some ⟨gU,0,none⟩)] w fun e w' => e = .returned (.tuple #[]) ∧ ∃ q',St w' B gN gU q' ∧ q'.cf = M.act q.cf k x way ∧ Below B w w':=by
  go_enter Tryd.func54,Tryd.ntmps54
  go_wp2_with fail
  refine (xA B gN gU k q x way th w hst hu hkl hth hs0 hlen16 h8 nx hnx).mono ?_
  rintro e w1 ⟨rfl,hst1,hu1,hb1⟩
  have hw1s:=hb1.size
  have hth1 : (q.put k (tvGo th nx)).tvs[k]? = some (tvGo th nx):=by
    show (q.tvs.set k (tvGo th nx))[k]? = _
    rw [List.getElem?_set,if_pos rfl,if_pos (List.getElem?_eq_some_iff.1 hth).1]
  have hcf1 : M.th q.cf k = tvT th:=Pc.th_of hth
  have HCf:=kp (Pc.put_cf q k (tvGo th nx))
  have HCf0:=kp hcf1
  have hs01 : 0 < (tvGo th nx).sv.len:=hs0
  have hlen161 : (tvGo th nx).sv.len ≤ 1000:=hlen16
  have hkl1 : k < (q.put k (tvGo th nx)).len:=hkl
  have h81 : (q.put k (tvGo th nx)).len ≤ 8:=h8
  have how1 : (q.put k (tvGo th nx)).ow = q.ow:=rfl
  have HQlen : Kept ((q.put k (tvGo th nx)).len = q.len):=kp rfl
  have HTvs : Kept ((q.put k (tvGo th nx)).tvs = q.tvs.set k (tvGo th nx)):=kp rfl
  have HTh1 : Kept (tvT (tvGo th nx) = ⟨M.goOn th.sv.stack nx,th.slots⟩):=kp rfl
  obtain ⟨q1,hq1⟩ : ∃ q1,q.put k (tvGo th nx) = q1:=⟨_,rfl⟩
  obtain ⟨th1,ht1⟩ : ∃ th1,tvGo th nx = th1:=⟨_,rfl⟩
  rw [ht1] at hq1 hth1 hs01 hlen161 HCf HTh1 HTvs hst1 hkl1 h81 how1 HQlen
  rw [hq1] at hst1 hth1 hkl1 h81 how1 HCf HQlen HTvs
  clear hst hu hq1 ht1 hcf1 hs0 hlen16
  obtain ⟨gT,curT,thx,hA,hbT,hthx,hcT0,hcTj,hTN,hTU,hBT,hsl,hthc,hcTl⟩:=hst1.thread hkl1
  rw [hth1] at hthx
  cases hthx
  obtain ⟨gS,cur,hSA,hbS,hlen,hSN,hSU,hBS,hput⟩:=hst1.goes hth1 hs01
  have hbound:=hst1.ok
  have hqc:=hbound.lc;have hqm:=hbound.cm
  unfold maxLen at hqm
  have HE : Kept (pcC q1 = .slice (some ⟨gT,0,none⟩) q1.len q1.cap :: q1.ow.map natV):=kp (by unfold pcC;rw [hA])
  have hgN:=hst1.conf.lt;have hgU:=hu1.lt;have hgT:=hbT.lt;have hgS:=hbS.lt
  have HSt:=kp hst1;have HK:=kp hu1;have HT:=kp hbT;have HS:=kp hbS;have HPut:=kp hput
  have hxc:=hbound.svs th1 (List.mem_of_getElem? hth1)
  have hxc2:=hxc.lc;have hxm:=hxc.cm
  unfold maxLen at hxm
  rw [hSA] at hcT0
  have HC0:=kp hcT0
  have hlow:=hst1.low.1
  have hBw : B ≤ w1.heap.size:=by omega
  have HLow:=kp hst1.low
  obtain ⟨n,hn⟩ : ∃ n,th1.sv.len = n:=⟨_,rfl⟩
  obtain ⟨cp,hcp⟩ : ∃ cp,th1.sv.cap = cp:=⟨_,rfl⟩
  have HThl:=kp hn
  rw [hn] at HC0 hs01 hlen161 hxc2 hlen HPut
  rw [hcp] at HC0 hxc2 hxm
  have HL17 : Kept ((pcC q1).length = 17):=kp (by show (_ :: q1.ow.map natV).length = 17;simp [how1,how])
  have HGoal : Kept ((q1.own a (k + 1)).cf = M.act q.cf k x way):=kp (by
    have e : (q1.own a (k + 1)).cf = ⟨q1.cf.ths,q1.ow.set a (k + 1)⟩:=rfl
    unfold M.act
    rw [e,HCf.out,how1,HCf0.out,if_neg (show ¬ x.kind = 9 by omega),if_pos hk3,hnx,ha,Int.toNat_natCast,Int.toNat_natCast,HTh1.out]
    rfl)
  clear hst1 hu1 hth1 hput hbT hbS hcT0 hcTj hthc hcTl hsl hbound hxc hn hcp hSA hA
  go_wp2
  apply jJ 18 (.is _ :: .is _ :: .is _ :: .is _ :: .is _ :: .is _ :: .is _ :: .is _ :: .is _ :: .is _ :: .is _ :: .is _ :: .is _ :: .is _ :: .is _ :: .is _ :: .is _ :: .is _ :: [])
    [[],[(0,4)],[(1,5)],[(2,6)],[],[(4,8)],[(5,9)],[(6,10)],[(7,11)],[],[(9,13)],[(10,14)],[(11,15)],[(12,16)],[(13,17)],[(3,7)],[(15,19)],[(16,20),(8,12)],[(17,21),(14,18)]]
    [(0,4),(1,5),(2,6),(3,7),(4,8),(5,9),(6,10),(7,11),(8,12),(9,13),(10,14),(11,15),(12,16),(13,17),(14,18),(15,19),(16,20),(17,21)] (by kernel_rfl) (by kernel_rfl) (by kernel_rfl) (by kernel_rfl) (by kernel_rfl)
  case hob =>
    refine ⟨?o0,?o1,?o2,?o3,?o4,?o5,?o6,?o7,?o8,?o9,?o10,?o11,?o12,?o13,?o14,?o15,?o16,?o17,trivial⟩
    case o0 => intro W hW;change wpList _ _ _ _ _ _;go_wp2;exact j3 rfl rfl rfl
    case o1 => intro W hW;rintro _ rfl;change wpList _ _ _ _ _ _;go_wp2;exact j3 rfl rfl rfl
    case o2 => intro W hW;rintro _ rfl;change wpList _ _ _ _ _ _;go_wp2;exact j3 rfl rfl rfl
    case o3 =>
      intro W hW;rintro _ rfl;change wpList _ _ _ _ _ _
      have hc:=(HK.out.below hW hgU).cell 0
      simp only [turnC,List.getElem?_cons_zero] at hc
      go_wp2;exact j3 rfl rfl rfl
    case o4 => intro W hW;change wpList _ _ _ _ _ _;go_wp2;exact j3 rfl rfl rfl
    case o5 => intro W hW;rintro _ rfl;change wpList _ _ _ _ _ _;go_wp2;exact j3 rfl rfl rfl
    case o6 => intro W hW;rintro _ rfl;change wpList _ _ _ _ _ _;go_wp2;exact j3 rfl rfl rfl
    case o7 => intro W hW;rintro _ rfl;change wpList _ _ _ _ _ _;go_wp2;exact j3 rfl rfl rfl
    case o8 =>
      intro W hW;rintro _ rfl;change wpList _ _ _ _ _ _
      have hc:=(HK.out.below hW hgU).cell 4
      simp only [turnC,List.getElem?_cons_zero,List.getElem?_cons_succ] at hc
      rw [ha] at hc
      go_wp2;exact j3 rfl rfl rfl
    case o9 => intro W hW;change wpList _ _ _ _ _ _;go_wp2;exact j3 rfl rfl rfl
    case o10 => intro W hW;rintro _ rfl;change wpList _ _ _ _ _ _;go_wp2;exact j3 rfl rfl rfl
    case o11 => intro W hW;rintro _ rfl;change wpList _ _ _ _ _ _;go_wp2;exact j3 rfl rfl rfl
    case o12 => intro W hW;rintro _ rfl;change wpList _ _ _ _ _ _;go_wp2;exact j3 rfl rfl rfl
    case o13 =>
      intro W hW;rintro _ rfl;change wpList _ _ _ _ _ _
      have hc:=(HK.out.below hW hgU).cell 1
      simp only [turnC,List.getElem?_cons_zero,List.getElem?_cons_succ] at hc
      go_wp2;exact j3 rfl rfl rfl
    case o14 =>
      intro W hW;rintro _ rfl;change wpList _ _ _ _ _ _
      go_wp2_with fail
      refine (vZ k (by omega) W).mono ?_
      rintro e w2 ⟨rfl,rfl⟩
      go_wp2
      exact j3 rfl rfl rfl
    case o15 => intro W hW;rintro _ rfl;change wpList _ _ _ _ _ _;go_wp2;exact j3 rfl rfl rfl
    case o16 => intro W hW;rintro _ rfl;change wpList _ _ _ _ _ _;go_wp2;exact j3 rfl rfl rfl
    case o17 => intro W hW;rintro _ rfl;rintro _ rfl;change wpList _ _ _ _ _ _;go_wp2;exact j3 rfl rfl rfl
  case hend =>
    intro W hW;rintro _ rfl;rintro _ rfl;rintro _ rfl;rintro _ rfl;rintro _ rfl;rintro _ rfl;rintro _ rfl;rintro _ rfl;rintro _ rfl;rintro _ rfl;rintro _ rfl;rintro _ rfl;rintro _ rfl;rintro _ rfl;rintro _ rfl;rintro _ rfl;rintro _ rfl;rintro _ rfl
    simp only [given,jI,List.set,List.drop]
    have HKw:=kp (HSt.out.conf.below hW hgN)
    have HStw:=kp (HSt.out.below hW (Nat.le_refl _))
    have HBw:=kp (hb1.trans (hW.mono hBw))
    have hWs:=hW.size
    clear hW
    go_wp2_with (first
      | ((with_reducible show Sn);go_must (refine jF rfl 3 (.tmp 21) (.tmp 18) rfl gN (1 + a) (.int .i64 ((k + 1 : Nat) : Int)) rfl rfl rfl rfl _ _ HKw.out (by rw [HL17.out];omega) xX ?_);intro w5 hk5 hg5 hs5;have HFin:=kp (HStw.out.owns hk5 hg5 hs5);have HB5:=kp (HBw.out.grown hg5 (by omega) (fun k e => by cases e;exact hlow));clear hk5 hg5))
    go_end0
    exact ⟨rfl,_,HFin.out,HGoal.out,HB5.out⟩
set_option maxRecDepth 100000 in
set_option maxHeartbeats 1600000 in
theorem QD (B gN gU k : Nat) (q : Pc) (x : Nd) (way : Bool) (th : Tv) (w : World) (hst : St w B gN gU q) (hu : Blk w gU 94 (turnC gN k way x)) (hkl : k < q.len) (hth : q.tvs[k]? = some th) (hs0 : 0 < th.sv.len) (hlen16 : th.sv.len ≤ 1000) (h8 : q.len ≤ 8) (nx : Nat) (hnx : x.next = (nx : Int)) (a : Nat) (ha : x.arg = (a : Int)) (ha16 : a < 16) (how : q.ow.length = 16) (hk4 : x.kind = 4) :
    Calls Tryd.prog 55 #[.pointer (some ⟨gU,0,none⟩)] w fun e w' => e = .returned (.tuple #[]) ∧ ∃ q',St w' B gN gU q' ∧ q'.cf = M.act q.cf k x way ∧ Below B w w':=by
  go_enter Tryd.func55,Tryd.ntmps55
  go_wp2_with fail
  refine (xA B gN gU k q x way th w hst hu hkl hth hs0 hlen16 h8 nx hnx).mono ?_
  rintro e w1 ⟨rfl,hst1,hu1,hb1⟩
  have hw1s:=hb1.size
  have hth1 : (q.put k (tvGo th nx)).tvs[k]? = some (tvGo th nx):=by
    show (q.tvs.set k (tvGo th nx))[k]? = _
    rw [List.getElem?_set,if_pos rfl,if_pos (List.getElem?_eq_some_iff.1 hth).1]
  have hcf1 : M.th q.cf k = tvT th:=Pc.th_of hth
  have HCf:=kp (Pc.put_cf q k (tvGo th nx))
  have HCf0:=kp hcf1
  have hs01 : 0 < (tvGo th nx).sv.len:=hs0
  have hlen161 : (tvGo th nx).sv.len ≤ 1000:=hlen16
  have hkl1 : k < (q.put k (tvGo th nx)).len:=hkl
  have h81 : (q.put k (tvGo th nx)).len ≤ 8:=h8
  have how1 : (q.put k (tvGo th nx)).ow = q.ow:=rfl
  have HQlen : Kept ((q.put k (tvGo th nx)).len = q.len):=kp rfl
  have HTvs : Kept ((q.put k (tvGo th nx)).tvs = q.tvs.set k (tvGo th nx)):=kp rfl
  have HTh1 : Kept (tvT (tvGo th nx) = ⟨M.goOn th.sv.stack nx,th.slots⟩):=kp rfl
  obtain ⟨q1,hq1⟩ : ∃ q1,q.put k (tvGo th nx) = q1:=⟨_,rfl⟩
  obtain ⟨th1,ht1⟩ : ∃ th1,tvGo th nx = th1:=⟨_,rfl⟩
  rw [ht1] at hq1 hth1 hs01 hlen161 HCf HTh1 HTvs hst1 hkl1 h81 how1 HQlen
  rw [hq1] at hst1 hth1 hkl1 h81 how1 HCf HQlen HTvs
  clear hst hu hq1 ht1 hcf1 hs0 hlen16
  obtain ⟨gT,curT,thx,hA,hbT,hthx,hcT0,hcTj,hTN,hTU,hBT,hsl,hthc,hcTl⟩:=hst1.thread hkl1
  rw [hth1] at hthx
  cases hthx
  obtain ⟨gS,cur,hSA,hbS,hlen,hSN,hSU,hBS,hput⟩:=hst1.goes hth1 hs01
  have hbound:=hst1.ok
  have hqc:=hbound.lc;have hqm:=hbound.cm
  unfold maxLen at hqm
  have HE : Kept (pcC q1 = .slice (some ⟨gT,0,none⟩) q1.len q1.cap :: q1.ow.map natV):=kp (by unfold pcC;rw [hA])
  have hgN:=hst1.conf.lt;have hgU:=hu1.lt;have hgT:=hbT.lt;have hgS:=hbS.lt
  have HSt:=kp hst1;have HK:=kp hu1;have HT:=kp hbT;have HS:=kp hbS;have HPut:=kp hput
  have hxc:=hbound.svs th1 (List.mem_of_getElem? hth1)
  have hxc2:=hxc.lc;have hxm:=hxc.cm
  unfold maxLen at hxm
  rw [hSA] at hcT0
  have HC0:=kp hcT0
  have hlow:=hst1.low.1
  have hBw : B ≤ w1.heap.size:=by omega
  have HLow:=kp hst1.low
  obtain ⟨n,hn⟩ : ∃ n,th1.sv.len = n:=⟨_,rfl⟩
  obtain ⟨cp,hcp⟩ : ∃ cp,th1.sv.cap = cp:=⟨_,rfl⟩
  have HThl:=kp hn
  rw [hn] at HC0 hs01 hlen161 hxc2 hlen HPut
  rw [hcp] at HC0 hxc2 hxm
  have HL17 : Kept ((pcC q1).length = 17):=kp (by show (_ :: q1.ow.map natV).length = 17;simp [how1,how])
  have hc16 : (pcC q1)[1 + a]? = some (.int .i64 (q1.ow.getD a 0 : Int)):=by
    rw [HE.out,show 1 + a = a + 1 by omega,List.getElem?_cons_succ];exact LB (by rw [how1];exact how) ha16
  have hu0:=HK.out.cell 0;have hu1':=HK.out.cell 1;have hu4:=HK.out.cell 4
  simp only [turnC,List.getElem?_cons_zero,List.getElem?_cons_succ] at hu0 hu1' hu4
  rw [ha] at hu4
  have hco:=(HSt.out.conf.cell (1 + a)).trans hc16
  obtain ⟨o,ho⟩ : ∃ o,q1.ow.getD a 0 = o:=⟨_,rfl⟩
  rw [ho] at hco
  have HMk:=kp (vZ k (by omega))
  have HAct : Kept (M.act q.cf k x way = ⟨q1.cf.ths,if o = k + 1 then q1.ow.set a 0 else q1.ow⟩):=kp (by
    unfold M.act
    rw [HCf.out,how1,HCf0.out,if_neg (show ¬ x.kind = 9 by omega),if_neg (show ¬ x.kind = 3 by omega),if_pos hk4,hnx,ha,Int.toNat_natCast,Int.toNat_natCast,HTh1.out,← ho,how1]
    rfl)
  have HB1:=kp hb1
  clear hst1 hu1 hth1 hput hbT hbS hcT0 hcTj hthc hcTl hsl hbound hxc hn hcp hSA hA hc16 ho hnx ha hb1
  by_cases hok : o = k + 1
  · have HGoal : Kept ((q1.own a 0).cf = M.act q.cf k x way):=kp (by rw [HAct.out,if_pos hok];rfl)
    have hoe : ((o : Int) == ((k + 1 : Nat) : Int)) = true:=by rw [beq_iff_eq];omega
    clear hok
    go_wp2
    go_quiet (fail)
    obtain ⟨w2,hw2⟩ : ∃ y,w1.drewN nq = y:=⟨_,rfl⟩
    have HSt2 : Kept (St w2 B gN gU q1):=kp (by rw [← hw2];exact HSt.out.drewN nq)
    have HB2 : Kept (Below B w w2):=kp (by rw [← hw2];exact below_drewN HB1.out nq)
    have hW2 : w1.heap.size ≤ w2.heap.size:=by rw [← hw2];exact Nat.le_refl _
    replace hu1' : w2.cell? ⟨gU,1,none⟩ = some (.int .i64 (k : Int)):=by rw [← hw2];exact hu1'
    replace hco : w2.cell? ⟨gN,1 + a,none⟩ = some (.int .i64 (o : Int)):=by rw [← hw2];exact hco
    rw [hw2]
    clear hw2
    go_wp2
    go_quiet ((go_at_call 69;exact lO (HMk.out _)))
    obtain ⟨w3,hw3⟩ : ∃ y,w2.drewN nq = y:=⟨_,rfl⟩
    have HKw : Kept (Blk w3 gN 43 (pcC q1)):=kp (by rw [← hw3];exact HSt2.out.conf.drewN nq)
    have HStw : Kept (St w3 B gN gU q1):=kp (by rw [← hw3];exact HSt2.out.drewN nq)
    have HBw : Kept (Below B w w3):=kp (by rw [← hw3];exact below_drewN HB2.out nq)
    have hWs : w1.heap.size ≤ w3.heap.size:=by rw [← hw3];exact hW2
    rw [hw3]
    clear hw3 hu0 hu1' hu4 hco
    go_wp2_with (first
      | ((with_reducible show Sn);go_must (refine jF rfl 3 (.tmp 28) _ rfl gN (1 + a) (.int .i64 ((0 : Nat) : Int)) rfl rfl rfl rfl _ _ HKw.out (by rw [HL17.out];omega) xX ?_);intro w5 hk5 hg5 hs5;have HFin:=kp (HStw.out.owns hk5 hg5 hs5);have HB5:=kp (HBw.out.grown hg5 (by omega) (fun k e => by cases e;exact hlow));clear hk5 hg5))
    go_end0
    exact ⟨rfl,_,HFin.out,HGoal.out,HB5.out⟩
  · have HGoal : Kept (q1.cf = M.act q.cf k x way):=kp (by rw [HAct.out,if_neg hok];rfl)
    have hoe : ((o : Int) == ((k + 1 : Nat) : Int)) = false:=by rw [beq_eq_false_iff_ne];omega
    clear hok
    go_wp2
    go_quiet (fail)
    obtain ⟨w2,hw2⟩ : ∃ y,w1.drewN nq = y:=⟨_,rfl⟩
    have HSt2 : Kept (St w2 B gN gU q1):=kp (by rw [← hw2];exact HSt.out.drewN nq)
    have HB2 : Kept (Below B w w2):=kp (by rw [← hw2];exact below_drewN HB1.out nq)
    have hW2 : w1.heap.size ≤ w2.heap.size:=by rw [← hw2];exact Nat.le_refl _
    replace hu1' : w2.cell? ⟨gU,1,none⟩ = some (.int .i64 (k : Int)):=by rw [← hw2];exact hu1'
    replace hco : w2.cell? ⟨gN,1 + a,none⟩ = some (.int .i64 (o : Int)):=by rw [← hw2];exact hco
    rw [hw2]
    clear hw2
    go_wp2
    go_quiet ((go_at_call 69;exact lO (HMk.out _)))
    go_wp2
    go_end0
    exact ⟨rfl,_,HSt2.out.drewN nq,HGoal.out,below_drewN HB2.out nq⟩
theorem X1 (s : List (Nat × Nat)) (n m : Nat) : M.goOn (M.goOn s n) m = M.goOn s m:=by
  unfold M.goOn M.top
  rw [List.length_set]
  rcases Nat.eq_zero_or_pos s.length with h | h
  · rw [List.eq_nil_of_length_eq_zero h];rfl
  · rw [List.set_set,List.getD_eq_getElem?_getD (l:=s.set _ _),List.getElem?_set,if_pos rfl,if_pos (by omega)]
    rfl
theorem X2 : (Tryd.prog.info? 52).map (·.size) = some 2:=by kernel_rfl
theorem LR : (Tryd.prog.info? 47).map (·.size) = some 1:=by kernel_rfl
set_option maxRecDepth 100000 in
set_option maxHeartbeats 1600000 in
theorem QJ (B gN gU k : Nat) (q : Pc) (x : Nd) (way : Bool) (th : Tv) (w : World) (hst : St w B gN gU q) (hu : Blk w gU 94 (turnC gN k way x)) (hkl : k < q.len) (hth : q.tvs[k]? = some th) (hs0 : 0 < th.sv.len) (hlen16 : th.sv.len ≤ 1000) (h8 : q.len ≤ 8) (nx : Nat) (hnx : x.next = (nx : Int)) (al : Nat) (hal : x.alt = (al : Int)) (hk8 : x.kind = 8) :
    Calls Tryd.prog 58 #[.pointer (some ⟨gU,0,none⟩)] w fun e w' => e = .returned (.tuple #[]) ∧ ∃ q',St w' B gN gU q' ∧ q'.cf = M.act q.cf k x way ∧ Below B w w':=by
  go_enter Tryd.func58,Tryd.ntmps58
  go_wp2_with fail
  refine (xA B gN gU k q x way th w hst hu hkl hth hs0 hlen16 h8 nx hnx).mono ?_
  rintro e w1 ⟨rfl,hst1,hu1,hb1⟩
  have hw1s:=hb1.size
  have hth1 : (q.put k (tvGo th nx)).tvs[k]? = some (tvGo th nx):=by
    show (q.tvs.set k (tvGo th nx))[k]? = _
    rw [List.getElem?_set,if_pos rfl,if_pos (List.getElem?_eq_some_iff.1 hth).1]
  have hcf1 : M.th q.cf k = tvT th:=Pc.th_of hth
  have HCf:=kp (Pc.put_cf q k (tvGo th nx))
  have HCf0:=kp hcf1
  have hs01 : 0 < (tvGo th nx).sv.len:=hs0
  have hlen161 : (tvGo th nx).sv.len ≤ 1000:=hlen16
  have hkl1 : k < (q.put k (tvGo th nx)).len:=hkl
  have h81 : (q.put k (tvGo th nx)).len ≤ 8:=h8
  have how1 : (q.put k (tvGo th nx)).ow = q.ow:=rfl
  have HQlen : Kept ((q.put k (tvGo th nx)).len = q.len):=kp rfl
  have HTvs : Kept ((q.put k (tvGo th nx)).tvs = q.tvs.set k (tvGo th nx)):=kp rfl
  have HTh1 : Kept (tvT (tvGo th nx) = ⟨M.goOn th.sv.stack nx,th.slots⟩):=kp rfl
  obtain ⟨q1,hq1⟩ : ∃ q1,q.put k (tvGo th nx) = q1:=⟨_,rfl⟩
  obtain ⟨th1,ht1⟩ : ∃ th1,tvGo th nx = th1:=⟨_,rfl⟩
  rw [ht1] at hq1 hth1 hs01 hlen161 HCf HTh1 HTvs hst1 hkl1 h81 how1 HQlen
  rw [hq1] at hst1 hth1 hkl1 h81 how1 HCf HQlen HTvs
  clear hst hu hq1 ht1 hcf1 hs0 hlen16
  obtain ⟨gT,curT,thx,hA,hbT,hthx,hcT0,hcTj,hTN,hTU,hBT,hsl,hthc,hcTl⟩:=hst1.thread hkl1
  rw [hth1] at hthx
  cases hthx
  obtain ⟨gS,cur,hSA,hbS,hlen,hSN,hSU,hBS,hput⟩:=hst1.goes hth1 hs01
  have hbound:=hst1.ok
  have hqc:=hbound.lc;have hqm:=hbound.cm
  unfold maxLen at hqm
  have HE : Kept (pcC q1 = .slice (some ⟨gT,0,none⟩) q1.len q1.cap :: q1.ow.map natV):=kp (by unfold pcC;rw [hA])
  have hgN:=hst1.conf.lt;have hgU:=hu1.lt;have hgT:=hbT.lt;have hgS:=hbS.lt
  have HSt:=kp hst1;have HK:=kp hu1;have HT:=kp hbT;have HS:=kp hbS;have HPut:=kp hput
  have hxc:=hbound.svs th1 (List.mem_of_getElem? hth1)
  have hxc2:=hxc.lc;have hxm:=hxc.cm
  unfold maxLen at hxm
  rw [hSA] at hcT0
  have HC0:=kp hcT0
  have hlow:=hst1.low.1
  have hBw : B ≤ w1.heap.size:=by omega
  have HLow:=kp hst1.low
  obtain ⟨n,hn⟩ : ∃ n,th1.sv.len = n:=⟨_,rfl⟩
  obtain ⟨cp,hcp⟩ : ∃ cp,th1.sv.cap = cp:=⟨_,rfl⟩
  have HThl:=kp hn
  rw [hn] at HC0 hs01 hlen161 hxc2 hlen HPut
  rw [hcp] at HC0 hxc2 hxm
  have HB1:=kp hb1
  have hu2:=HK.out.cell 2
  simp only [turnC,List.getElem?_cons_zero,List.getElem?_cons_succ] at hu2
  have HAct : Kept (M.act q.cf k x way = if way = true then ⟨q.cf.ths.set k ⟨M.goOn th.sv.stack al,th.slots⟩,q.ow⟩ else q1.cf):=kp (by
    unfold M.act
    rw [HCf.out,HCf0.out,if_neg (show ¬ x.kind = 9 by omega),if_neg (show ¬ x.kind = 3 by omega),if_neg (show ¬ x.kind = 4 by omega),if_neg (show ¬ x.kind = 5 by omega),if_neg (show ¬ x.kind = 7 by omega),hnx,hal,Int.toNat_natCast,Int.toNat_natCast,HTh1.out]
    cases way
    · rw [if_neg (by simp),if_neg (by simp)];rfl
    · rw [if_pos ⟨hk8,rfl⟩,if_pos rfl];rfl)
  have HGoalT : Kept ((q1.put k (tvGo th1 al)).cf = ⟨q.cf.ths.set k ⟨M.goOn th.sv.stack al,th.slots⟩,q.ow⟩):=kp (by
    rw [Pc.put_cf,HCf.out,how1,List.set_set]
    have e : tvT (tvGo th1 al) = ⟨M.goOn th.sv.stack al,th.slots⟩:=by
      have h1 : th1.sv.stack = M.goOn th.sv.stack nx:=congrArg M.Th.stack HTh1.out
      have h2 : th1.slots = th.slots:=congrArg M.Th.slots HTh1.out
      show (⟨M.goOn th1.sv.stack al,th1.slots⟩ : M.Th) = _
      rw [h1,h2,X1]
    rw [e])
  clear hst1 hu1 hth1 hput hbT hbS hcT0 hcTj hthc hcTl hsl hbound hxc hn hcp hSA hA hnx hb1
  cases way
  · have HGoal : Kept (q1.cf = M.act q.cf k x false):=kp (by rw [HAct.out];rfl)
    go_wp2
    go_end0
    exact ⟨rfl,_,HSt.out,HGoal.out,HB1.out⟩
  · have HGoal : Kept ((q1.put k (tvGo th1 al)).cf = M.act q.cf k x true):=kp (by rw [HAct.out,HGoalT.out];rfl)
    go_wp2
    apply jJ 10 (.is _ :: .is _ :: .is _ :: .is _ :: .is _ :: .is _ :: .is _ :: .is _ :: .is _ :: .is _ :: [])
      [[],[(0,9)],[(1,10)],[],[(3,12)],[(4,13)],[(5,14)],[(6,15)],[(2,11)],[(8,17)],[(9,18),(7,16)]]
      [(0,9),(1,10),(2,11),(3,12),(4,13),(5,14),(6,15),(7,16),(8,17),(9,18)] (by kernel_rfl) (by kernel_rfl) (by kernel_rfl) (by kernel_rfl) (by kernel_rfl)
    case hob =>
      refine ⟨?o0,?o1,?o2,?o3,?o4,?o5,?o6,?o7,?o8,?o9,trivial⟩
      case o0 => intro W hW;change wpList _ _ _ _ _ _;go_wp2;exact j3 rfl rfl rfl
      case o1 =>
        intro W hW;rintro _ rfl;change wpList _ _ _ _ _ _
        have hCu:=(HK.out.below hW hgU)
        have hCn:=((HSt.out.conf.below hW hgN).cell 0)
        rw [HE.out,List.getElem?_cons_zero] at hCn
        have HC:=kp (qP gU gN gT k q1.len q1.cap true x W hCu hCn hkl1)
        clear hCu hCn
        go_wp2_with fail
        refine (HC.out).mono ?_
        rintro e w2 ⟨rfl,m,rfl⟩
        go_wp2
        exact jE rfl rfl rfl (below_drewN (Below.refl _ _) m) rfl
      case o2 =>
        intro W hW;rintro _ rfl;change wpList _ _ _ _ _ _
        have hc:=(HT.out.below hW hgT).cell (k * 9)
        rw [HC0.out] at hc
        have hC:=u5 ⟨gT,k * 9,none⟩ ⟨gS,0,none⟩ n cp W hs01 hlen161 hc
        rw [q5] at hC
        have HC:=kp hC
        clear hc hC
        go_wp2_with fail
        refine (HC.out).mono ?_
        rintro e w2 ⟨rfl,m,rfl⟩
        go_wp2
        exact jE rfl rfl rfl (below_drewN (Below.refl _ _) m) rfl
      case o3 => intro W hW;change wpList _ _ _ _ _ _;go_wp2;exact j3 rfl rfl rfl
      case o4 => intro W hW;rintro _ rfl;change wpList _ _ _ _ _ _;go_wp2;exact j3 rfl rfl rfl
      case o5 => intro W hW;rintro _ rfl;change wpList _ _ _ _ _ _;go_wp2;exact j3 rfl rfl rfl
      case o6 => intro W hW;rintro _ rfl;change wpList _ _ _ _ _ _;go_wp2;exact j3 rfl rfl rfl
      case o7 =>
        intro W hW;rintro _ rfl;change wpList _ _ _ _ _ _
        have hc:=(HK.out.below hW hgU).cell 6
        simp only [turnC,List.getElem?_cons_zero,List.getElem?_cons_succ] at hc
        rw [hal] at hc
        go_wp2;exact j3 rfl rfl rfl
      case o8 => intro W hW;rintro _ rfl;change wpList _ _ _ _ _ _;go_wp2;exact j3 rfl rfl rfl
      case o9 => intro W hW;rintro _ rfl;change wpList _ _ _ _ _ _;go_wp2;exact j3 rfl rfl rfl
    case hend =>
      intro W hW;rintro _ rfl;rintro _ rfl;rintro _ rfl;rintro _ rfl;rintro _ rfl;rintro _ rfl;rintro _ rfl;rintro _ rfl;rintro _ rfl;rintro _ rfl
      simp only [given,jI,List.set,List.drop]
      have HKw:=kp (HS.out.below hW hgS)
      have HStw:=kp (HSt.out.below hW (Nat.le_refl _))
      have HBw:=kp (hW.mono hBw)
      have HKu:=kp (HK.out.below hW hgU)
      have hWs:=hW.size
      have HWg:=kp hW
      have hsw:=HBw.out.size
      clear hW
      go_wp2_with (first
        | ((with_reducible show Sn);go_must (refine jF rfl 3 (.tmp 18) (.tmp 16) rfl gS ((n - 1) * 2 + 1) (.int .i64 (al : Int)) rfl rfl rfl rfl _ _ HKw.out hlen xX ?_);intro w5 hk5 hg5 hs5;have HFin:=kp (HPut.out W w5 al HWg.out hk5 hg5 hs5);have HKu5:=kp (HKu.out.grown hg5 (fun e => hSU (by cases e;rfl)));have HB5:=kp (HBw.out.grown hg5 (by omega) (fun k e => by cases e;exact hBS));clear hk5 hg5))
      go_end0
      exact ⟨rfl,_,HFin.out,HGoal.out,HB1.out.trans HB5.out⟩
set_option maxRecDepth 100000 in
set_option maxHeartbeats 1600000 in
theorem Y0 (B gN gU k : Nat) (q : Pc) (x : Nd) (way : Bool) (th : Tv) (w : World) (hst : St w B gN gU q) (hu : Blk w gU 94 (turnC gN k way x)) (hkl : k < q.len) (hth : q.tvs[k]? = some th) (hs0 : 0 < th.sv.len) (hlen16 : th.sv.len ≤ 1000) (_h8 : q.len ≤ 8) (hk9 : x.kind = 9) :
    Calls Tryd.prog 59 #[.pointer (some ⟨gU,0,none⟩)] w fun e w' => e = .returned (.tuple #[]) ∧ ∃ q',St w' B gN gU q' ∧ q'.cf = M.act q.cf k x way ∧ Below B w w':=by
  obtain ⟨gT,curT,th',hA,hbT,hth',hcT0,hcTj,hTN,hTU,hBT,hsl,hthc,hcTl⟩:=hst.thread hkl
  rw [hth] at hth'
  cases hth'
  obtain ⟨gS,cur,hSA,hbS,hlen,hSN,hSU,hBS,hput⟩:=hst.goes hth hs0
  have hbound:=hst.ok
  have hqc:=hbound.lc;have hqm:=hbound.cm
  unfold maxLen at hqm
  have HE : Kept (pcC q = .slice (some ⟨gT,0,none⟩) q.len q.cap :: q.ow.map natV):=kp (by unfold pcC;rw [hA])
  have hgN:=hst.conf.lt;have hgU:=hu.lt;have hgT:=hbT.lt;have hgS:=hbS.lt
  have HSt:=kp hst;have HK:=kp hu;have HT:=kp hbT;have HS:=kp hbS;have HPut:=kp hput
  have hxc:=hbound.svs th (List.mem_of_getElem? hth)
  have hxc2:=hxc.lc;have hxm:=hxc.cm
  unfold maxLen at hxm
  rw [hSA] at hcT0
  have HC0:=kp hcT0
  have hlow:=hst.low.1
  have hBw : B ≤ w.heap.size:=by omega
  have HLow:=kp hst.low
  obtain ⟨n,hn⟩ : ∃ n,th.sv.len = n:=⟨_,rfl⟩
  obtain ⟨cp,hcp⟩ : ∃ cp,th.sv.cap = cp:=⟨_,rfl⟩
  have HThl:=kp hn
  rw [hn] at HC0 hs0 hlen16 hxc2 hlen HPut
  rw [hcp] at HC0 hxc2 hxm
  obtain ⟨mm,hmm⟩ : ∃ mm,n = mm + 1:=⟨n - 1,by omega⟩
  have HA:=kp hA;have HTh:=kp hth
  have HOwn : Kept (∀ W,St W B gN gU q → OwnR 2 frV W B 52 (.slice (some ⟨gS,0,none⟩) (mm + 1) cp) th.sv.stack):=kp (fun W hW => by
    have h:=hW.fam.own k th.sv (by rw [List.getElem?_map,hth];rfl)
    unfold svV at h
    rw [hSA,hn,hcp,hmm] at h
    exact h)
  have HBk : Kept ((svV ⟨some ⟨gS,0,none⟩,mm,cp,th.sv.stack.take mm⟩).ownBlock = (svV th.sv).ownBlock):=kp (by unfold svV;rw [hSA];rfl)
  have HGoal : Kept ((q.put k ⟨⟨some ⟨gS,0,none⟩,mm,cp,th.sv.stack.take mm⟩,th.slots⟩).cf = M.act q.cf k x way):=kp (by
    rw [Pc.put_cf]
    unfold M.act
    rw [if_pos hk9,hthc]
    have e : (tvT th).stack.length - 1 = mm:=by show th.sv.stack.length - 1 = mm;rw [hsl,hn,hmm];rfl
    rw [e];rfl)
  have hTlen : k * 9 < curT.length:=by omega
  have hCu:=hu
  have hCn:=hst.conf.cell 0
  rw [HE.out,List.getElem?_cons_zero] at hCn
  have HC:=kp (qP gU gN gT k q.len q.cap way x w hCu hCn hkl)
  subst hmm
  rw [Nat.add_sub_cancel] at hlen
  clear hst hu hth hput hbT hbS hcT0 hcTj hthc hcTl hsl hbound hxc hn hcp hSA hA hCu hCn
  go_enter Tryd.func59,Tryd.ntmps59
  go_wp2_with fail
  refine HC.out.mono ?_
  rintro e w9 ⟨rfl,m,rfl⟩
  obtain ⟨w1,hw1⟩ : ∃ y,w.drewN m = y:=⟨_,rfl⟩
  have HT1 : Kept (Blk w1 gT 50 curT):=kp (by rw [← hw1];exact HT.out.drewN m)
  have HSt1 : Kept (St w1 B gN gU q):=kp (by rw [← hw1];exact HSt.out.drewN m)
  have HB1 : Kept (Below B w w1):=kp (by rw [← hw1];exact below_drewN (Below.refl _ _) m)
  have hBw1 : B ≤ w1.heap.size:=by have:=HB1.out.size;omega
  have hgT1:=HT1.out.lt
  rw [hw1]
  clear hw1
  go_wp2
  apply jJ 14 (.is _ :: .is _ :: .is _ :: .is _ :: .is _ :: .is _ :: .is _ :: .is _ :: .is _ :: .is _ :: .is (.int .i64 (mm : Int)) :: .is (.slice (some ⟨gS,0,none⟩) mm cp) :: .is _ :: .is _ :: [])
    [[],[],[(1,6)],[(2,7)],[(3,8)],[],[(5,10)],[(6,11)],[(7,12)],[(8,13)],[(9,14)],[(4,9),(10,15)],[(0,5)],[(12,17)],[(13,18),(11,16)]]
    [(0,5),(1,6),(2,7),(3,8),(4,9),(5,10),(6,11),(7,12),(8,13),(9,14),(10,15),(11,16),(12,17),(13,18)] (by kernel_rfl) (by kernel_rfl) (by kernel_rfl) (by kernel_rfl) (by kernel_rfl)
  case hob =>
    refine ⟨?o0,?o1,?o2,?o3,?o4,?o5,?o6,?o7,?o8,?o9,?o10,?o11,?o12,?o13,trivial⟩
    case o0 => intro W hW;change wpList _ _ _ _ _ _;go_wp2;exact j3 rfl rfl rfl
    case o1 => intro W hW;change wpList _ _ _ _ _ _;go_wp2;exact j3 rfl rfl rfl
    case o2 => intro W hW;rintro _ rfl;change wpList _ _ _ _ _ _;go_wp2;exact j3 rfl rfl rfl
    case o3 => intro W hW;rintro _ rfl;change wpList _ _ _ _ _ _;go_wp2;exact j3 rfl rfl rfl
    case o4 =>
      intro W hW;rintro _ rfl;change wpList _ _ _ _ _ _
      have hc:=(HT1.out.below hW hgT1).cell (k * 9)
      rw [HC0.out] at hc
      go_wp2;exact j3 rfl rfl rfl
    case o5 => intro W hW;change wpList _ _ _ _ _ _;go_wp2;exact j3 rfl rfl rfl
    case o6 => intro W hW;rintro _ rfl;change wpList _ _ _ _ _ _;go_wp2;exact j3 rfl rfl rfl
    case o7 => intro W hW;rintro _ rfl;change wpList _ _ _ _ _ _;go_wp2;exact j3 rfl rfl rfl
    case o8 =>
      intro W hW;rintro _ rfl;change wpList _ _ _ _ _ _
      have hc:=(HT1.out.below hW hgT1).cell (k * 9)
      rw [HC0.out] at hc
      go_wp2;exact j3 rfl rfl rfl
    case o9 => intro W hW;rintro _ rfl;change wpList _ _ _ _ _ _;go_wp2;exact j3 rfl rfl rfl
    case o10 => intro W hW;rintro _ rfl;change wpList _ _ _ _ _ _;go_wp2;exact j3 rfl rfl rfl
    case o11 =>
      intro W hW;rintro _ rfl;rintro _ rfl;change wpList _ _ _ _ _ _
      go_wp2_with ((with_reducible show Sl 16);go_must (refine zA rfl 47 (.tmp 9) (.tmp 15) rfl 52 2 Tryd.underlying47 X2 (some ⟨gS,0,none⟩) (mm + 1) cp rfl .i64 mm rfl (by omega) ?_))
      exact j3 rfl rfl rfl
    case o12 => intro W hW;rintro _ rfl;change wpList _ _ _ _ _ _;go_wp2;exact j3 rfl rfl rfl
    case o13 => intro W hW;rintro _ rfl;change wpList _ _ _ _ _ _;go_wp2;exact j3 rfl rfl rfl
  case hend =>
    intro W hW;rintro _ rfl;rintro _ rfl;rintro _ rfl;rintro _ rfl;rintro _ rfl;rintro _ rfl;rintro _ rfl;rintro _ rfl;rintro _ rfl;rintro _ rfl;rintro _ rfl;rintro _ rfl;rintro _ rfl;rintro _ rfl
    simp only [given,jI,List.set,List.drop]
    have HKw:=kp (HT1.out.below hW hgT1)
    have HStw:=kp (HSt1.out.below hW (Nat.le_refl _))
    have HBw:=kp (HB1.out.trans (hW.mono hBw1))
    have hWs:=hW.size
    clear hW
    go_wp2_with (first
      | ((with_reducible show Sn);go_must (refine jF rfl 47 (.tmp 18) (.tmp 16) rfl gT (k * 9) (.slice (some ⟨gS,0,none⟩) mm cp) rfl rfl rfl rfl _ _ HKw.out hTlen LR ?_);intro w5 hk5 hg5 hs5
         have HFin:=kp (HStw.out.stack (sv:=⟨some ⟨gS,0,none⟩,mm,cp,th.sv.stack.take mm⟩) HA.out HKw.out HTh.out (jS _ _) ((HOwn.out _ HStw.out).front (Nat.le_succ mm)) (.inl HBk.out) hk5 hg5 hs5)
         have HB5:=kp (HBw.out.grown hg5 (by omega) (fun k e => by cases e;exact hBT));clear hk5 hg5))
    go_end0
    exact ⟨rfl,_,HFin.out,HGoal.out,HB5.out⟩
theorem qJ {P : Program} {ops : Array Oper} {rest : List Oper} {o : Oper} {a : Act} {w : World} {Q : Exit → Act → World → Prop} (hg : o.guard = none) (t : TypeId) (parts : Array (Nat × Operand)) (ho : o.op = .build t parts)
    (qs : List (Nat × Value)) (hq : (parts.map fun (i,x) => (i,a.eval x)).toList = qs) (cs : List Value) (hf : P.built t qs = some cs.toArray)
    (h : wpList P ops Q rest (a.put o.dst (.agg cs.toArray)) w) : wpList P ops Q (o :: rest) a w:=by
  subst hq
  refine wpList_build hg t parts ho (by rw [hf];rfl) ?_
  rw [hf]
  exact h
theorem xU {P : Program} {ops : Array Oper} {rest : List Oper} {o : Oper} {a : Act} {w : World} {Q : Exit → Act → World → Prop} (hg : o.guard = none) (t : TypeId) (i : Nat) (x : Operand) (ho : o.op = .build t #[(i,x)])
    (v : Value) (hx : a.eval x = v) (cs : List Value) (hf : P.built t [(i,v)] = some cs.toArray)
    (h : wpList P ops Q rest (a.put o.dst (.agg cs.toArray)) w) : wpList P ops Q (o :: rest) a w :=
  qJ hg t _ ho [(i,v)] (by simp [hx]) cs hf h
theorem l4 {P : Program} {ops : Array Oper} {rest : List Oper} {o : Oper} {a : Act} {w : World} {Q : Exit → Act → World → Prop} (hg : o.guard = none) (t e : TypeId) (x : Operand) (ho : o.op = .buildSlice t 1 #[(0,x)])
    (sz : Nat) (hu : P.underlying t = some (.slice e)) (hi : (P.info? e).map (fun i => (i.zero.map (·.cells.size),i.size)) = some (some sz,sz)) (h0 : 0 < sz) (h24 : sz ≤ 1000) (v : Value) (cs : List Value) (hx : a.eval x = v) (hv : v.cells = cs.toArray) (hl : cs.length = sz)
    (h : ∀ g w',w.heap.size ≤ g → Blk w' g e cs → Below w.heap.size w w' → wpList P ops Q rest (a.put o.dst (.slice (some ⟨g,0,none⟩) 1 1)) w') : wpList P ops Q (o :: rest) a w:=by
  cases hq : P.info? e with
  | none => simp [hq] at hi
  | some ie =>
    simp only [hq,Option.map_some,Option.some.injEq,Prod.mk.injEq] at hi
    obtain ⟨hz,hs⟩:=hi
    cases hzz : ie.zero with
    | none => simp [hzz] at hz
    | some z =>
      simp only [hzz,Option.map_some,Option.some.injEq] at hz
      refine wpList_buildSlice hg t e 1 _ ho cs.toArray ie z hu hq hzz (by rw [hs];omega) (by rw [hs];omega) ?_ (h _ _ (Nat.le_refl _) (Blk.newAt rfl rfl) ((Below.refl _ _).alloc (Nat.le_refl _) _))
      have hf:=Go.Great.fill_whole (s:=ie.size) (by rw [hs];exact h0) [v] ((Array.range (1 * ie.size)).map (z.cells[· % z.cells.size]!)) (fun u hu => by rw [List.mem_singleton.1 hu,hv,hs];simpa using hl) (by simp)
      simp only [List.map_toArray,List.map_cons,List.map_nil,hx]
      simpa [hv] using hf
def zeros (n : Nat) : List Value:=List.replicate n (.int .i64 0)
theorem JQ (A : Option Addr) (n c : Nat) : Tryd.prog.built 50 [(0,.slice A n c)] = some (Value.slice A n c :: zeros 8).toArray:=by kernel_rfl
theorem X9 (A : Option Addr) (n c : Nat) : Tryd.prog.built 43 [(0,.slice A n c)] = some (Value.slice A n c :: zeros 16).toArray:=by kernel_rfl
theorem JU : (Tryd.prog.info? 50).map (·.zero) = some (some (.agg (Value.slice none 0 0 :: zeros 8).toArray)):=by kernel_rfl
theorem yT : (Tryd.prog.info? 50).map (fun i => (i.zero.map (·.cells.size),i.size)) = some (some 9,9):=by kernel_rfl
theorem vE : (Tryd.prog.info? 50).map (·.size) = some 9:=by kernel_rfl
theorem lD : (Tryd.prog.info? 43).map (·.zero) = some (some (.agg (Value.slice none 0 0 :: zeros 16).toArray)):=by kernel_rfl
theorem xW : (Tryd.prog.info? 50).map (fun i => (i.zero,i.size,i.bytes)) = some (some (.agg (Value.slice none 0 0 :: zeros 8).toArray),9,88):=by kernel_rfl
theorem yX : (Tryd.prog.info? 52).map (fun i => (i.zero,i.size,i.bytes)) = some (some (.agg #[.int .i64 0,.int .i64 0]),2,16):=by kernel_rfl
theorem JT (n : Nat) : zeros n = (List.replicate n 0).map natV:=by unfold zeros;rw [List.map_replicate];rfl
theorem JM (x : Nat × Nat) (j : Nat) : (frV x j).oneCell' = true:=by unfold frV;split <;> rfl
theorem JB (x : Tv) (j : Nat) : (tvV x j).oneCell' = true:=by unfold tvV;split <;> rfl
end Go.Proofs.YtoekiejipdabmaaDoor
