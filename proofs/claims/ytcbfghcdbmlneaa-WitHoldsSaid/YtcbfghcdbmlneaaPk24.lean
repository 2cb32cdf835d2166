/- SemR6, SemRkno, SemRkgo, SemRk3. -/
import Derived.Test.YtcbfghcdbmlneaaPk23
import Derived.Test.YtcbfghcdbmlneaaPk22
import Derived.Test.YtcbfghcdbmlneaaSemR3
import Derived.Test.YtcbfghcdbmlneaaSemR5
import Derived.Test.YtcbfghcdbmlneaaPk10
namespace Go.Proofs.Ytcbfghcdbmlneaa
open Go.RowKit
theorem qP {p : Pg} {q : Rc} {w : World} {B : Nat} (hf : Fine p) (hl : p.fns.length = p.len) (hg : M.Good p q.cf) (hq : q.Ok w B) : ∀ x ∈ q.svs,x.len ≤ 1000:=fun x hx => by
  obtain ⟨k,hk⟩:=List.mem_iff_getElem?.1 hx
  have hkl : k < q.len:=by have:=(List.getElem?_eq_some_iff.1 hk).1;rw [hq.row.len] at this;exact this
  obtain ⟨_,x',_,sl,_,_,hx',_,_,_,_,_,hth,hlen,_⟩:=hq.thread hkl
  rw [hk] at hx';cases hx'
  have h1:=M.high hf hl hg (x:=M.th q.cf k) (M.th_mem (by rw [hq.len];exact hkl))
  have h2:=hf.counts.f
  rw [hth] at h1
  have h4 : x.stack.length ≤ p.fns.length:=h1
  omega
theorem yO {p : Pg} {q : Rc} {w : World} {B : Nat} (hg : M.Good p q.cf) (hq : q.Ok w B) : ∀ l ∈ q.sls,l.length = 8:=fun l hl => by
  obtain ⟨k,hk⟩:=List.mem_iff_getElem?.1 hl
  have hkl : k < q.len:=by have:=(List.getElem?_eq_some_iff.1 hk).1;rw [hq.slr.len] at this;exact this
  obtain ⟨_,x',_,sl,_,_,_,_,_,_,_,hsl,hth,_,_⟩:=hq.thread hkl
  rw [hk] at hsl;cases hsl
  have h1:=hg.eight _ (M.th_mem (c:=q.cf) (by rw [hq.len];exact hkl))
  rw [hth] at h1
  exact h1
theorem RMine.rb {w1 w : World} {B gO gR : Nat} {q : Rc} (h : RMine w1 B q) (hb : Below w1.heap.size w1 w) (hk : Blk w gO 63 (rcC q)) (hO : w1.heap.size ≤ gO) (hR : gR < B) (hBw : B ≤ w1.heap.size) : RB w B gO gR q.A q.len q.cap q.svs q.A2 q.len q.cap2 q.sls q.ow:=by
  have h2:=h.below hb (Nat.le_refl _)
  have key : ∀ v : Value,(∀ b,v.ownBlock = some b → B ≤ b ∧ b < w1.heap.size) → ∀ b,v.ownBlock = some b → b ≠ gO ∧ b ≠ gR:=fun v hv b hb => by have:=hv b hb;omega
  refine ⟨hk,h2.row,h2.slr,?_,fun b hv => ⟨(key _ h.row.block b hv).1,(key _ h.row.block b hv).2,h2.ne b hv⟩,key _ h.slr.block,by omega,by have:=hb.size;omega⟩
  refine ⟨h2.fam.own,fun k x b hx hv hs => ?_,h2.fam.apart⟩
  rcases hs with e | e | e | e
  · exact (key _ (fun c hc => h.fam.block hx hc) b hv).1 e
  · exact (key _ (fun c hc => h.fam.block hx hc) b hv).2 e
  · exact h2.fam.out k x b hx hv (.inl e)
  · exact h2.fam.out k x b hx hv (.inr e)
theorem RMine.lessR {w : World} {B B' : Nat} {q : Rc} (h : RMine w B q) (hB : B' ≤ B) : RMine w B' q:=⟨h.row.less hB,h.slr.less hB,⟨fun k x hx => (h.fam.own k x hx).less hB,h.fam.out,h.fam.apart⟩,h.ne⟩
def StepR (w : World) (c : M.Cf) : Ending → World → Prop:=fun e w' => ∃ q',e = .returned (rcA q') ∧ RMine w' w.heap.size q' ∧ q'.cf = c ∧ Below w.heap.size w w'
theorem vR {A A2 : Option Addr} {cap cap2 n : Nat} {svs : List Sv} {sls : List (List Nat)} {ow : List Nat} {ths : List M.Th} (h : List.zipWith (fun (s : Sv) l => (⟨s.stack,l⟩ : M.Th)) svs sls = ths) : (⟨A,cap,svs,A2,cap2,sls,n,ow⟩ : Rc).cf = ⟨ths,ow⟩:=by subst h;rfl
theorem yX {svs : List Sv} {sls : List (List Nat)} {k : Nat} {x : Sv} {l : List Nat} (h2 : sls[k]? = some l) : List.zipWith (fun (s : Sv) l => (⟨s.stack,l⟩ : M.Th)) (svs.set k x) sls = (List.zipWith (fun (s : Sv) l => (⟨s.stack,l⟩ : M.Th)) svs sls).set k ⟨x.stack,l⟩:=by
  apply List.ext_getElem?
  intro j
  rw [List.getElem?_zipWith,List.getElem?_set,List.getElem?_set]
  by_cases e : k = j
  · subst e
    rw [if_pos rfl,if_pos rfl,h2,List.length_zipWith]
    have hl : k < sls.length:=(List.getElem?_eq_some_iff.1 h2).1
    by_cases hs : k < svs.length
    · rw [if_pos hs,if_pos (by omega)]
    · rw [if_neg hs,if_neg (by omega)]
  · rw [if_neg e,if_neg e,List.getElem?_zipWith]
theorem RB.thread {w : World} {B gO gR : Nat} {A A2 : Option Addr} {n cap n2 cap2 k : Nat} {svs : List Sv} {sls : List (List Nat)} {ow : List Nat} (h : RB w B gO gR A n cap svs A2 n2 cap2 sls ow) (hk : k < n) :
    ∃ gA cur s,A = some ⟨gA,0,none⟩ ∧ Blk w gA 148 cur ∧ svs[k]? = some s ∧ cur[k]? = some (svV s) ∧ gA ≠ gO ∧ gA ≠ gR ∧ B ≤ gA ∧ k < cur.length ∧ n ≤ cap ∧ cap ≤ maxLen ∧ s.stack.length = s.len ∧ s.len ≤ s.cap ∧ s.cap ≤ maxLen:=by
  obtain ⟨gA,cur,hA,hb,hs,ht,hB,hn,hm,hl⟩:=h.row.blk (by omega)
  have hkl : k < svs.length:=by omega
  have hx:=List.getElem?_eq_getElem hkl
  have hne:=h.ne gA (by rw [hA];rfl)
  have ho:=h.fam.own k _ hx
  have hc : cur[k]? = some (svV svs[k]):=by
    have h1:=lZ 1 svR svs k 0 _ hx (by omega)
    rw [← ht,List.getElem?_take] at h1
    split at h1
    · simpa [svR] using h1
    · cases h1
  exact ⟨gA,cur,_,hA,hb,hx,hc,hne.1,hne.2.1,hB,(List.getElem?_eq_some_iff.1 hc).1,hn,hm,ho.len_is.1,ho.len_is.2.1,ho.len_is.2.2⟩
theorem RB.slots {w : World} {B gO gR : Nat} {A A2 : Option Addr} {n cap n2 cap2 k : Nat} {svs : List Sv} {sls : List (List Nat)} {ow : List Nat} (h : RB w B gO gR A n cap svs A2 n2 cap2 sls ow) (hk : k < n2) :
    ∃ gL cur,A2 = some ⟨gL,0,none⟩ ∧ Blk w gL 149 cur ∧ k * 8 + 8 ≤ cur.length ∧ n2 ≤ cap2 ∧ cap2 ≤ maxLen:=by
  obtain ⟨gL,cur,hA,hb,hs,ht,hB,hn,hm,hl⟩:=h.slr.blk (by omega)
  exact ⟨gL,cur,hA,hb,by rw [hs];omega,hn,hm⟩
theorem act_go {c : M.Cf} {t : Nat} {n : Nd} {way : Bool} (h3 : n.kind ≠ 3) (h4 : n.kind ≠ 4) (h5 : n.kind ≠ 5) (h7 : n.kind ≠ 7) (h8 : ¬ (n.kind = 8 ∧ way = true)) (h9 : n.kind ≠ 9) : M.act c t n way = ⟨c.ths.set t ⟨M.goOn (M.th c t).stack n.next.toNat,(M.th c t).slots⟩,c.owners⟩:=by
  unfold M.act
  rw [if_neg h9,if_neg h3,if_neg h4,if_neg h5,if_neg h7,if_neg h8]
theorem act_8 {c : M.Cf} {t : Nat} {n : Nd} (h8 : n.kind = 8) : M.act c t n true = ⟨c.ths.set t ⟨M.goOn (M.th c t).stack n.alt.toNat,(M.th c t).slots⟩,c.owners⟩:=by
  unfold M.act
  rw [if_neg (by omega),if_neg (by omega),if_neg (by omega),if_neg (by omega),if_neg (by omega),if_pos ⟨h8,rfl⟩]
theorem act_9 {c : M.Cf} {t : Nat} {n : Nd} {way : Bool} (h : n.kind = 9) : M.act c t n way = ⟨c.ths.set t ⟨(M.th c t).stack.take ((M.th c t).stack.length - 1),(M.th c t).slots⟩,c.owners⟩:=by
  unfold M.act
  rw [if_pos h]
theorem act_3 {c : M.Cf} {t : Nat} {n : Nd} {way : Bool} (h : n.kind = 3) : M.act c t n way = ⟨c.ths.set t ⟨M.goOn (M.th c t).stack n.next.toNat,(M.th c t).slots⟩,c.owners.set n.arg.toNat (t + 1)⟩:=by
  unfold M.act
  rw [if_neg (by omega),if_pos h]
theorem act_4 {c : M.Cf} {t : Nat} {n : Nd} {way : Bool} (h : n.kind = 4) : M.act c t n way = ⟨c.ths.set t ⟨M.goOn (M.th c t).stack n.next.toNat,(M.th c t).slots⟩,if c.owners.getD n.arg.toNat 0 = t + 1 then c.owners.set n.arg.toNat 0 else c.owners⟩:=by
  unfold M.act
  rw [if_neg (by omega),if_neg (by omega),if_pos h]
theorem act_5 {c : M.Cf} {t : Nat} {n : Nd} {way : Bool} (h : n.kind = 5) : M.act c t n way = ⟨c.ths.set t ⟨M.goOn (M.th c t).stack n.next.toNat,(M.th c t).slots.set n.alt.toNat (c.ths.length + 1)⟩ ++ [⟨[(n.arg.toNat,0)],List.replicate 8 0⟩],c.owners⟩:=by
  unfold M.act
  rw [if_neg (by omega),if_neg (by omega),if_neg (by omega),if_pos h]
theorem act_7 {c : M.Cf} {t : Nat} {n : Nd} {way : Bool} (h : n.kind = 7) : M.act c t n way = ⟨c.ths.set t ⟨M.goOn (M.th c t).stack n.next.toNat ++ [(n.arg.toNat,0)],(M.th c t).slots⟩,c.owners⟩:=by
  unfold M.act
  rw [if_neg (by omega),if_neg (by omega),if_neg (by omega),if_neg (by omega),if_pos h]
theorem qE : (Try.prog.info? 97).map (·.zero) = some (some (.agg #[.int .i64 0,.int .i64 0,.int .i64 0,.int .i64 0])):=by kernel_rfl
theorem x6 (x : Nd) : ∀ u ∈ ndC x,u.oneCell' = true:=by
  intro u hu
  simp only [ndC,List.mem_cons,List.not_mem_nil,or_false] at hu
  rcases hu with rfl | rfl | rfl | rfl <;> rfl
theorem jY {w : World} {g : Nat} {t t2 : TypeId} {cs cs2 : List Value} (h : Blk w g t cs) (h2 : Blk w g t2 cs2) (hne : t ≠ t2) : False:=by
  unfold Blk at h h2
  rw [h] at h2
  injection h2 with h2
  injection h2 with _ h3
  exact hne h3
theorem goOn_goOn (s : List (Nat × Nat)) (n m : Nat) : M.goOn (M.goOn s n) m = M.goOn s m:=by
  unfold M.goOn M.top
  rw [List.length_set]
  rcases Nat.eq_zero_or_pos s.length with h | h
  · rw [List.eq_nil_of_length_eq_zero h];rfl
  · rw [List.set_set,List.getD_eq_getElem?_getD (l:=s.set _ _),List.getElem?_set,if_pos rfl,if_pos (by omega)]
    rfl
theorem zI {svs : List Sv} {sls : List (List Nat)} {k : Nat} {x y : Sv} {l : List Nat} (h2 : sls[k]? = some l) : List.zipWith (fun (s : Sv) l => (⟨s.stack,l⟩ : M.Th)) ((svs.set k y).set k x) sls = (List.zipWith (fun (s : Sv) l => (⟨s.stack,l⟩ : M.Th)) svs sls).set k ⟨x.stack,l⟩:=by
  rw [List.set_set];exact yX h2
theorem yQ {P : Program} {ops : Array Oper} {rest : List Oper} {o : Oper} {a : Act} {w : World} {Q : Exit → Act → World → Prop} {α : Type} (hgd : o.guard = none) (s x : Operand) (t : TypeId)
    (ho : o.op = .call { callee:=.builtin .append,args:=#[s,x],argTypes:=#[t,t] })
    (B : Nat) (e : TypeId) (sz : Nat) (z : Value) (bytes : Nat) (ht : P.underlying t = some (.slice e)) (hi : (P.info? e).map (fun i => (i.zero,i.size,i.bytes)) = some (some z,sz,bytes)) (hzs : z.cells.size = sz) (hsz : 0 < sz)
    (f : α → Nat → Value) (hone : ∀ x j,(f x j).oneCell' = true)
    (A : Option Addr) (cap n : Nat) (l : List α) (hn : l.length = n) (u : α) (hs : a.eval s = .slice A n cap) (hown : OwnR sz f w B e (.slice A n cap) l)
    (gn c : Nat) (hx : a.eval x = .slice (some ⟨gn,0,none⟩) 1 c) (hbk : Blk w gn e ((List.range sz).map (f u))) (h63 : n + 1 ≤ maxLen) (hbytes : (n + 1) * bytes ≤ 140737488355328) (hB : B ≤ w.heap.size)
    (h : ∀ g c' w',OwnR sz f w' B e (.slice (some ⟨g,0,none⟩) (n + 1) c') (l ++ [u]) → w.grownBy w' (Value.slice A n cap).ownBlock → ((Value.slice A n cap).ownBlock = some g ∨ w.heap.size ≤ g) → wpList P ops Q rest (a.put o.dst (.slice (some ⟨g,0,none⟩) (n + 1) c')) w') : wpList P ops Q (o :: rest) a w:=by
  rcases hown.room_or with ⟨q,rfl,hroom⟩ | hfull
  · exact jZ hgd s x t ho B e sz z bytes ht hi hzs hsz f hone q cap n l hn u hs hown hroom gn c hx hbk hbytes fun w' h1 h2 => h q cap w' h1 h2 (.inl rfl)
  · exact lU hgd s x t ho B e sz z bytes ht hi hzs hsz f hone A cap n l hn u hs hown hfull gn c hx hbk h63 hbytes hB fun g c' w' h1 h2 h3 => h g c' w' h1 (jT h2 _) (.inr h3)
theorem Recs.front {α : Type} {sz : Nat} {f : α → Nat → Value} {w : World} {B n m : Nat} {A : Option Addr} {l : List α} (h : Recs sz f w B A n l) (hm : m ≤ n) : Recs sz f w B A m (l.take m):=by
  refine ⟨by rw [List.length_take,h.len];omega,fun h0 => ?_⟩
  obtain ⟨ad,e,hb,hc⟩:=h.cells (by omega)
  exact ⟨ad,e,hb,fun k x hx j hj => hc k x (by rw [List.getElem?_take] at hx;split at hx;exact hx;cases hx) j hj⟩
theorem zip_push {svs : List Sv} {sls : List (List Nat)} {x : Sv} {l : List Nat} (h : svs.length = sls.length) : List.zipWith (fun (s : Sv) l => (⟨s.stack,l⟩ : M.Th)) (svs ++ [x]) (sls ++ [l]) = List.zipWith (fun (s : Sv) l => (⟨s.stack,l⟩ : M.Th)) svs sls ++ [⟨x.stack,l⟩]:=by
  rw [List.zipWith_append h];rfl
theorem zip_both {svs : List Sv} {sls : List (List Nat)} {k : Nat} {x : Sv} {l : List Nat} (h1 : k < svs.length) (h2 : k < sls.length) : List.zipWith (fun (s : Sv) l => (⟨s.stack,l⟩ : M.Th)) (svs.set k x) (sls.set k l) = (List.zipWith (fun (s : Sv) l => (⟨s.stack,l⟩ : M.Th)) svs sls).set k ⟨x.stack,l⟩:=by
  apply List.ext_getElem?
  intro j
  rw [List.getElem?_zipWith,List.getElem?_set,List.getElem?_set,List.getElem?_set,List.length_zipWith]
  by_cases e : k = j
  · subst e
    rw [if_pos rfl,if_pos rfl,if_pos rfl,if_pos h1,if_pos h2,if_pos (by omega)]
  · rw [if_neg e,if_neg e,if_neg e,List.getElem?_zipWith]
def GrewIn (w W : World) (B gK n c : Nat) (st : List (Nat × Nat)) : Prop:=w.grownBy W (some gK) ∧ OwnR 2 frV W B 147 (.slice (some ⟨gK,0,none⟩) n c) st
theorem JT : (Try.prog.info? 149).map (·.zero) = some (some (.agg (zeros 8).toArray)):=by kernel_rfl
theorem zeros_sl : zeros 8 = (List.range 8).map (slV (List.replicate 8 0)):=by rfl
def CallDone (W : World) (B gO gR : Nat) (q1 : Rc) (k : Nat) (x y : Sv) : Prop:=RB W B gO gR q1.A q1.len q1.cap ((q1.svs.set k x).set k y) q1.A2 q1.len q1.cap2 q1.sls q1.ow
theorem zip_spawn {svs : List Sv} {sls : List (List Nat)} {k : Nat} {x y : Sv} {l z : List Nat} (h : svs.length = sls.length) (hk : k < svs.length) : List.zipWith (fun (s : Sv) l => (⟨s.stack,l⟩ : M.Th)) (svs.set k x ++ [y]) ((sls ++ [z]).set k l) = (List.zipWith (fun (s : Sv) l => (⟨s.stack,l⟩ : M.Th)) svs sls).set k ⟨x.stack,l⟩ ++ [⟨y.stack,z⟩]:=by
  rw [List.set_append_left _ _ (by omega),zip_push (by rw [List.length_set,List.length_set];exact h),zip_both hk (by omega)]
theorem JV : (Try.prog.info? 148).map (fun i => (i.zero.map (·.cells.size),i.size)) = some (some 1,1):=by kernel_rfl
theorem XG : ((Try.prog.info? 3).map (·.size)).isSome = true:=by kernel_rfl
theorem XA {α : Type} {sz : Nat} {f : α → Nat → Value} {w : World} {B b : Nat} {e t : TypeId} {v : Value} {l : List α} {cs : List Value} (h : OwnR sz f w B e v l) (hb : Blk w b t cs) (hne : e ≠ t) : v.ownBlock ≠ some b:=by
  intro hv
  rcases h.2 with ⟨rfl,_⟩ | ⟨g,cap,cur,rfl,_,hg,_⟩
  · cases hv
  · injection hv with hv
    have hv : g = b:=hv
    subst hv
    unfold Blk at hb
    rw [hg] at hb
    injection hb with hb
    injection hb with _ h2
    exact hne h2
theorem own_new {w : World} {B gF ar : Nat} (hb : Blk w gF 147 [.int .i64 (ar : Int),.int .i64 0]) (hB : B ≤ gF) : OwnR 2 frV w B 147 (svV ⟨some ⟨gF,0,none⟩,1,1,[(ar,0)]⟩) [(ar,0)] :=
  OwnR.of_blk hb hB rfl (Nat.le_refl _) (show 1 ≤ maxLen by unfold maxLen;omega) rfl (by simp [cellsR,frV,List.range_succ])
theorem svR_new (gF ar : Nat) : [Value.slice (some ⟨gF,0,none⟩) 1 1] = (List.range 1).map (svR ⟨some ⟨gF,0,none⟩,1,1,[(ar,0)]⟩):=rfl
set_option maxRecDepth 100000 in
set_option maxHeartbeats 8000000 in
theorem rs_step_no (B : Nat) (p : Pg) (hf : Fine p) (q : Rc) (w : World) (hp : p.Ok w B) (hq : q.Ok w B) (hg : M.Good p q.cf) (hB : B ≤ w.heap.size) (t : Int) (ht : I64 t) (way : Bool) (hen : M.enabled p q.cf t = false) :
    Calls Try.prog 50 #[rcA q,pgA p,.agg #[.int .i64 t,.bool way]] w (StepR w q.cf):=by
  have HF:=kp hf;have HG:=kp hg
  have HPr:=kp hp;have HQ:=kp hq
  have hB2:=hB
  have h8 : q.len ≤ 8:=by rw [← hq.len];exact hg.most
  have HLow:=kp (qP hf hp.row.len hg hq);have HSl8:=kp (yO hg hq)
  have H16:=kp (show q.ow.length = 16 from hg.owns)
  have HQ18:=kp (l9 hg.owns)
  clear hf hg hp hq hB
  rw [q8,jL]
  unfold StepR
  go_enter Try.func50,Try.ntmps50
  go_wp2_with (first
    | ((with_reducible refine j6 rfl 63 (.tmp 0) rfl (rcC q) rfl ?_);intro g3 w1 hg3 hk1 hw1;have HK3a:=kp hk1;have HW1:=kp hw1;have hs1:=hw1.size;have hl3a:=hk1.lt;have HGa:=kp hg3;clear hk1 hw1 hg3)
    | ((with_reducible refine j6 rfl 46 (.tmp 1) rfl (pgC p) rfl ?_);intro g4 w2 hg4 hk2 hw2;have HK4b:=kp hk2;have HK3b:=kp (HK3a.out.below hw2 hl3a);have HW2:=kp (HW1.out.trans (hw2.mono hs1));have hs2:=HW2.out.size;have hl4b:=hk2.lt;have hl3b:=HK3b.out.lt;clear hk2 hw2 hg4)
    | ((with_reducible refine j6 rfl 56 (.tmp 2) rfl [.int .i64 t,.bool way] rfl ?_);intro g5 w3 hg5 hk3 hw3;have HK5c:=kp hk3;have HK4c:=kp (HK4b.out.below hw3 hl4b);have HK3c:=kp (HK3b.out.below hw3 hl3b);have HW3:=kp (HW2.out.trans (hw3.mono hs2));have hs3:=HW3.out.size;have hl5c:=hk3.lt;have hl4c:=HK4c.out.lt;have hl3c:=HK3c.out.lt;clear hk3 hw3 hg5)
    | ((with_reducible show Sl 6);go_must (refine j7 rfl 63 rfl _ lB ?_);intro gR w4 hgR hk4 hw4
       have HGR : Kept (w.heap.size ≤ gR):=kp (by omega)
       have HKR4:=kp hk4;have HK5:=kp (HK5c.out.below hw4 hl5c);have HK4:=kp (HK4c.out.below hw4 hl4c);have HK3:=kp (HK3c.out.below hw4 hl3c);have HW4:=kp (HW3.out.trans (hw4.mono hs3));have hs4:=HW4.out.size
       have hlR4:=hk4.lt;have hl5:=HK5.out.lt;have hl4:=HK4.out.lt;have hl3:=HK3.out.lt
       clear hk4 hw4 hgR HK3a HK3b HK3c HK4b HK4c HK5c HW1 HW2 HW3 hl3a hl3b hl3c hl4b hl4c hl5c hs1 hs2 hs3)
    | ((with_reducible show Sl 11);go_must (refine j4 rfl 63 (.tmp 3) rfl g3 rfl _ (rcC q) _ HK3.out Try.underlying63 rfl (by rw [HQ18.out];exact jA) ?_))
    | (go_at_call 73;go_must (refine (xM q w4 ((HQ.out.below (HW4.out.mono hB2)).more (by omega)) h8 H16.out HLow.out HSl8.out).mono ?_);rintro e w5 ⟨q1,rfl,hm5,hcf5,hlen5,how5,hsls5,hb5⟩
       have HM5:=kp hm5;have HCf5:=kp hcf5;have HLn5:=kp hlen5;have HOw5:=kp how5;have HSls5:=kp hsls5;have HB5:=kp hb5;have hs5:=hb5.size
       have HR18 : Kept ((rcC q1).length = 18):=kp (l9 (by rw [how5];exact H16.out))
       clear hm5 hcf5 hlen5 how5 hsls5 hb5)
    | ((with_reducible show Sl 7);go_must (refine j7 rfl 63 rfl _ lB ?_);intro gO w6 hgO hk6 hw6;have HKO6:=kp hk6;have HGO:=kp hgO;have HB6:=kp (HB5.out.trans (hw6.mono hs5));have HB56:=kp hw6;have hs6:=HB6.out.size;have hs56:=hw6.size;clear hk6 hw6 hgO)
    | ((with_reducible show Sn);(refine j5 rfl 63 (.tmp 7) (.tmp 12) rfl gO (rcC q1) rfl rfl _ _ HKO6.out (by rw [HR18.out];exact jA) (by rw [HR18.out];rfl) (lL _) ?_);intro w7 hk7 hg7 hs7'
       have HKO:=kp hk7;have hlO:=hk7.lt;have HB57:=kp (HB56.out.grown hg7 hs56 (fun k e => by cases e;have:=HGO.out;omega));have HB7:=kp (HB5.out.trans (HB57.out.mono hs5));have hs7:=HB7.out.size
       have HRB:=kp (HM5.out.rb HB57.out hk7 (by have:=HGO.out;omega) hlR4 hs5)
       have HM7:=kp (HM5.out.below HB57.out (Nat.le_refl _))
       have HW7:=kp (HW4.out.trans (HB7.out.mono hs4));have hsw7:=HW7.out.size
       have HK57:=kp (HK5.out.below HB7.out hl5);have HK47:=kp (HK4.out.below HB7.out hl4);have HK37:=kp (HK3.out.below HB7.out hl3);have HKR7:=kp (HKR4.out.below HB7.out hlR4)
       have hl57:=HK57.out.lt;have hl47:=HK47.out.lt;have hl37:=HK37.out.lt;have hlR7:=HKR7.out.lt
       have hc5:=HK57.out.cell 0
       simp only [List.getElem?_cons_zero] at hc5
       clear hk7 hg7 hs7' HKO6 HB6 HB56 hs6 hs56 HM5)
    | ((with_reducible show Sl 13);go_must (refine j4 rfl 63 (.tmp 3) rfl g3 rfl _ (rcC q) _ HK37.out Try.underlying63 rfl (by rw [HQ18.out];exact jA) ?_))
    | ((with_reducible show Sl 14);go_must (refine j4 rfl 46 (.tmp 4) rfl g4 rfl _ (pgC p) _ HK47.out Try.underlying46 rfl jF ?_))
    | (go_at_call 74;go_must (refine (qH B p HF.out q w7 (HPr.out.below (HW7.out.mono hB2)) (HQ.out.below (HW7.out.mono hB2)) HG.out (by omega) t ht false hen).mono ?_);rintro e w8 ⟨rfl,hb8⟩
       have HB8:=kp hb8;have hs8:=hb8.size
       have HW8:=kp (HW7.out.trans (hb8.mono hsw7));have hsw8:=HW8.out.size
       have HK58:=kp (HK57.out.below hb8 hl57);have HK48:=kp (HK47.out.below hb8 hl47);have HK38:=kp (HK37.out.below hb8 hl37);have HKR8:=kp (HKR7.out.below hb8 hlR7)
       have hl58:=HK58.out.lt;have hl48:=HK48.out.lt;have hl38:=HK38.out.lt;have hlR8:=HKR8.out.lt
       have HRB8:=kp (HRB.out.below hb8 (Nat.le_refl _));have HM8:=kp (HM7.out.below hb8 (Nat.le_refl _));have HKO8:=kp (HKO.out.below hb8 hlO)
       clear hb8 hc5
       have hc5:=HK58.out.cell 0
       simp only [List.getElem?_cons_zero] at hc5
       have HKRz:=HKR8;have HB58:=kp (HB7.out.trans (HB8.out.mono hs7));have hs58:=HB58.out.size)
    | ((with_reducible show Sl 19);go_must (refine j4 rfl 63 (.tmp 7) rfl gO rfl _ (rcC q1) _ HKO8.out Try.underlying63 rfl (by rw [HR18.out];exact jA) ?_))
    | ((with_reducible show Sn);(refine j5 rfl 63 (.tmp 6) (.tmp 19) rfl gR (rcC q1) rfl rfl _ _ HKRz.out (by rw [HR18.out];exact jA) (by rw [HR18.out];rfl) (lL _) ?_);intro wy hky hgy hsy
       have HKy:=kp hky;have HMy:=kp (HM8.out.far hgy (.inl hlR4));have HBy:=kp ((HW4.out.trans (HB58.out.mono hs4)).grown hgy (by omega) (fun k e => by cases e;have:=HGR.out;omega));clear hky hgy hsy)
    | ((with_reducible show bodyPost _ _ _ _ _ _);exact bodyPost_ret (jP (P:=Try.prog) (fn:=Try.f50) rfl _ _ gR 63 _ _ rfl HKy.out Try.underlying63 rfl (by rw [HR18.out];exact jA)) rfl ⟨_,rfl,HMy.out.lessR hs4,HCf5.out,HBy.out⟩))
set_option maxRecDepth 100000 in
set_option maxHeartbeats 8000000 in
theorem rs_step_go (B : Nat) (p : Pg) (hf : Fine p) (q : Rc) (w : World) (hp : p.Ok w B) (hq : q.Ok w B) (hg : M.Good p q.cf) (hB : B ≤ w.heap.size) (k : Nat) (way : Bool) (hlv : M.livesN q.cf k = true) (hen : M.enabled p q.cf (k : Int) = true) (x : Nd) (hx : M.node p q.cf k = x) (hk : x.kind ≠ 3 ∧ x.kind ≠ 4 ∧ x.kind ≠ 5 ∧ x.kind ≠ 7 ∧ x.kind ≠ 8 ∧ x.kind ≠ 9) :
    Calls Try.prog 50 #[rcA q,pgA p,.agg #[.int .i64 (k : Int),.bool way]] w (StepR w (M.act q.cf k x way)):=by
  obtain ⟨fn,hfn,_,_⟩:=M.node_is hg hlv
  have hfit:=M.node_fit hf hg hlv hfn
  rw [hx] at hfit
  obtain ⟨nx,hnx⟩ : ∃ nx : Nat,x.next = (nx : Int):=⟨x.next.toNat,by have:=hfit.next;omega⟩
  obtain ⟨ar,har⟩ : ∃ ar : Nat,x.arg = (ar : Int):=⟨x.arg.toNat,by have:=hfit.arg;omega⟩
  obtain ⟨al,hal⟩ : ∃ al : Nat,x.alt = (al : Int):=⟨x.alt.toNat,by have:=hfit.alt;omega⟩
  have HNx:=kp hnx;have HAr:=kp har;have HAl:=kp hal;have HFit:=kp hfit
  have hlv2:=hlv
  unfold M.livesN at hlv2
  rw [decide_eq_true_eq] at hlv2
  have HLv:=kp hlv;have HLv2:=kp hlv2;have HX:=kp hx;have HEn:=kp hen
  have hkl : k < q.len:=by rw [← hq.len];exact M.lives_lt hlv
  have HIk : Kept (I64 (k : Int)):=kp (by have h1:=hg.most;have h2:=hq.len;unfold I64;omega)
  clear hfn hfit hnx har hal hlv hlv2 hx hen
  have hb3 : (x.kind == 3) = false:=by rw [beq_eq_false_iff_ne];omega
  have hb4 : (x.kind == 4) = false:=by rw [beq_eq_false_iff_ne];omega
  have hb5 : (x.kind == 5) = false:=by rw [beq_eq_false_iff_ne];omega
  have hb7 : (x.kind == 7) = false:=by rw [beq_eq_false_iff_ne];omega
  have hb8 : (x.kind == 8) = false:=by rw [beq_eq_false_iff_ne];omega
  have hb9 : (x.kind == 9) = false:=by rw [beq_eq_false_iff_ne];omega
  have HF:=kp hf;have HG:=kp hg
  have HPr:=kp hp;have HQ:=kp hq
  have hB2:=hB
  have h8 : q.len ≤ 8:=by rw [← hq.len];exact hg.most
  have HLow:=kp (qP hf hp.row.len hg hq);have HSl8:=kp (yO hg hq)
  have H16:=kp (show q.ow.length = 16 from hg.owns)
  have HQ18:=kp (l9 hg.owns)
  clear hf hg hp hq hB
  rw [q8,jL]
  unfold StepR
  go_enter Try.func50,Try.ntmps50
  go_wp2_with (first
    | ((with_reducible refine j6 rfl 63 (.tmp 0) rfl (rcC q) rfl ?_);intro g3 w1 hg3 hk1 hw1;have HK3a:=kp hk1;have HW1:=kp hw1;have hs1:=hw1.size;have hl3a:=hk1.lt;have HGa:=kp hg3;clear hk1 hw1 hg3)
    | ((with_reducible refine j6 rfl 46 (.tmp 1) rfl (pgC p) rfl ?_);intro g4 w2 hg4 hk2 hw2;have HK4b:=kp hk2;have HK3b:=kp (HK3a.out.below hw2 hl3a);have HW2:=kp (HW1.out.trans (hw2.mono hs1));have hs2:=HW2.out.size;have hl4b:=hk2.lt;have hl3b:=HK3b.out.lt;clear hk2 hw2 hg4)
    | ((with_reducible refine j6 rfl 56 (.tmp 2) rfl [.int .i64 (k : Int),.bool way] rfl ?_);intro g5 w3 hg5 hk3 hw3;have HK5c:=kp hk3;have HK4c:=kp (HK4b.out.below hw3 hl4b);have HK3c:=kp (HK3b.out.below hw3 hl3b);have HW3:=kp (HW2.out.trans (hw3.mono hs2));have hs3:=HW3.out.size;have hl5c:=hk3.lt;have hl4c:=HK4c.out.lt;have hl3c:=HK3c.out.lt;clear hk3 hw3 hg5)
    | ((with_reducible show Sl 6);go_must (refine j7 rfl 63 rfl _ lB ?_);intro gR w4 hgR hk4 hw4
       have HGR : Kept (w.heap.size ≤ gR):=kp (by omega)
       have HKR4:=kp hk4;have HK5:=kp (HK5c.out.below hw4 hl5c);have HK4:=kp (HK4c.out.below hw4 hl4c);have HK3:=kp (HK3c.out.below hw4 hl3c);have HW4:=kp (HW3.out.trans (hw4.mono hs3));have hs4:=HW4.out.size
       have hlR4:=hk4.lt;have hl5:=HK5.out.lt;have hl4:=HK4.out.lt;have hl3:=HK3.out.lt
       clear hk4 hw4 hgR HK3a HK3b HK3c HK4b HK4c HK5c HW1 HW2 HW3 hl3a hl3b hl3c hl4b hl4c hl5c hs1 hs2 hs3)
    | ((with_reducible show Sl 11);go_must (refine j4 rfl 63 (.tmp 3) rfl g3 rfl _ (rcC q) _ HK3.out Try.underlying63 rfl (by rw [HQ18.out];exact jA) ?_))
    | (go_at_call 73;go_must (refine (xM q w4 ((HQ.out.below (HW4.out.mono hB2)).more (by omega)) h8 H16.out HLow.out HSl8.out).mono ?_);rintro e w5 ⟨q1,rfl,hm5,hcf5,hlen5,how5,hsls5,hb5⟩
       have HM5:=kp hm5;have HCf5:=kp hcf5;have HLn5:=kp hlen5;have HOw5:=kp how5;have HSls5:=kp hsls5;have HB5:=kp hb5;have hs5:=hb5.size
       have HR18 : Kept ((rcC q1).length = 18):=kp (l9 (by rw [how5];exact H16.out))
       clear hm5 hcf5 hlen5 how5 hsls5 hb5)
    | ((with_reducible show Sl 7);go_must (refine j7 rfl 63 rfl _ lB ?_);intro gO w6 hgO hk6 hw6;have HKO6:=kp hk6;have HGO:=kp hgO;have HB6:=kp (HB5.out.trans (hw6.mono hs5));have HB56:=kp hw6;have hs6:=HB6.out.size;have hs56:=hw6.size;clear hk6 hw6 hgO)
    | ((with_reducible show Sn);(refine j5 rfl 63 (.tmp 7) (.tmp 12) rfl gO (rcC q1) rfl rfl _ _ HKO6.out (by rw [HR18.out];exact jA) (by rw [HR18.out];rfl) (lL _) ?_);intro w7 hk7 hg7 hs7'
       have HKO:=kp hk7;have hlO:=hk7.lt;have HB57:=kp (HB56.out.grown hg7 hs56 (fun k e => by cases e;have:=HGO.out;omega));have HB7:=kp (HB5.out.trans (HB57.out.mono hs5));have hs7:=HB7.out.size
       have HRB:=kp (HM5.out.rb HB57.out hk7 (by have:=HGO.out;omega) hlR4 hs5)
       have HM7:=kp (HM5.out.below HB57.out (Nat.le_refl _))
       have HW7:=kp (HW4.out.trans (HB7.out.mono hs4));have hsw7:=HW7.out.size
       have HK57:=kp (HK5.out.below HB7.out hl5);have HK47:=kp (HK4.out.below HB7.out hl4);have HK37:=kp (HK3.out.below HB7.out hl3);have HKR7:=kp (HKR4.out.below HB7.out hlR4)
       have hl57:=HK57.out.lt;have hl47:=HK47.out.lt;have hl37:=HK37.out.lt;have hlR7:=HKR7.out.lt
       have hc5:=HK57.out.cell 0
       simp only [List.getElem?_cons_zero] at hc5
       clear hk7 hg7 hs7' HKO6 HB6 HB56 hs6 hs56 HM5)
    | ((with_reducible show Sl 13);go_must (refine j4 rfl 63 (.tmp 3) rfl g3 rfl _ (rcC q) _ HK37.out Try.underlying63 rfl (by rw [HQ18.out];exact jA) ?_))
    | ((with_reducible show Sl 14);go_must (refine j4 rfl 46 (.tmp 4) rfl g4 rfl _ (pgC p) _ HK47.out Try.underlying46 rfl jF ?_))
    | (go_at_call 74;go_must (refine (qH B p HF.out q w7 (HPr.out.below (HW7.out.mono hB2)) (HQ.out.below (HW7.out.mono hB2)) HG.out (by omega) (k : Int) HIk.out true HEn.out).mono ?_);rintro e w8 ⟨rfl,hb8⟩
       have HB8:=kp hb8;have hs8:=hb8.size
       have HW8:=kp (HW7.out.trans (hb8.mono hsw7));have hsw8:=HW8.out.size
       have HK58:=kp (HK57.out.below hb8 hl57);have HK48:=kp (HK47.out.below hb8 hl47);have HK38:=kp (HK37.out.below hb8 hl37);have HKR8:=kp (HKR7.out.below hb8 hlR7)
       have hl58:=HK58.out.lt;have hl48:=HK48.out.lt;have hl38:=HK38.out.lt;have hlR8:=HKR8.out.lt
       have HRB8:=kp (HRB.out.below hb8 (Nat.le_refl _));have HM8:=kp (HM7.out.below hb8 (Nat.le_refl _));have HKO8:=kp (HKO.out.below hb8 hlO)
       clear hb8 hc5
       have hc5:=HK58.out.cell 0
       simp only [List.getElem?_cons_zero] at hc5)
    | ((with_reducible show Sl 22);go_must (refine j4 rfl 63 (.tmp 3) rfl g3 rfl _ (rcC q) _ HK38.out Try.underlying63 rfl (by rw [HQ18.out];exact jA) ?_))
    | ((with_reducible show Sl 23);go_must (refine j4 rfl 46 (.tmp 4) rfl g4 rfl _ (pgC p) _ HK48.out Try.underlying46 rfl jF ?_))
    | (go_at_call 72;go_must (refine (xO B p HF.out q w8 (HPr.out.below (HW8.out.mono hB2)) (HQ.out.below (HW8.out.mono hB2)) HG.out (by omega) k HLv.out x HX.out).mono ?_);rintro e w9 ⟨rfl,hb9⟩;have HB9:=kp hb9;have hs9:=hb9.size;clear hb9 hc5)
    | ((with_reducible show Sl 9);go_must (refine j7 rfl 97 rfl _ qE ?_);intro gN w10 hgN hk10 hw10;have HKN10:=kp hk10;have HGN:=kp hgN;have HB10:=kp (HB9.out.trans (hw10.mono hs9));have hs10:=HB10.out.size;clear hk10 hw10 hgN)
    | ((with_reducible show Sn);(refine j5 rfl 97 (.tmp 9) (.tmp 25) rfl gN (ndC x) rfl rfl _ _ HKN10.out jO rfl (x6 x) ?_);intro w11 hk11 hg11 hs11'
       have HKN:=kp hk11;have hlN:=hk11.lt;have HB811:=kp (HB10.out.grown hg11 hs10 (fun k e => by cases e;have:=HGN.out;omega));have hs811:=HB811.out.size
       have HB11:=kp (HB7.out.trans ((HB8.out.trans (HB811.out.mono hs8)).mono hs7));have hs11:=HB11.out.size
       have HRB11:=kp (HRB8.out.below HB811.out (Nat.le_refl _));have HKR11:=kp (HKR8.out.below HB811.out hlR8);have HK511:=kp (HK58.out.below HB811.out hl58);have hl511:=HK511.out.lt
       have HG1:=kp (show M.Good p q1.cf by rw [HCf5.out];exact HG.out)
       have hlR11:=HKR11.out.lt
       obtain ⟨gA,cur,s,hA,hbA,hsk,hck,hAO,hAR,hBA,hkc,hnc,hcm,hsl,hsc,hsm⟩:=HRB11.out.thread (show k < q1.len by rw [HLn5.out];exact hkl)
       have hslk : ∃ sl,q1.sls[k]? = some sl:=⟨_,List.getElem?_eq_getElem (by rw [HRB11.out.len.2,HLn5.out];exact hkl)⟩
       obtain ⟨sl,hslk⟩:=hslk
       have hth : M.th q1.cf k = ⟨s.stack,sl⟩:=M.th_is (by unfold Rc.cf;rw [List.getElem?_zipWith,hsk,hslk])
       have hs0 : 0 < s.len:=by have h:=HLv2.out;rw [← HCf5.out,hth] at h;rw [← hsl];exact h
       have hlen16 : s.len ≤ 1000:=qP HF.out HPr.out.row.len HG1.out HM8.out.ok s (List.mem_of_getElem? hsk)
       obtain ⟨gK,curK,hsA,hbK,hlK,hKO,hKR,hBK,hgK,hput⟩:=HRB11.out.goes hsk hs0
       obtain ⟨sA,sn,sc,sst⟩:=s
       obtain ⟨mm,rfl⟩ : ∃ mm,sn = mm + 1:=⟨sn - 1,by have : 0 < sn:=hs0;omega⟩
       have hsA2 : sA = some ⟨gK,0,none⟩:=hsA
       subst hsA2
       have HA:=kp hA;have HbA:=kp hbA;have HSk:=kp hsk;have HCk:=kp hck;have HTh:=kp hth;have HbK:=kp hbK;have HPut:=kp hput;have HSlk:=kp hslk;have HSl:=kp hsl
       have HNeA:=kp (And.intro hAO (And.intro hAR hBA));have HNeK:=kp (And.intro hKO (And.intro hKR hBK));have HlK:=kp hlK;have Hkc:=kp hkc
       have hlA:=hbA.lt
       have hlen17 : mm + 1 ≤ 1000:=hlen16
       have hsc1 : mm + 1 ≤ sc:=hsc
       have hsm1 : sc ≤ maxLen:=hsm
       have HEO : Kept (q1.A = some ⟨gA,0,none⟩):=kp hA
       have hcO : w11.cell? ⟨gO,0,none⟩ = some (.slice (some ⟨gA,0,none⟩) q1.len q1.cap):=by have h:=HRB11.out.conf.cell 0;rw [hA] at h;exact h
       have hcA : w11.cell? ⟨gA,k,none⟩ = some (.slice (some ⟨gK,0,none⟩) (mm + 1) sc):=(hbA.cell k).trans hck
       have hcN:=HKN.out.cell 0
       simp only [ndC,List.getElem?_cons_zero] at hcN
       have hkl1 : k < q1.len:=by rw [HLn5.out];exact hkl
       have h81 : q1.len ≤ 8:=by rw [HLn5.out];exact h8
       unfold maxLen at hcm hsm1
       clear hk11 hg11 hs11' hA hbA hsk hck hth hslk hs0 hlen16 hsA hbK hput hAO hAR hBA hKO hKR hBK hsl hsc hsm hlK hkc HKN10 HB9 HB10 hs9 hs10))
  have hlO11:=HRB11.out.conf.lt
  apply jH 10 (.is _ :: .is _ :: .is _ :: .is _ :: .is _ :: .is _ :: .is _ :: .is _ :: .is _ :: .is _ :: [])
    [[],[(0,50)],[],[(1,51),(2,52)],[(3,53)],[],[],[(6,56)],[(4,54),(5,55)],[(8,58)],[(9,59),(7,57)]]
    [(0,50),(1,51),(2,52),(3,53),(4,54),(5,55),(6,56),(7,57),(8,58),(9,59)] (by kernel_rfl) (by kernel_rfl) (by kernel_rfl) (by kernel_rfl) (by kernel_rfl)
  case hob =>
    refine ⟨?o0,?o1,?o2,?o3,?o4,?o5,?o6,?o7,?o8,?o9,trivial⟩
    case o0 => intro W hW;change wpList _ _ _ _ _ _;go_wp2;exact j0 rfl rfl rfl
    case o1 =>
      intro W hW;rintro _ rfl;change wpList _ _ _ _ _ _
      have hc:=(HRB11.out.conf.below hW hlO11).cell 0
      rw [HEO.out] at hc
      have hc2 : W.cell? ⟨gO,0,none⟩ = some (.slice (some ⟨gA,0,none⟩) q1.len q1.cap):=hc
      clear hc
      go_wp2;exact j0 rfl rfl rfl
    case o2 => intro W hW;change wpList _ _ _ _ _ _;go_wp2;exact j0 rfl rfl rfl
    case o3 => intro W hW;rintro _ rfl;rintro _ rfl;change wpList _ _ _ _ _ _;go_wp2;exact j0 rfl rfl rfl
    case o4 =>
      intro W hW;rintro _ rfl;change wpList _ _ _ _ _ _
      have hc : W.cell? ⟨gA,k,none⟩ = some (.slice (some ⟨gK,0,none⟩) (mm + 1) sc):=((HbA.out.below hW hlA).cell k).trans HCk.out
      go_wp2;exact j0 rfl rfl rfl
    case o5 => intro W hW;change wpList _ _ _ _ _ _;go_wp2;exact j0 rfl rfl rfl
    case o6 => intro W hW;change wpList _ _ _ _ _ _;go_wp2;exact j0 rfl rfl rfl
    case o7 =>
      intro W hW;rintro _ rfl;change wpList _ _ _ _ _ _
      have hc:=(HKN.out.below hW hlN).cell 2
      simp only [ndC,List.getElem?_cons_zero,List.getElem?_cons_succ] at hc
      rw [HNx.out] at hc
      go_wp2;exact j0 rfl rfl rfl
    case o8 => intro W hW;rintro _ rfl;rintro _ rfl;change wpList _ _ _ _ _ _;go_wp2;exact j0 rfl rfl rfl
    case o9 => intro W hW;rintro _ rfl;change wpList _ _ _ _ _ _;go_wp2;exact j0 rfl rfl rfl
  case hend =>
    intro W hW;rintro _ rfl;rintro _ rfl;rintro _ rfl;rintro _ rfl;rintro _ rfl;rintro _ rfl;rintro _ rfl;rintro _ rfl;rintro _ rfl;rintro _ rfl
    simp only [given,jJ,List.set,List.drop]
    have HbKw:=kp (HbK.out.below hW hgK)
    have HBW:=kp (HB11.out.trans (hW.mono hs11));have hsW:=HBW.out.size;have hsWW:=hW.size
    have HWk:=kp hW
    have HKNw:=kp (HKN.out.below hW hlN);have HKRw:=kp (HKR11.out.below hW hlR11);have HK5w:=kp (HK511.out.below hW hl511)
    have HGK : Kept (w4.heap.size ≤ gK):=kp HNeK.out.2.2
    have hgN11 : gK ≠ gN:=fun e => by have h1:=HKN.out;have h2:=HbK.out;rw [e] at h2;exact jY h1 h2 (by decide)
    have hgR11 : gK ≠ gR:=HNeK.out.2.1
    have hg511 : gK ≠ g5:=fun e => by have h1:=HK511.out;have h2:=HbK.out;rw [e] at h2;exact jY h1 h2 (by decide)
    clear hW
    go_wp2_with (first
      | ((with_reducible show Sn);(refine j9 rfl 3 (.tmp 59) (.tmp 57) rfl gK (mm * 2 + 1) (.int .i64 (nx : Int)) rfl rfl rfl rfl _ _ HbKw.out (by have h:=HlK.out;simpa using h) lS ?_);intro w12 hk12 hg12 hs12
         have HRB12:=kp (HPut.out W w12 nx HWk.out (by simpa using hk12) hg12 (by omega))
         have HB12:=kp (HBW.out.grown hg12 hsW (fun k e => by cases e;exact HGK.out));have hs412:=HB12.out.size
         have HKN12:=kp (HKNw.out.grown hg12 (fun e => by cases e;exact hgN11 rfl));have HKR12:=kp (HKRw.out.grown hg12 (fun e => by cases e;exact hgR11 rfl));have HK512:=kp (HK5w.out.grown hg12 (fun e => by cases e;exact hg511 rfl))
         have HbK12:=kp hk12
         have hlN12:=HKN12.out.lt;have hlR12:=HKR12.out.lt;have hl512:=HK512.out.lt;have hlO12:=HRB12.out.conf.lt
         have hcN0:=HKN12.out.cell 0;have hcN1:=HKN12.out.cell 1;have hcN3:=HKN12.out.cell 3;have hc51:=HK512.out.cell 1
         simp only [ndC,List.getElem?_cons_zero,List.getElem?_cons_succ] at hcN0 hcN1 hcN3 hc51
         rw [HAr.out] at hcN1
         rw [HAl.out] at hcN3
         clear hk12 hg12 hs12
         have HKRz:=HKR12;have HKOz:=kp (show Blk w12 gO 63 (rcC ⟨q1.A,q1.cap,q1.svs.set k ⟨some ⟨gK,0,none⟩,mm + 1,sc,M.goOn sst nx⟩,q1.A2,q1.cap2,q1.sls,q1.len,q1.ow⟩) from HRB12.out.conf)
         have HMz:=kp (show RMine w12 w4.heap.size ⟨q1.A,q1.cap,q1.svs.set k ⟨some ⟨gK,0,none⟩,mm + 1,sc,M.goOn sst nx⟩,q1.A2,q1.cap2,q1.sls,q1.len,q1.ow⟩ from HRB12.out.mine)
         have HLz : Kept ((rcC ⟨q1.A,q1.cap,q1.svs.set k ⟨some ⟨gK,0,none⟩,mm + 1,sc,M.goOn sst nx⟩,q1.A2,q1.cap2,q1.sls,q1.len,q1.ow⟩).length = 18):=kp (l9 (by show q1.ow.length = 16;rw [HOw5.out];exact H16.out)))
      | ((with_reducible show Sl 141);go_must (refine j4 rfl 63 (.tmp 7) rfl gO rfl _ (rcC ⟨q1.A,q1.cap,q1.svs.set k ⟨some ⟨gK,0,none⟩,mm + 1,sc,M.goOn sst nx⟩,q1.A2,q1.cap2,q1.sls,q1.len,q1.ow⟩) _ HKOz.out Try.underlying63 rfl (by rw [HLz.out];exact jA) ?_))
      | ((with_reducible show Sn);(refine j5 rfl 63 (.tmp 6) (.tmp 141) rfl gR (rcC ⟨q1.A,q1.cap,q1.svs.set k ⟨some ⟨gK,0,none⟩,mm + 1,sc,M.goOn sst nx⟩,q1.A2,q1.cap2,q1.sls,q1.len,q1.ow⟩) rfl rfl _ _ HKRz.out (by rw [HLz.out];exact jA) (by rw [HLz.out];rfl) (lL _) ?_);intro wy hky hgy hsy
         have HKy:=kp hky;have HMy:=kp (HMz.out.far hgy (.inl hlR4));have HBy:=kp ((HW4.out.trans (HB12.out.mono hs4)).grown hgy (by omega) (fun k e => by cases e;have:=HGR.out;omega));clear hky hgy hsy)
      | ((with_reducible show bodyPost _ _ _ _ _ _);exact bodyPost_ret (jP (P:=Try.prog) (fn:=Try.f50) rfl _ _ gR 63 _ _ rfl HKy.out Try.underlying63 rfl (by rw [HLz.out];exact jA)) rfl ⟨_,rfl,HMy.out.lessR hs4,(by
            refine (vR (yX HSlk.out)).trans ?_
            have e : q.cf = ⟨List.zipWith (fun (s : Sv) l => (⟨s.stack,l⟩ : M.Th)) q1.svs q1.sls,q1.ow⟩:=HCf5.out.symm
            rw [act_go hk.1 hk.2.1 hk.2.2.1 hk.2.2.2.1 (fun h => hk.2.2.2.2.1 h.1) hk.2.2.2.2.2,← HCf5.out,HTh.out,HNx.out,Int.toNat_natCast]
            first | rfl | (rw [← HCf5.out];rfl)),HBy.out⟩))
set_option maxRecDepth 100000 in
set_option maxHeartbeats 8000000 in
theorem rs_step_3 (B : Nat) (p : Pg) (hf : Fine p) (q : Rc) (w : World) (hp : p.Ok w B) (hq : q.Ok w B) (hg : M.Good p q.cf) (hB : B ≤ w.heap.size) (k : Nat) (way : Bool) (hlv : M.livesN q.cf k = true) (hen : M.enabled p q.cf (k : Int) = true) (x : Nd) (hx : M.node p q.cf k = x) (hk : x.kind = 3) :
    Calls Try.prog 50 #[rcA q,pgA p,.agg #[.int .i64 (k : Int),.bool way]] w (StepR w (M.act q.cf k x way)):=by
  obtain ⟨fn,hfn,_,_⟩:=M.node_is hg hlv
  have hfit:=M.node_fit hf hg hlv hfn
  rw [hx] at hfit
  obtain ⟨nx,hnx⟩ : ∃ nx : Nat,x.next = (nx : Int):=⟨x.next.toNat,by have:=hfit.next;omega⟩
  obtain ⟨ar,har⟩ : ∃ ar : Nat,x.arg = (ar : Int):=⟨x.arg.toNat,by have:=hfit.arg;omega⟩
  obtain ⟨al,hal⟩ : ∃ al : Nat,x.alt = (al : Int):=⟨x.alt.toNat,by have:=hfit.alt;omega⟩
  have HNx:=kp hnx;have HAr:=kp har;have HAl:=kp hal;have HFit:=kp hfit
  have hlv2:=hlv
  unfold M.livesN at hlv2
  rw [decide_eq_true_eq] at hlv2
  have HLv:=kp hlv;have HLv2:=kp hlv2;have HX:=kp hx;have HEn:=kp hen
  have hkl : k < q.len:=by rw [← hq.len];exact M.lives_lt hlv
  have HIk : Kept (I64 (k : Int)):=kp (by have h1:=hg.most;have h2:=hq.len;unfold I64;omega)
  clear hfn hfit hnx har hal hlv hlv2 hx hen
  have hb3 : (x.kind == 3) = true:=by rw [beq_iff_eq];exact hk
  have hb4 : (x.kind == 4) = false:=by rw [beq_eq_false_iff_ne];omega
  have hb5 : (x.kind == 5) = false:=by rw [beq_eq_false_iff_ne];omega
  have hb7 : (x.kind == 7) = false:=by rw [beq_eq_false_iff_ne];omega
  have hb8 : (x.kind == 8) = false:=by rw [beq_eq_false_iff_ne];omega
  have hb9 : (x.kind == 9) = false:=by rw [beq_eq_false_iff_ne];omega
  have HF:=kp hf;have HG:=kp hg
  have HPr:=kp hp;have HQ:=kp hq
  have hB2:=hB
  have h8 : q.len ≤ 8:=by rw [← hq.len];exact hg.most
  have HLow:=kp (qP hf hp.row.len hg hq);have HSl8:=kp (yO hg hq)
  have H16:=kp (show q.ow.length = 16 from hg.owns)
  have HQ18:=kp (l9 hg.owns)
  clear hf hg hp hq hB
  rw [q8,jL]
  unfold StepR
  go_enter Try.func50,Try.ntmps50
  go_wp2_with (first
    | ((with_reducible refine j6 rfl 63 (.tmp 0) rfl (rcC q) rfl ?_);intro g3 w1 hg3 hk1 hw1;have HK3a:=kp hk1;have HW1:=kp hw1;have hs1:=hw1.size;have hl3a:=hk1.lt;have HGa:=kp hg3;clear hk1 hw1 hg3)
    | ((with_reducible refine j6 rfl 46 (.tmp 1) rfl (pgC p) rfl ?_);intro g4 w2 hg4 hk2 hw2;have HK4b:=kp hk2;have HK3b:=kp (HK3a.out.below hw2 hl3a);have HW2:=kp (HW1.out.trans (hw2.mono hs1));have hs2:=HW2.out.size;have hl4b:=hk2.lt;have hl3b:=HK3b.out.lt;clear hk2 hw2 hg4)
    | ((with_reducible refine j6 rfl 56 (.tmp 2) rfl [.int .i64 (k : Int),.bool way] rfl ?_);intro g5 w3 hg5 hk3 hw3;have HK5c:=kp hk3;have HK4c:=kp (HK4b.out.below hw3 hl4b);have HK3c:=kp (HK3b.out.below hw3 hl3b);have HW3:=kp (HW2.out.trans (hw3.mono hs2));have hs3:=HW3.out.size;have hl5c:=hk3.lt;have hl4c:=HK4c.out.lt;have hl3c:=HK3c.out.lt;clear hk3 hw3 hg5)
    | ((with_reducible show Sl 6);go_must (refine j7 rfl 63 rfl _ lB ?_);intro gR w4 hgR hk4 hw4
       have HGR : Kept (w.heap.size ≤ gR):=kp (by omega)
       have HKR4:=kp hk4;have HK5:=kp (HK5c.out.below hw4 hl5c);have HK4:=kp (HK4c.out.below hw4 hl4c);have HK3:=kp (HK3c.out.below hw4 hl3c);have HW4:=kp (HW3.out.trans (hw4.mono hs3));have hs4:=HW4.out.size
       have hlR4:=hk4.lt;have hl5:=HK5.out.lt;have hl4:=HK4.out.lt;have hl3:=HK3.out.lt
       clear hk4 hw4 hgR HK3a HK3b HK3c HK4b HK4c HK5c HW1 HW2 HW3 hl3a hl3b hl3c hl4b hl4c hl5c hs1 hs2 hs3)
    | ((with_reducible show Sl 11);go_must (refine j4 rfl 63 (.tmp 3) rfl g3 rfl _ (rcC q) _ HK3.out Try.underlying63 rfl (by rw [HQ18.out];exact jA) ?_))
    | (go_at_call 73;go_must (refine (xM q w4 ((HQ.out.below (HW4.out.mono hB2)).more (by omega)) h8 H16.out HLow.out HSl8.out).mono ?_);rintro e w5 ⟨q1,rfl,hm5,hcf5,hlen5,how5,hsls5,hb5⟩
       have HM5:=kp hm5;have HCf5:=kp hcf5;have HLn5:=kp hlen5;have HOw5:=kp how5;have HSls5:=kp hsls5;have HB5:=kp hb5;have hs5:=hb5.size
       have HR18 : Kept ((rcC q1).length = 18):=kp (l9 (by rw [how5];exact H16.out))
       clear hm5 hcf5 hlen5 how5 hsls5 hb5)
    | ((with_reducible show Sl 7);go_must (refine j7 rfl 63 rfl _ lB ?_);intro gO w6 hgO hk6 hw6;have HKO6:=kp hk6;have HGO:=kp hgO;have HB6:=kp (HB5.out.trans (hw6.mono hs5));have HB56:=kp hw6;have hs6:=HB6.out.size;have hs56:=hw6.size;clear hk6 hw6 hgO)
    | ((with_reducible show Sn);(refine j5 rfl 63 (.tmp 7) (.tmp 12) rfl gO (rcC q1) rfl rfl _ _ HKO6.out (by rw [HR18.out];exact jA) (by rw [HR18.out];rfl) (lL _) ?_);intro w7 hk7 hg7 hs7'
       have HKO:=kp hk7;have hlO:=hk7.lt;have HB57:=kp (HB56.out.grown hg7 hs56 (fun k e => by cases e;have:=HGO.out;omega));have HB7:=kp (HB5.out.trans (HB57.out.mono hs5));have hs7:=HB7.out.size
       have HRB:=kp (HM5.out.rb HB57.out hk7 (by have:=HGO.out;omega) hlR4 hs5)
       have HM7:=kp (HM5.out.below HB57.out (Nat.le_refl _))
       have HW7:=kp (HW4.out.trans (HB7.out.mono hs4));have hsw7:=HW7.out.size
       have HK57:=kp (HK5.out.below HB7.out hl5);have HK47:=kp (HK4.out.below HB7.out hl4);have HK37:=kp (HK3.out.below HB7.out hl3);have HKR7:=kp (HKR4.out.below HB7.out hlR4)
       have hl57:=HK57.out.lt;have hl47:=HK47.out.lt;have hl37:=HK37.out.lt;have hlR7:=HKR7.out.lt
       have hc5:=HK57.out.cell 0
       simp only [List.getElem?_cons_zero] at hc5
       clear hk7 hg7 hs7' HKO6 HB6 HB56 hs6 hs56 HM5)
    | ((with_reducible show Sl 13);go_must (refine j4 rfl 63 (.tmp 3) rfl g3 rfl _ (rcC q) _ HK37.out Try.underlying63 rfl (by rw [HQ18.out];exact jA) ?_))
    | ((with_reducible show Sl 14);go_must (refine j4 rfl 46 (.tmp 4) rfl g4 rfl _ (pgC p) _ HK47.out Try.underlying46 rfl jF ?_))
    | (go_at_call 74;go_must (refine (qH B p HF.out q w7 (HPr.out.below (HW7.out.mono hB2)) (HQ.out.below (HW7.out.mono hB2)) HG.out (by omega) (k : Int) HIk.out true HEn.out).mono ?_);rintro e w8 ⟨rfl,hb8⟩
       have HB8:=kp hb8;have hs8:=hb8.size
       have HW8:=kp (HW7.out.trans (hb8.mono hsw7));have hsw8:=HW8.out.size
       have HK58:=kp (HK57.out.below hb8 hl57);have HK48:=kp (HK47.out.below hb8 hl47);have HK38:=kp (HK37.out.below hb8 hl37);have HKR8:=kp (HKR7.out.below hb8 hlR7)
       have hl58:=HK58.out.lt;have hl48:=HK48.out.lt;have hl38:=HK38.out.lt;have hlR8:=HKR8.out.lt
       have HRB8:=kp (HRB.out.below hb8 (Nat.le_refl _));have HM8:=kp (HM7.out.below hb8 (Nat.le_refl _));have HKO8:=kp (HKO.out.below hb8 hlO)
       clear hb8 hc5
       have hc5:=HK58.out.cell 0
       simp only [List.getElem?_cons_zero] at hc5)
    | ((with_reducible show Sl 22);go_must (refine j4 rfl 63 (.tmp 3) rfl g3 rfl _ (rcC q) _ HK38.out Try.underlying63 rfl (by rw [HQ18.out];exact jA) ?_))
    | ((with_reducible show Sl 23);go_must (refine j4 rfl 46 (.tmp 4) rfl g4 rfl _ (pgC p) _ HK48.out Try.underlying46 rfl jF ?_))
    | (go_at_call 72;go_must (refine (xO B p HF.out q w8 (HPr.out.below (HW8.out.mono hB2)) (HQ.out.below (HW8.out.mono hB2)) HG.out (by omega) k HLv.out x HX.out).mono ?_);rintro e w9 ⟨rfl,hb9⟩;have HB9:=kp hb9;have hs9:=hb9.size;clear hb9 hc5)
    | ((with_reducible show Sl 9);go_must (refine j7 rfl 97 rfl _ qE ?_);intro gN w10 hgN hk10 hw10;have HKN10:=kp hk10;have HGN:=kp hgN;have HB10:=kp (HB9.out.trans (hw10.mono hs9));have hs10:=HB10.out.size;clear hk10 hw10 hgN)
    | ((with_reducible show Sn);(refine j5 rfl 97 (.tmp 9) (.tmp 25) rfl gN (ndC x) rfl rfl _ _ HKN10.out jO rfl (x6 x) ?_);intro w11 hk11 hg11 hs11'
       have HKN:=kp hk11;have hlN:=hk11.lt;have HB811:=kp (HB10.out.grown hg11 hs10 (fun k e => by cases e;have:=HGN.out;omega));have hs811:=HB811.out.size
       have HB11:=kp (HB7.out.trans ((HB8.out.trans (HB811.out.mono hs8)).mono hs7));have hs11:=HB11.out.size
       have HRB11:=kp (HRB8.out.below HB811.out (Nat.le_refl _));have HKR11:=kp (HKR8.out.below HB811.out hlR8);have HK511:=kp (HK58.out.below HB811.out hl58);have hl511:=HK511.out.lt
       have HG1:=kp (show M.Good p q1.cf by rw [HCf5.out];exact HG.out)
       have hlR11:=HKR11.out.lt
       obtain ⟨gA,cur,s,hA,hbA,hsk,hck,hAO,hAR,hBA,hkc,hnc,hcm,hsl,hsc,hsm⟩:=HRB11.out.thread (show k < q1.len by rw [HLn5.out];exact hkl)
       have hslk : ∃ sl,q1.sls[k]? = some sl:=⟨_,List.getElem?_eq_getElem (by rw [HRB11.out.len.2,HLn5.out];exact hkl)⟩
       obtain ⟨sl,hslk⟩:=hslk
       have hth : M.th q1.cf k = ⟨s.stack,sl⟩:=M.th_is (by unfold Rc.cf;rw [List.getElem?_zipWith,hsk,hslk])
       have hs0 : 0 < s.len:=by have h:=HLv2.out;rw [← HCf5.out,hth] at h;rw [← hsl];exact h
       have hlen16 : s.len ≤ 1000:=qP HF.out HPr.out.row.len HG1.out HM8.out.ok s (List.mem_of_getElem? hsk)
       obtain ⟨gK,curK,hsA,hbK,hlK,hKO,hKR,hBK,hgK,hput⟩:=HRB11.out.goes hsk hs0
       obtain ⟨sA,sn,sc,sst⟩:=s
       obtain ⟨mm,rfl⟩ : ∃ mm,sn = mm + 1:=⟨sn - 1,by have : 0 < sn:=hs0;omega⟩
       have hsA2 : sA = some ⟨gK,0,none⟩:=hsA
       subst hsA2
       have HA:=kp hA;have HbA:=kp hbA;have HSk:=kp hsk;have HCk:=kp hck;have HTh:=kp hth;have HbK:=kp hbK;have HPut:=kp hput;have HSlk:=kp hslk;have HSl:=kp hsl
       have HNeA:=kp (And.intro hAO (And.intro hAR hBA));have HNeK:=kp (And.intro hKO (And.intro hKR hBK));have HlK:=kp hlK;have Hkc:=kp hkc
       have hlA:=hbA.lt
       have hlen17 : mm + 1 ≤ 1000:=hlen16
       have hsc1 : mm + 1 ≤ sc:=hsc
       have hsm1 : sc ≤ maxLen:=hsm
       have HEO : Kept (q1.A = some ⟨gA,0,none⟩):=kp hA
       have hcO : w11.cell? ⟨gO,0,none⟩ = some (.slice (some ⟨gA,0,none⟩) q1.len q1.cap):=by have h:=HRB11.out.conf.cell 0;rw [hA] at h;exact h
       have hcA : w11.cell? ⟨gA,k,none⟩ = some (.slice (some ⟨gK,0,none⟩) (mm + 1) sc):=(hbA.cell k).trans hck
       have hcN:=HKN.out.cell 0
       simp only [ndC,List.getElem?_cons_zero] at hcN
       have hkl1 : k < q1.len:=by rw [HLn5.out];exact hkl
       have h81 : q1.len ≤ 8:=by rw [HLn5.out];exact h8
       unfold maxLen at hcm hsm1
       clear hk11 hg11 hs11' hA hbA hsk hck hth hslk hs0 hlen16 hsA hbK hput hAO hAR hBA hKO hKR hBK hsl hsc hsm hlK hkc HKN10 HB9 HB10 hs9 hs10))
  have hlO11:=HRB11.out.conf.lt
  have HNeRO : Kept (gR ≠ gO):=kp (by have h1:=HGO.out;have h2:=hlR4;omega)
  apply jH 10 (.is _ :: .is _ :: .is _ :: .is _ :: .is _ :: .is _ :: .is _ :: .is _ :: .is _ :: .is _ :: [])
    [[],[(0,50)],[],[(1,51),(2,52)],[(3,53)],[],[],[(6,56)],[(4,54),(5,55)],[(8,58)],[(9,59),(7,57)]]
    [(0,50),(1,51),(2,52),(3,53),(4,54),(5,55),(6,56),(7,57),(8,58),(9,59)] (by kernel_rfl) (by kernel_rfl) (by kernel_rfl) (by kernel_rfl) (by kernel_rfl)
  case hob =>
    refine ⟨?o0,?o1,?o2,?o3,?o4,?o5,?o6,?o7,?o8,?o9,trivial⟩
    case o0 => intro W hW;change wpList _ _ _ _ _ _;go_wp2;exact j0 rfl rfl rfl
    case o1 =>
      intro W hW;rintro _ rfl;change wpList _ _ _ _ _ _
      have hc:=(HRB11.out.conf.below hW hlO11).cell 0
      rw [HEO.out] at hc
      have hc2 : W.cell? ⟨gO,0,none⟩ = some (.slice (some ⟨gA,0,none⟩) q1.len q1.cap):=hc
      clear hc
      go_wp2;exact j0 rfl rfl rfl
    case o2 => intro W hW;change wpList _ _ _ _ _ _;go_wp2;exact j0 rfl rfl rfl
    case o3 => intro W hW;rintro _ rfl;rintro _ rfl;change wpList _ _ _ _ _ _;go_wp2;exact j0 rfl rfl rfl
    case o4 =>
      intro W hW;rintro _ rfl;change wpList _ _ _ _ _ _
      have hc : W.cell? ⟨gA,k,none⟩ = some (.slice (some ⟨gK,0,none⟩) (mm + 1) sc):=((HbA.out.below hW hlA).cell k).trans HCk.out
      go_wp2;exact j0 rfl rfl rfl
    case o5 => intro W hW;change wpList _ _ _ _ _ _;go_wp2;exact j0 rfl rfl rfl
    case o6 => intro W hW;change wpList _ _ _ _ _ _;go_wp2;exact j0 rfl rfl rfl
    case o7 =>
      intro W hW;rintro _ rfl;change wpList _ _ _ _ _ _
      have hc:=(HKN.out.below hW hlN).cell 2
      simp only [ndC,List.getElem?_cons_zero,List.getElem?_cons_succ] at hc
      rw [HNx.out] at hc
      go_wp2;exact j0 rfl rfl rfl
    case o8 => intro W hW;rintro _ rfl;rintro _ rfl;change wpList _ _ _ _ _ _;go_wp2;exact j0 rfl rfl rfl
    case o9 => intro W hW;rintro _ rfl;change wpList _ _ _ _ _ _;go_wp2;exact j0 rfl rfl rfl
  case hend =>
    intro W hW;rintro _ rfl;rintro _ rfl;rintro _ rfl;rintro _ rfl;rintro _ rfl;rintro _ rfl;rintro _ rfl;rintro _ rfl;rintro _ rfl;rintro _ rfl
    simp only [given,jJ,List.set,List.drop]
    have HbKw:=kp (HbK.out.below hW hgK)
    have HBW:=kp (HB11.out.trans (hW.mono hs11));have hsW:=HBW.out.size;have hsWW:=hW.size
    have HWk:=kp hW
    have HKNw:=kp (HKN.out.below hW hlN);have HKRw:=kp (HKR11.out.below hW hlR11);have HK5w:=kp (HK511.out.below hW hl511)
    have HGK : Kept (w4.heap.size ≤ gK):=kp HNeK.out.2.2
    have hgN11 : gK ≠ gN:=fun e => by have h1:=HKN.out;have h2:=HbK.out;rw [e] at h2;exact jY h1 h2 (by decide)
    have hgR11 : gK ≠ gR:=HNeK.out.2.1
    have hg511 : gK ≠ g5:=fun e => by have h1:=HK511.out;have h2:=HbK.out;rw [e] at h2;exact jY h1 h2 (by decide)
    clear hW
    go_wp2_with (first
      | ((with_reducible show Sn);(refine j9 rfl 3 (.tmp 59) (.tmp 57) rfl gK (mm * 2 + 1) (.int .i64 (nx : Int)) rfl rfl rfl rfl _ _ HbKw.out (by have h:=HlK.out;simpa using h) lS ?_);intro w12 hk12 hg12 hs12
         have HRB12:=kp (HPut.out W w12 nx HWk.out (by simpa using hk12) hg12 (by omega))
         have HB12:=kp (HBW.out.grown hg12 hsW (fun k e => by cases e;exact HGK.out));have hs412:=HB12.out.size
         have HKN12:=kp (HKNw.out.grown hg12 (fun e => by cases e;exact hgN11 rfl));have HKR12:=kp (HKRw.out.grown hg12 (fun e => by cases e;exact hgR11 rfl));have HK512:=kp (HK5w.out.grown hg12 (fun e => by cases e;exact hg511 rfl))
         have HbK12:=kp hk12
         have hlN12:=HKN12.out.lt;have hlR12:=HKR12.out.lt;have hl512:=HK512.out.lt;have hlO12:=HRB12.out.conf.lt
         have hcN0:=HKN12.out.cell 0;have hcN1:=HKN12.out.cell 1;have hcN3:=HKN12.out.cell 3;have hc51:=HK512.out.cell 1
         simp only [ndC,List.getElem?_cons_zero,List.getElem?_cons_succ] at hcN0 hcN1 hcN3 hc51
         rw [HAr.out] at hcN1
         rw [HAl.out] at hcN3
         clear hk12 hg12 hs12
         have har16 : ar < 16:=by have h:=HFit.out.lock (.inl hk);rw [HAr.out] at h;omega)
      | ((with_reducible show Sn);(refine j9 rfl 3 (.tmp 69) (.tmp 67) rfl gO (2 + ar) (.int .i64 ((k + 1 : Nat) : Int)) rfl rfl rfl rfl _ _ HRB12.out.conf (by simp only [List.length_cons,List.length_map];rw [HOw5.out,H16.out];omega) lS ?_);intro w13 hk13 hg13 hs13
         have HRB13:=kp (HRB12.out.owns hk13 hg13 (by omega));have HB13:=kp (HB12.out.grown hg13 hs412 (fun k e => by cases e;exact HRB12.out.low.1));have hs413:=HB13.out.size
         have HKR13:=kp (HKR12.out.grown hg13 (fun e => by cases e;exact HNeRO.out rfl))
         clear hk13 hg13 hs13
         have HKRz:=HKR13;have HKOz:=kp (show Blk w13 gO 63 (rcC ⟨q1.A,q1.cap,q1.svs.set k ⟨some ⟨gK,0,none⟩,mm + 1,sc,M.goOn sst nx⟩,q1.A2,q1.cap2,q1.sls,q1.len,q1.ow.set ar (k + 1)⟩) from HRB13.out.conf)
         have HMz:=kp (show RMine w13 w4.heap.size ⟨q1.A,q1.cap,q1.svs.set k ⟨some ⟨gK,0,none⟩,mm + 1,sc,M.goOn sst nx⟩,q1.A2,q1.cap2,q1.sls,q1.len,q1.ow.set ar (k + 1)⟩ from HRB13.out.mine)
         have HLz : Kept ((rcC ⟨q1.A,q1.cap,q1.svs.set k ⟨some ⟨gK,0,none⟩,mm + 1,sc,M.goOn sst nx⟩,q1.A2,q1.cap2,q1.sls,q1.len,q1.ow.set ar (k + 1)⟩).length = 18):=kp (l9 (by show (q1.ow.set ar (k + 1)).length = 16;(first | rw [List.length_set,HOw5.out] | rw [HOw5.out]);exact H16.out)))
      | ((with_reducible show Sl 141);go_must (refine j4 rfl 63 (.tmp 7) rfl gO rfl _ (rcC ⟨q1.A,q1.cap,q1.svs.set k ⟨some ⟨gK,0,none⟩,mm + 1,sc,M.goOn sst nx⟩,q1.A2,q1.cap2,q1.sls,q1.len,q1.ow.set ar (k + 1)⟩) _ HKOz.out Try.underlying63 rfl (by rw [HLz.out];exact jA) ?_))
      | ((with_reducible show Sn);(refine j5 rfl 63 (.tmp 6) (.tmp 141) rfl gR (rcC ⟨q1.A,q1.cap,q1.svs.set k ⟨some ⟨gK,0,none⟩,mm + 1,sc,M.goOn sst nx⟩,q1.A2,q1.cap2,q1.sls,q1.len,q1.ow.set ar (k + 1)⟩) rfl rfl _ _ HKRz.out (by rw [HLz.out];exact jA) (by rw [HLz.out];rfl) (lL _) ?_);intro wy hky hgy hsy
         have HKy:=kp hky;have HMy:=kp (HMz.out.far hgy (.inl hlR4));have HBy:=kp ((HW4.out.trans (HB13.out.mono hs4)).grown hgy (by omega) (fun k e => by cases e;have:=HGR.out;omega));clear hky hgy hsy)
      | ((with_reducible show bodyPost _ _ _ _ _ _);exact bodyPost_ret (jP (P:=Try.prog) (fn:=Try.f50) rfl _ _ gR 63 _ _ rfl HKy.out Try.underlying63 rfl (by rw [HLz.out];exact jA)) rfl ⟨_,rfl,HMy.out.lessR hs4,(by
            refine (vR (yX HSlk.out)).trans ?_
            have e : q.cf = ⟨List.zipWith (fun (s : Sv) l => (⟨s.stack,l⟩ : M.Th)) q1.svs q1.sls,q1.ow⟩:=HCf5.out.symm
            rw [act_3 hk,← HCf5.out,HTh.out,HNx.out,HAr.out,Int.toNat_natCast,Int.toNat_natCast]
            first | rfl | (rw [← HCf5.out];rfl)),HBy.out⟩))
end Go.Proofs.Ytcbfghcdbmlneaa
