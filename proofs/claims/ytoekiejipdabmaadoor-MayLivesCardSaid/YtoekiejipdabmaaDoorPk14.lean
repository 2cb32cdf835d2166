/- SemPush, SemPa, SemP3, SemP5. -/
import Derived.Test.YtoekiejipdabmaaDoorPk13
import Derived.Test.YtoekiejipdabmaaDoorPk6
import Derived.Test.YtoekiejipdabmaaDoorPk11
import Derived.Test.YtoekiejipdabmaaDoorPk3
import Derived.Test.YtoekiejipdabmaaDoorProgRef5
namespace Go.Proofs.YtoekiejipdabmaaDoor
open Go.RowKit
section
variable {P : Program} {ops : Array Oper} {rest : List Oper} {o : Oper} {a : Act} {w : World} {Q : Exit → Act → World → Prop} {α : Type}
theorem qF (hgd : o.guard = none) (s x : Operand) (t : TypeId)
    (ho : o.op = .call { callee:=.builtin .append,args:=#[s,x],argTypes:=#[t,t] })
    (B : Nat) (e : TypeId) (sz : Nat) (z : Value) (bytes : Nat) (ht : P.underlying t = some (.slice e)) (hi : (P.info? e).map (fun i => (i.zero,i.size,i.bytes)) = some (some z,sz,bytes)) (hzs : z.cells.size = sz) (hsz : 0 < sz)
    (f : α → Nat → Value) (hone : ∀ x j,(f x j).oneCell' = true)
    (q cap n : Nat) (l : List α) (hn : l.length = n) (u : α) (hs : a.eval s = .slice (some ⟨q,0,none⟩) n cap) (hown : OwnR sz f w B e (.slice (some ⟨q,0,none⟩) n cap) l) (hroom : n + 1 ≤ cap)
    (gn c : Nat) (hx : a.eval x = .slice (some ⟨gn,0,none⟩) 1 c) (hbk : Blk w gn e ((List.range sz).map (f u))) (hbytes : (n + 1) * bytes ≤ 140737488355328)
    (h : ∀ w',OwnR sz f w' B e (.slice (some ⟨q,0,none⟩) (n + 1) cap) (l ++ [u]) → w.grownBy w' (some q) → wpList P ops Q rest (a.put o.dst (.slice (some ⟨q,0,none⟩) (n + 1) cap)) w') : wpList P ops Q (o :: rest) a w:=by
  subst hn
  exact yR hgd s x t ho B e sz z bytes ht hi hzs hsz f hone q cap l u hs hown hroom gn c hx hbk hbytes h
theorem qG (hgd : o.guard = none) (s x : Operand) (t : TypeId)
    (ho : o.op = .call { callee:=.builtin .append,args:=#[s,x],argTypes:=#[t,t] })
    (B : Nat) (e : TypeId) (sz : Nat) (z : Value) (bytes : Nat) (ht : P.underlying t = some (.slice e)) (hi : (P.info? e).map (fun i => (i.zero,i.size,i.bytes)) = some (some z,sz,bytes)) (hzs : z.cells.size = sz) (hsz : 0 < sz)
    (f : α → Nat → Value) (hone : ∀ x j,(f x j).oneCell' = true)
    (q cap n : Nat) (l : List α) (hn : l.length = n) (u : α) (hs : a.eval s = .slice (some ⟨q,0,none⟩) n cap) (hown : OwnR sz f w B e (.slice (some ⟨q,0,none⟩) n cap) l) (hfull : cap = n)
    (gn c : Nat) (hx : a.eval x = .slice (some ⟨gn,0,none⟩) 1 c) (hbk : Blk w gn e ((List.range sz).map (f u))) (h63 : n + 1 ≤ maxLen) (hbytes : (n + 1) * bytes ≤ 140737488355328) (hB : B ≤ w.heap.size)
    (h : ∀ g c' w',OwnR sz f w' B e (.slice (some ⟨g,0,none⟩) (n + 1) c') (l ++ [u]) → Below w.heap.size w w' → w.heap.size ≤ g → wpList P ops Q rest (a.put o.dst (.slice (some ⟨g,0,none⟩) (n + 1) c')) w') : wpList P ops Q (o :: rest) a w:=by
  subst hn
  subst hfull
  refine yS hgd s x t ho B e sz z bytes ht hi hzs hsz f hone _ l u hs hown (.inr ⟨q,rfl⟩) gn c hx hbk h63 hbytes hB fun v' w' h1 h2 h3 => ?_
  obtain ⟨A',c',rfl,_⟩:=h1.form
  rw [List.length_append,List.length_singleton] at h1 h3 ⊢
  cases A' with
  | none => cases h3
  | some ad =>
    have e1 : ad.block = w.heap.size:=by injection h3
    obtain ⟨g,cur,hA,_⟩:=h1.blk (by omega)
    injection hA with hA
    subst hA
    exact h g c' w' h1 h2 (by rw [← e1];exact Nat.le_refl _)
end
def GFact.elem (G : Nat → Prop) (e : TypeId) (cs : List Value) (K : Nat) : GFact G :=
  ⟨fun v W => ∃ gn,v = .slice (some ⟨gn,0,none⟩) 1 1 ∧ Blk W gn e cs ∧ ¬ G gn ∧ K ≤ gn,fun _ _ _ ho ⟨gn,h1,h2,h3,h4⟩ => ⟨gn,h1,ho.blk h2 h3,h3,h4⟩⟩
def Fact.elem (e : TypeId) (cs : List Value) : Fact :=
  ⟨fun v W => ∃ gn,v = .slice (some ⟨gn,0,none⟩) 1 1 ∧ Blk W gn e cs,fun _ _ _ hb ⟨gn,h1,h2⟩ => ⟨gn,h1,h2.below hb h2.lt⟩⟩
def Fact.ownR {α : Type} (sz : Nat) (f : α → Nat → Value) (B : Nat) (e : TypeId) (K n : Nat) (l : List α) : Fact :=
  ⟨fun v W => ∃ g c,v = .slice (some ⟨g,0,none⟩) n c ∧ OwnR sz f W B e v l ∧ K ≤ g,fun _ _ _ hb ⟨g,c,h1,h2,h3⟩ => ⟨g,c,h1,h2.below hb (Nat.le_refl _),h3⟩⟩
def newT (a g : Nat) : Tv:=⟨⟨some ⟨g,0,none⟩,1,1,[(a,0)]⟩,List.replicate 8 0⟩
theorem Fam.add {e : TypeId} {w : World} {B : Nat} {S : Nat → Prop} {l : List Sv} (h : Fam e w B S l) {x : Sv} (ho : OwnR 2 frV w B e (svV x) x.stack) (hS : ∀ b,(svV x).ownBlock = some b → ¬ S b)
    (hne : ∀ (k : Nat) (y : Sv) (b : Nat),l[k]? = some y → (svV x).ownBlock = some b → (svV y).ownBlock ≠ some b) : Fam e w B S (l ++ [x]):=by
  have key : ∀ (j : Nat) (y : Sv),(l ++ [x])[j]? = some y → (j = l.length ∧ y = x) ∨ (j < l.length ∧ l[j]? = some y):=fun j y hy => by
    rcases Nat.lt_or_ge j l.length with h1 | h1
    · rw [List.getElem?_append_left h1] at hy
      exact .inr ⟨h1,hy⟩
    · have h2:=(List.getElem?_eq_some_iff.1 hy).1
      simp only [List.length_append,List.length_singleton] at h2
      have e1 : j = l.length:=by omega
      subst e1
      rw [List.getElem?_append_right (Nat.le_refl _),Nat.sub_self] at hy
      exact .inl ⟨rfl,by simpa using hy.symm⟩
  refine ⟨fun j y hy => ?_,fun j y b hy hb1 => ?_,fun i j y z b hy hz hb1 hb2 => ?_⟩
  · rcases key j y hy with ⟨_,rfl⟩ | ⟨_,hy⟩
    · exact ho
    · exact h.own j y hy
  · rcases key j y hy with ⟨_,rfl⟩ | ⟨_,hy⟩
    · exact hS b hb1
    · exact h.out j y b hy hb1
  · rcases key i y hy with ⟨e1,e2⟩ | ⟨h1,hy'⟩
    · rcases key j z hz with ⟨e3,_⟩ | ⟨h2,hz'⟩
      · rw [e1,e3]
      · rw [e2] at hb1
        exact absurd hb2 (hne j z b hz' hb1)
    · rcases key j z hz with ⟨_,e4⟩ | ⟨h2,hz'⟩
      · rw [e4] at hb2
        exact absurd hb1 (hne i y b hy' hb2)
      · exact h.apart i j y z b hy' hz' hb1 hb2
theorem St.push {w2 W W' : World} {B gN gU g gT gV a c : Nat} {q : Pc} (h : St w2 B gN gU q) (hA : q.A = some ⟨gT,0,none⟩) (hg0 : w2.grownBy W (some gT)) (hrow : OwnR 9 tvV W B 50 (.slice (some ⟨gV,0,none⟩) (q.len + 1) c) (q.tvs ++ [newT a g]))
    (hV : gV = gT ∨ (w2.heap.size ≤ gV ∧ gV ≠ g)) (ho : OwnR 2 frV W B 52 (.slice (some ⟨g,0,none⟩) 1 1) [(a,0)]) (hgg : w2.heap.size ≤ g)
    (hb : Blk W' gN 43 ((pcC q).set 0 (.slice (some ⟨gV,0,none⟩) (q.len + 1) c))) (hg : W.grownBy W' (some gN)) (hz : W'.heap.size = W.heap.size) : St W' B gN gU ⟨some ⟨gV,0,none⟩,q.len + 1,c,q.tvs ++ [newT a g],q.ow⟩:=by
  have hbT : (Value.slice q.A q.len q.cap).ownBlock = some gT:=by rw [hA];rfl
  have hneT:=h.ne gT hbT
  have hTl:=(h.row.block gT hbT).2
  have hNl:=h.conf.lt
  have hUl:=h.low.2
  have hVN : gV ≠ gN:=by rcases hV with rfl | hV <;> omega
  have hVU : gV ≠ gU:=by rcases hV with rfl | hV <;> omega
  have hVg : gV ≠ g:=by rcases hV with rfl | hV <;> omega
  refine ⟨hb,hrow.far hg (.inr fun e => hVN (by cases e;rfl)),?_,fun b e => by cases e;exact ⟨hVN,hVU⟩,h.low.1,by have:=hg0.size;rw [hz];omega⟩
  have e1 : (q.tvs ++ [newT a g]).map (·.sv) = q.tvs.map (·.sv) ++ [(newT a g).sv]:=by rw [List.map_append];rfl
  show Fam _ W' B _ ((q.tvs ++ [newT a g]).map (·.sv))
  rw [e1]
  have f1 : Fam 52 w2 B (fun b => (b = gN ∨ b = gU ∨ (Value.slice q.A q.len q.cap).ownBlock = some b) ∨ b = gV) (q.tvs.map (·.sv)):=h.fam.less fun b hb => by
    rcases hb with hb | hb
    · exact .inl hb
    · rcases hV with hV | hV
      · subst hb;subst hV;exact .inl (.inr (.inr hbT))
      · right;omega
  have f2:=f1.turn hg0 (fun b e => by cases e;exact .inl (.inr (.inr hbT)))
  have f3:=f2.add (x:=(newT a g).sv) ho (fun b e => by
    have e2 : g = b:=by injection e
    subst e2
    rintro ((e | e | e) | e)
    · omega
    · omega
    · rw [hbT] at e;cases e;omega
    · exact hVg e.symm) (fun k y b hy e e3 => by
    have e2 : g = b:=by injection e
    subst e2
    have:=(f1.block hy e3).2
    omega)
  have f4:=f3.turn hg (fun b e => by cases e;exact .inl (.inl rfl))
  refine f4.less fun b hb => ?_
  rcases hb with rfl | rfl | hb
  · exact .inl (.inl (.inl rfl))
  · exact .inl (.inl (.inr (.inl rfl)))
  · cases hb;exact .inl (.inr rfl)
theorem frame_one : (Tryd.prog.info? 52).map (fun i => (i.zero.map (·.cells.size),i.size)) = some (some 2,2):=by kernel_rfl
theorem JV (A : Option Addr) (n c : Nat) : ∀ u ∈ Value.slice A n c :: zeros 8,u.oneCell' = true:=by
  intro u hu
  rcases List.mem_cons.1 hu with rfl | hu
  · rfl
  · rw [List.eq_of_mem_replicate hu];rfl
set_option maxRecDepth 100000 in
set_option maxHeartbeats 1600000 in
theorem zS (f : Nat) (w : World) :
    Calls Tryd.prog 28 #[.int .i64 (f : Int)] w fun e w' => ∃ g,e = .returned (.agg (Value.slice (some ⟨g,0,none⟩) 1 1 :: zeros 8).toArray) ∧ OwnR 2 frV w' w.heap.size 52 (.slice (some ⟨g,0,none⟩) 1 1) [(f,0)] ∧ w.heap.size ≤ g ∧ Below w.heap.size w w':=by
  go_enter Tryd.func28,Tryd.ntmps28
  go_wp2_with (first
    | ((with_reducible show Sl 2);go_must (refine j7 rfl 50 rfl _ JU ?_);intro g1 w1 hg1 hk1 hw1;have HK1:=kp hk1;have HW1:=kp hw1;have hs1:=hw1.size;have hl1:=hk1.lt;clear hk1 hw1)
    | ((with_reducible show Sl 5);go_must (refine l4 rfl 47 52 (.tmp 4) rfl 2 Tryd.underlying47 frame_one (by omega) (by omega) _ [.int .i64 (f : Int),.int .i64 0] rfl rfl rfl ?_);intro g2 w2 hg2 hk2 hw2
       have HK2:=kp hk2;have HK12:=kp (HK1.out.below hw2 hl1);have HW2:=kp (HW1.out.trans (hw2.mono hs1));have hs2:=HW2.out.size;have hl2:=hk2.lt;clear hk2 hw2)
    | ((with_reducible show Sl 6);go_must (refine xU rfl 50 0 (.tmp 5) rfl (.slice (some ⟨g2,0,none⟩) 1 1) rfl (Value.slice (some ⟨g2,0,none⟩) 1 1 :: zeros 8) (JQ (some ⟨g2,0,none⟩) 1 1) ?_))
    | ((with_reducible show Sn);go_must (refine j5 rfl 50 (.tmp 2) (.tmp 6) rfl g1 (Value.slice (some ⟨g2,0,none⟩) 1 1 :: zeros 8) rfl rfl _ _ HK12.out vE rfl (JV _ _ _) ?_);intro w3 hk3 hg3 hs3
       have HK3:=kp hk3;have HK23:=kp (HK2.out.grown hg3 (fun e => by cases e;omega));have HW3:=kp (HW2.out.grown hg3 hs2 (fun k e => by cases e;omega));clear hk3 hg3)
    | ((with_reducible show bodyPost _ _ _ _ _ _);exact bodyPost_ret (jZ (P:=Tryd.prog) (fn:=Tryd.f28) rfl _ _ g1 50 _ _ rfl HK3.out Tryd.underlying50 rfl vE) rfl ⟨g2,rfl,OwnR.of_blk HK23.out (by omega) rfl (Nat.le_refl _) (by unfold maxLen;omega) rfl rfl,by omega,HW3.out⟩))
theorem xP : (Tryd.prog.info? 47).map (·.size) = some 1:=by kernel_rfl
set_option maxRecDepth 100000 in
set_option maxHeartbeats 1600000 in
theorem sem_call (B gN gU k : Nat) (q : Pc) (x : Nd) (way : Bool) (th : Tv) (w : World) (hst : St w B gN gU q) (hu : Blk w gU 94 (turnC gN k way x)) (hkl : k < q.len) (hth : q.tvs[k]? = some th) (hs0 : 0 < th.sv.len) (hlen16 : th.sv.len ≤ 1000) (h8 : q.len ≤ 8) (nx : Nat) (hnx : x.next = (nx : Int)) (a : Nat) (ha : x.arg = (a : Int)) (hk7 : x.kind = 7) :
    Calls Tryd.prog 57 #[.pointer (some ⟨gU,0,none⟩)] w fun e w' => e = .returned (.tuple #[]) ∧ ∃ q',St w' B gN gU q' ∧ q'.cf = M.act q.cf k x way ∧ Below B w w':=by
  go_enter Tryd.func57,Tryd.ntmps57
  go_wp2_with fail
  refine (xA B gN gU k q x way th w hst hu hkl hth hs0 hlen16 h8 nx hnx).mono ?_
  rintro e w1 ⟨rfl,hst1,hu1,hb1⟩
  have hw1s:=hb1.size
  have hth1 : (q.put k (tvGo th nx)).tvs[k]? = some (tvGo th nx):=by
    show (q.tvs.set k (tvGo th nx))[k]? = _
    rw [List.getElem?_set,if_pos rfl,if_pos (List.getElem?_eq_some_iff.1 hth).1]
  have hcf1 : M.th q.cf k = tvT th:=Pc.th_of hth
  have HCf:=kp (Pc.put_cf q k (tvGo th nx))
  have HCf0:=kp hcf1
  have hs01 : 0 < (tvGo th nx).sv.len:=hs0
  have hlen161 : (tvGo th nx).sv.len ≤ 1000:=hlen16
  have hkl1 : k < (q.put k (tvGo th nx)).len:=hkl
  have h81 : (q.put k (tvGo th nx)).len ≤ 8:=h8
  have how1 : (q.put k (tvGo th nx)).ow = q.ow:=rfl
  have HQlen : Kept ((q.put k (tvGo th nx)).len = q.len):=kp rfl
  have HTvs : Kept ((q.put k (tvGo th nx)).tvs = q.tvs.set k (tvGo th nx)):=kp rfl
  have HTh1 : Kept (tvT (tvGo th nx) = ⟨M.goOn th.sv.stack nx,th.slots⟩):=kp rfl
  obtain ⟨q1,hq1⟩ : ∃ q1,q.put k (tvGo th nx) = q1:=⟨_,rfl⟩
  obtain ⟨th1,ht1⟩ : ∃ th1,tvGo th nx = th1:=⟨_,rfl⟩
  rw [ht1] at hq1 hth1 hs01 hlen161 HCf HTh1 HTvs hst1 hkl1 h81 how1 HQlen
  rw [hq1] at hst1 hth1 hkl1 h81 how1 HCf HQlen HTvs
  clear hst hu hq1 ht1 hcf1 hs0 hlen16
  obtain ⟨gT,curT,thx,hA,hbT,hthx,hcT0,hcTj,hTN,hTU,hBT,hsl,hthc,hcTl⟩:=hst1.thread hkl1
  rw [hth1] at hthx
  cases hthx
  obtain ⟨gS,cur,hSA,hbS,hlen,hSN,hSU,hBS,hput⟩:=hst1.goes hth1 hs01
  have hbound:=hst1.ok
  have hqc:=hbound.lc;have hqm:=hbound.cm
  unfold maxLen at hqm
  have HE : Kept (pcC q1 = .slice (some ⟨gT,0,none⟩) q1.len q1.cap :: q1.ow.map natV):=kp (by unfold pcC;rw [hA])
  have hgN:=hst1.conf.lt;have hgU:=hu1.lt;have hgT:=hbT.lt;have hgS:=hbS.lt
  have HSt:=kp hst1;have HK:=kp hu1;have HT:=kp hbT;have HS:=kp hbS;have HPut:=kp hput
  have hxc:=hbound.svs th1 (List.mem_of_getElem? hth1)
  have hxc2:=hxc.lc;have hxm:=hxc.cm
  unfold maxLen at hxm
  rw [hSA] at hcT0
  have HC0:=kp hcT0
  have hlow:=hst1.low.1
  have hBw : B ≤ w1.heap.size:=by omega
  have HLow:=kp hst1.low
  obtain ⟨n,hn⟩ : ∃ n,th1.sv.len = n:=⟨_,rfl⟩
  obtain ⟨cp,hcp⟩ : ∃ cp,th1.sv.cap = cp:=⟨_,rfl⟩
  have HThl:=kp hn
  rw [hn] at HC0 hs01 hlen161 hxc2 hlen HPut
  rw [hcp] at HC0 hxc2 hxm
  have HA:=kp hA;have HTh:=kp hth1
  have HOwn : Kept (∀ W,St W B gN gU q1 → OwnR 2 frV W B 52 (.slice (some ⟨gS,0,none⟩) n cp) th1.sv.stack):=kp (fun W hW => by
    have h:=hW.fam.own k th1.sv (by rw [List.getElem?_map,hth1];rfl)
    unfold svV at h
    rw [hSA,hn,hcp] at h
    exact h)
  have HLen : Kept (th1.sv.stack.length = n):=kp (by rw [hsl,hn])
  have HBk1 : Kept ((svV th1.sv).ownBlock = some gS):=kp (by unfold svV;rw [hSA];rfl)
  have HGoal : Kept (∀ A' c',(q1.put k ⟨⟨A',n + 1,c',th1.sv.stack ++ [(a,0)]⟩,th1.slots⟩).cf = M.act q.cf k x way):=kp (fun A' c' => by
    unfold M.act
    rw [Pc.put_cf,HCf.out,how1,HCf0.out,if_neg (show ¬ x.kind = 9 by omega),if_neg (show ¬ x.kind = 3 by omega),if_neg (show ¬ x.kind = 4 by omega),if_neg (show ¬ x.kind = 5 by omega),if_pos hk7,hnx,ha,Int.toNat_natCast,Int.toNat_natCast,List.set_set]
    have h1 : th1.sv.stack = M.goOn th.sv.stack nx:=congrArg M.Th.stack HTh1.out
    have h2 : th1.slots = th.slots:=congrArg M.Th.slots HTh1.out
    have e : tvT ⟨⟨A',n + 1,c',th1.sv.stack ++ [(a,0)]⟩,th1.slots⟩ = ⟨M.goOn th.sv.stack nx ++ [(a,0)],th.slots⟩:=by
      show (⟨th1.sv.stack ++ [(a,0)],th1.slots⟩ : M.Th) = _
      rw [h1,h2]
    rw [e];rfl)
  have hTlen : k * 9 < curT.length:=by omega
  have hTS : gT ≠ gS:=by
    have h:=hst1.fam.out k th1.sv gS (by rw [List.getElem?_map,hth1];rfl) HBk1.out
    intro e
    exact h (.inr (.inr (by rw [hA,← e];rfl)))
  have HB1:=kp hb1
  have hCu:=hu1
  have hCn:=hst1.conf.cell 0
  rw [HE.out,List.getElem?_cons_zero] at hCn
  have HC:=kp (qP gU gN gT k q1.len q1.cap way x w1 hCu hCn hkl1)
  clear hst1 hu1 hth1 hput hbT hbS hcT0 hcTj hthc hcTl hsl hbound hxc hn hcp hSA hA hCu hCn hb1
  go_wp2_with fail
  refine HC.out.mono ?_
  rintro e w9 ⟨rfl,m,rfl⟩
  obtain ⟨w2,hw2⟩ : ∃ y,w1.drewN m = y:=⟨_,rfl⟩
  have HT2 : Kept (Blk w2 gT 50 curT):=kp (by rw [← hw2];exact HT.out.drewN m)
  have HK2 : Kept (Blk w2 gU 94 (turnC gN k way x)):=kp (by rw [← hw2];exact HK.out.drewN m)
  have HSt2 : Kept (St w2 B gN gU q1):=kp (by rw [← hw2];exact HSt.out.drewN m)
  have HB2 : Kept (Below B w w2):=kp (by rw [← hw2];exact below_drewN HB1.out m)
  have hBw2 : B ≤ w2.heap.size:=by rw [← hw2];exact hBw
  have hgT2:=HT2.out.lt;have hgU2:=HK2.out.lt
  have hgS2 : gS < w2.heap.size:=by rw [← hw2];exact hgS
  rw [hw2]
  clear hw2
  go_wp2
  by_cases hroom : n + 1 ≤ cp
  · have hx1:=hroom
    apply qL (fun k => k = gS ∨ k = gT) [12,15] [1,2,3,4,5,6,7,8,9,10,11] (phs ([fun W => Below w2.heap.size w2 W,fun W => ∃ W0,Below w2.heap.size w2 W0 ∧ W0.grownBy W (some gS) ∧ OwnR 2 frV W B 52 (.slice (some ⟨gS,0,none⟩) (n + 1) cp) (th1.sv.stack ++ [(a,0)]),fun W => St W B gN gU (q1.put k ⟨⟨some ⟨gS,0,none⟩,n + 1,cp,th1.sv.stack ++ [(a,0)]⟩,th1.slots⟩)] : List (World → Prop))) (.is _ :: .is _ :: .is _ :: .is _ :: .is _ :: .is _ :: .is _ :: .is _ :: .is _ :: .is _ :: .is (.agg #[.int .i64 (a : Int),.int .i64 0]) :: GFact.elem _ 52 [.int .i64 (a : Int),.int .i64 0] w2.heap.size :: .is _ :: .is _ :: .is _ :: .any _ :: [])
      [[],[],[(1,8)],[(2,9)],[(3,10)],[],[(5,12)],[(6,13)],[(7,14)],[(8,15)],[(9,16)],[(10,17)],[(4,11),(11,18)],[(0,7)],[(13,20)],[(14,21),(12,19)]]
      [(0,7),(1,8),(2,9),(3,10),(4,11),(5,12),(6,13),(7,14),(8,15),(9,16),(10,17),(11,18),(12,19),(13,20),(14,21)] (by kernel_rfl) (by kernel_rfl) (by kernel_rfl) (by kernel_rfl) (by decide)
    case h0 => exact (⟨rfl,rfl,rfl,Nat.le_refl _,fun _ _ => rfl⟩ : Below w2.heap.size w2 w2.drew)
    case hob =>
      refine lJ rfl rfl ?o0 (j9 rfl rfl ?o1 (j9 rfl rfl ?o2 (j9 rfl rfl ?o3 (j9 rfl rfl ?o4 (j9 rfl rfl ?o5 (j9 rfl rfl ?o6 (j9 rfl rfl ?o7 (j9 rfl rfl ?o8 (j9 rfl rfl ?o9 (j9 rfl rfl ?o10 (j9 rfl rfl ?o11 (qI 0 rfl rfl ?o12 (lJ rfl rfl ?o13 (lJ rfl rfl ?o14 (qI 1 rfl rfl ?o15 (zN))))))))))))))))
      case o0 => intro p W hO hJ;change wpList _ _ _ _ _ _;go_wp2;exact jA rfl rfl rfl hJ
      case o1 => intro W hO hJ;change wpList _ _ _ _ _ _;go_wp2;exact jA rfl rfl rfl hJ
      case o2 => intro W hO hJ;rintro _ rfl;change wpList _ _ _ _ _ _;go_wp2;exact jA rfl rfl rfl hJ
      case o3 => intro W hO hJ;rintro _ rfl;change wpList _ _ _ _ _ _;go_wp2;exact jA rfl rfl rfl hJ
      case o4 =>
        intro W hO hJ;rintro _ rfl;change wpList _ _ _ _ _ _
        have hb : Below w2.heap.size w2 W:=hJ
        have hc:=(HT2.out.below hb hgT2).cell (k * 9)
        rw [HC0.out] at hc
        clear hb
        go_wp2;exact jA rfl rfl rfl hJ
      case o5 => intro W hO hJ;change wpList _ _ _ _ _ _;go_wp2;exact jA rfl rfl rfl hJ
      case o6 => intro W hO hJ;rintro _ rfl;change wpList _ _ _ _ _ _;go_wp2;exact jA rfl rfl rfl hJ
      case o7 => intro W hO hJ;rintro _ rfl;change wpList _ _ _ _ _ _;go_wp2;exact jA rfl rfl rfl hJ
      case o8 => intro W hO hJ;rintro _ rfl;change wpList _ _ _ _ _ _;go_wp2;exact jA rfl rfl rfl hJ
      case o9 =>
        intro W hO hJ;rintro _ rfl;change wpList _ _ _ _ _ _
        have hb : Below w2.heap.size w2 W:=hJ
        have hc:=(HK2.out.below hb hgU2).cell 4
        simp only [turnC,List.getElem?_cons_zero,List.getElem?_cons_succ] at hc
        rw [ha] at hc
        clear hb
        go_wp2;exact jA rfl rfl rfl hJ
      case o10 => intro W hO hJ;rintro _ rfl;change wpList _ _ _ _ _ _;go_wp2;exact jA rfl rfl rfl hJ
      case o11 =>
        intro W hO hJ;rintro _ rfl;change wpList _ _ _ _ _ _
        have hb : Below w2.heap.size w2 W:=hJ
        have HBw:=kp hb
        have hbs:=hb.size
        clear hJ hb hO
        have HB5:=kp ((Below.refl W.heap.size W).alloc (Nat.le_refl _) (.cells #[Value.int .i64 (a : Int),.int .i64 0] 52))
        go_wp2
        exact qW rfl rfl rfl (Only.of_below HB5.out) (HBw.out.trans (HB5.out.mono hbs)) ⟨W.heap.size,rfl,Blk.newA W _ _ [.int .i64 (a : Int),.int .i64 0] rfl,by omega,by omega⟩
      case o12 =>
        intro W hO hJ;rintro _ rfl;rintro _ ⟨gn,rfl,hbk,hng,hgk⟩;change wpList _ _ _ _ _ _
        have hb : Below w2.heap.size w2 W:=hJ
        have HBw:=kp hb;have HBk:=kp hbk
        have hOw:=HOwn.out W (HSt2.out.below hb (Nat.le_refl _))
        clear hJ hO hb hbk
        go_wp2_with (at_builtin;go_must (refine qF rfl (.tmp 11) (.tmp 18) 47 rfl B 52 2 _ 16 Tryd.underlying47 yX rfl (by omega) frV JM gS cp n th1.sv.stack HLen.out (a,0) rfl hOw hroom gn 1 rfl HBk.out (by omega) ?_);intro w6 hown6 hgr6)
        exact qW rfl rfl rfl (Only.of_grown hgr6 (.inl rfl)) ⟨W,HBw.out,hgr6,hown6⟩ rfl
      case o13 => intro p W hO hJ;rintro _ rfl;change wpList _ _ _ _ _ _;go_wp2;exact jA rfl rfl rfl hJ
      case o14 => intro p W hO hJ;rintro _ rfl;change wpList _ _ _ _ _ _;go_wp2;exact jA rfl rfl rfl hJ
      case o15 =>
        intro W hO hJ;rintro _ rfl;rintro _ rfl;change wpList _ _ _ _ _ _
        have hJ1 : ∃ W0,Below w2.heap.size w2 W0 ∧ W0.grownBy W (some gS) ∧ OwnR 2 frV W B 52 (.slice (some ⟨gS,0,none⟩) (n + 1) cp) (th1.sv.stack ++ [(a,0)]):=hJ
        obtain ⟨W0,hb0,hg0,hown0⟩:=hJ1
        have HT0:=kp (HT2.out.below hb0 hgT2)
        have HKw:=kp (HT0.out.grown hg0 (fun e => hTS (by cases e;rfl)))
        have HSt0:=kp (HSt2.out.below hb0 (Nat.le_refl _))
        have HG0:=kp hg0;have HOw0:=kp hown0
        clear hJ hO hb0 hg0 hown0
        go_wp2_with ((with_reducible show Sn);go_must (refine jF rfl 47 (.tmp 21) (.tmp 19) rfl gT (k * 9) (.slice (some ⟨gS,0,none⟩) (n + 1) cp) rfl rfl rfl rfl _ _ HKw.out hTlen xP ?_);intro w7 hk7 hg7 hs7;have HFin:=kp (HSt0.out.stack (sv:=⟨some ⟨gS,0,none⟩,n + 1,cp,th1.sv.stack ++ [(a,0)]⟩) HA.out HT0.out HTh.out (by rw [HBk1.out];exact HG0.out) HOw0.out (.inl (by rw [HBk1.out];rfl)) hk7 hg7 hs7);have HOn:=kp (Only.of_grown (G:=fun k => k = gS ∨ k = gT) hg7 (.inr rfl));clear hk7 hg7)
        exact xG rfl HOn.out HFin.out
    case hend =>
      intro W hO hJ;rintro _ rfl;rintro _ rfl;rintro _ rfl;rintro _ rfl;rintro _ rfl;rintro _ rfl;rintro _ rfl;rintro _ rfl;rintro _ rfl;rintro _ rfl;rintro _ rfl;rintro _ ⟨gn,rfl,hbk,hng,hgk⟩;rintro _ rfl;rintro _ rfl;rintro _ rfl
      simp only [ggiven,jI,List.set]
      have hJ2 : St W B gN gU (q1.put k ⟨⟨some ⟨gS,0,none⟩,n + 1,cp,th1.sv.stack ++ [(a,0)]⟩,th1.slots⟩):=hJ
      have HFin:=kp hJ2
      have HBe:=kp (HB2.out.trans (hO.below (B:=B) hBw2 (fun k hk => by rcases hk with rfl | rfl <;> omega)))
      clear hJ hJ2 hO hbk
      go_wp2
      go_end0
      exact ⟨rfl,_,HFin.out,HGoal.out _ _,HBe.out⟩
  · have HFull : Kept (cp = n):=kp (by omega)
    clear hroom
    apply jJ 15 (.is _ :: .is _ :: .is _ :: .is _ :: .is _ :: .is _ :: .is _ :: .is _ :: .is _ :: .is _ :: .is (.agg #[.int .i64 (a : Int),.int .i64 0]) :: Fact.elem 52 [.int .i64 (a : Int),.int .i64 0] :: Fact.ownR 2 frV B 52 w2.heap.size (n + 1) (th1.sv.stack ++ [(a,0)]) :: .is _ :: .is _ :: [])
      [[],[],[(1,8)],[(2,9)],[(3,10)],[],[(5,12)],[(6,13)],[(7,14)],[(8,15)],[(9,16)],[(10,17)],[(4,11),(11,18)],[(0,7)],[(13,20)],[(14,21),(12,19)]]
      [(0,7),(1,8),(2,9),(3,10),(4,11),(5,12),(6,13),(7,14),(8,15),(9,16),(10,17),(11,18),(12,19),(13,20),(14,21)] (by kernel_rfl) (by kernel_rfl) (by kernel_rfl) (by kernel_rfl) (by kernel_rfl)
    case hob =>
      refine ⟨?o0,?o1,?o2,?o3,?o4,?o5,?o6,?o7,?o8,?o9,?o10,?o11,?o12,?o13,?o14,trivial⟩
      case o0 => intro W hW;change wpList _ _ _ _ _ _;go_wp2;exact j3 rfl rfl rfl
      case o1 => intro W hW;change wpList _ _ _ _ _ _;go_wp2;exact j3 rfl rfl rfl
      case o2 => intro W hW;rintro _ rfl;change wpList _ _ _ _ _ _;go_wp2;exact j3 rfl rfl rfl
      case o3 => intro W hW;rintro _ rfl;change wpList _ _ _ _ _ _;go_wp2;exact j3 rfl rfl rfl
      case o4 =>
        intro W hW;rintro _ rfl;change wpList _ _ _ _ _ _
        have hc:=(HT2.out.below hW hgT2).cell (k * 9)
        rw [HC0.out] at hc
        go_wp2;exact j3 rfl rfl rfl
      case o5 => intro W hW;change wpList _ _ _ _ _ _;go_wp2;exact j3 rfl rfl rfl
      case o6 => intro W hW;rintro _ rfl;change wpList _ _ _ _ _ _;go_wp2;exact j3 rfl rfl rfl
      case o7 => intro W hW;rintro _ rfl;change wpList _ _ _ _ _ _;go_wp2;exact j3 rfl rfl rfl
      case o8 => intro W hW;rintro _ rfl;change wpList _ _ _ _ _ _;go_wp2;exact j3 rfl rfl rfl
      case o9 =>
        intro W hW;rintro _ rfl;change wpList _ _ _ _ _ _
        have hc:=(HK2.out.below hW hgU2).cell 4
        simp only [turnC,List.getElem?_cons_zero,List.getElem?_cons_succ] at hc
        rw [ha] at hc
        go_wp2;exact j3 rfl rfl rfl
      case o10 => intro W hW;rintro _ rfl;change wpList _ _ _ _ _ _;go_wp2;exact j3 rfl rfl rfl
      case o11 =>
        intro W hW;rintro _ rfl;change wpList _ _ _ _ _ _
        clear hW
        have HB5:=kp ((Below.refl W.heap.size W).alloc (Nat.le_refl _) (.cells #[Value.int .i64 (a : Int),.int .i64 0] 52))
        go_wp2
        exact jE rfl rfl rfl HB5.out ⟨W.heap.size,rfl,Blk.newA W _ _ [.int .i64 (a : Int),.int .i64 0] rfl⟩
      case o12 =>
        intro W hW;rintro _ rfl;rintro _ ⟨gn,rfl,hbk⟩;change wpList _ _ _ _ _ _
        have HBk:=kp hbk
        have hOw:=HOwn.out W (HSt2.out.below hW (Nat.le_refl _))
        have hWs:=hW.size
        clear hW hbk
        go_wp2_with (at_builtin;go_must (refine qG rfl (.tmp 11) (.tmp 18) 47 rfl B 52 2 _ 16 Tryd.underlying47 yX rfl (by omega) frV JM gS cp n th1.sv.stack HLen.out (a,0) rfl hOw HFull.out gn 1 rfl HBk.out (by unfold maxLen;omega) (by omega) (by omega) ?_);intro g6 c6 w6 hown6 hb6 hg6)
        exact jE rfl rfl rfl hb6 ⟨g6,c6,rfl,hown6,by omega⟩
      case o13 => intro W hW;rintro _ rfl;change wpList _ _ _ _ _ _;go_wp2;exact j3 rfl rfl rfl
      case o14 => intro W hW;rintro _ rfl;change wpList _ _ _ _ _ _;go_wp2;exact j3 rfl rfl rfl
    case hend =>
      intro W hW;rintro _ rfl;rintro _ rfl;rintro _ rfl;rintro _ rfl;rintro _ rfl;rintro _ rfl;rintro _ rfl;rintro _ rfl;rintro _ rfl;rintro _ rfl;rintro _ rfl;rintro _ ⟨gn,rfl,hbk⟩;rintro _ ⟨g6,c6,rfl,hown6,hg6⟩;rintro _ rfl;rintro _ rfl
      simp only [given,jI,List.set,List.drop]
      have HKw:=kp (HT2.out.below hW hgT2)
      have HStw:=kp (HSt2.out.below hW (Nat.le_refl _))
      have HBw:=kp (HB2.out.trans (hW.mono hBw2))
      have HOw6:=kp hown6
      have hWs:=hW.size
      have HGr:=kp (q8 hW (svV th1.sv).ownBlock)
      have hW2:=HB2.out.size
      clear hW hbk hown6
      go_wp2_with ((with_reducible show Sn);go_must (refine jF rfl 47 (.tmp 21) (.tmp 19) rfl gT (k * 9) (.slice (some ⟨g6,0,none⟩) (n + 1) c6) rfl rfl rfl rfl _ _ HKw.out hTlen xP ?_);intro w7 hk7 hg7 hs7;have HFin:=kp (HSt2.out.stack (sv:=⟨some ⟨g6,0,none⟩,n + 1,c6,th1.sv.stack ++ [(a,0)]⟩) HA.out HT2.out HTh.out HGr.out HOw6.out (.inr (fun b e => by cases e;exact hg6)) hk7 hg7 hs7);have HB7:=kp (HBw.out.grown hg7 (by omega) (fun k e => by cases e;exact hBT));clear hk7 hg7)
      go_end0
      exact ⟨rfl,_,HFin.out,HGoal.out _ _,HB7.out⟩
theorem lN {P : Program} {fn : Func} {p : Tmp} {a : Nat} {ty : TypeId} (h : fn.results = #[.cell p ty,.tmp a]) (tmps : Array Value) (w : World) (g : Nat) (t : TypeId) (cs : List Value) (d : TypeDesc) (va : Value)
    (hp : tmps.getD p undef = .pointer (some ⟨g,0,none⟩)) (ha : tmps.getD a undef = va) (hg : Blk w g t cs)
    (hu : P.underlying ty = some d) (hd : (match d with | .struct _ | .array _ _ => true | _ => false) = true) (hi : (P.info? ty).map (·.size) = some cs.length) :
    (results fn tmps).run P w = .ok (.tuple #[.agg cs.toArray,va]) w:=by
  subst ha
  have hp' : tmps[p]?.getD undef = .pointer (some ⟨g,0,none⟩):=by simpa using hp
  simp [results,h,hp',asAddr,run_loadVar_row w g t ty cs.toArray (0,0) d hg hu hd (by simpa using hi)]
theorem QP (a : Act) (v : Value) : a.put none v = a:=rfl
set_option maxRecDepth 100000 in
set_option maxHeartbeats 1600000 in
theorem QG (B : Nat) (p : Pg) (hf : Fine p) (f n : Nat) (fn : Fn) (x : Nd) (hfn : p.fns[f]? = some fn) (hx : fn.nodes[n]? = some x) (w : World) (hp : p.Ok w B) (hB : B ≤ w.heap.size) :
    Calls Tryd.prog 51 #[pgA p,.agg #[.int .i64 (f : Int),.int .i64 (n : Int)]] w fun e w' => e = .returned (.tuple #[ndA x,.bool true]) ∧ Below w.heap.size w w':=by
  have hpl:=hp.row.len
  have hfl : f < p.len:=by rw [← hpl];exact (List.getElem?_eq_some_iff.1 hfn).1
  obtain ⟨ad,fn',hA,hadb,hfn',hfok,hfc⟩:=hp.fn hfl
  rw [hfn] at hfn';cases hfn'
  have hnl0:=hfok.nodes.1.len
  have hnl : n < fn.len:=by rw [← hnl0];exact (List.getElem?_eq_some_iff.1 hx).1
  obtain ⟨ad2,x',hA2,had2b,hx',hxok,hn0,hn1,hn2,hn3⟩:=hfok.nodes.get hnl
  rw [hx] at hx';cases hx'
  have hmay:=M.fine_node hf hfn hx
  rw [hnl0] at hmay
  have hL:=hf.counts.l;have hS:=hf.counts.s
  have hF:=hf.counts.f
  rw [hpl] at hF
  have h64 : fn.len ≤ 64:=by have:=(Q.fine_fn hfn (hf.nodes f (by rw [hpl];exact hfl))).2.1;omega
  have hpc:=hp.lc;have hpm:=hp.cm;have hfc2:=hfok.lc;have hfm:=hfok.cm
  unfold maxLen at hpm hfm
  have HP:=kp hp;have HM:=kp hmay;have HX:=kp hxok
  have HFc:=kp hfc;have HN0:=kp hn0;have HN1:=kp hn1;have HN2:=kp hn2;have HN3:=kp hn3
  have HI1 : Kept (decide (0 ≤ (f : Int) ∧ (f : Int) < (p.len : Int)) = true):=kp (decide_eq_true (by omega))
  have HI2 : Kept (decide (0 ≤ (n : Int) ∧ (n : Int) < (fn.len : Int)) = true):=kp (decide_eq_true (by omega))
  have hadB : ad.block < B:=hadb
  have hadB2 : ad2.block < B:=had2b
  have hl16 : p.l ≤ 16:=hL.2
  have hs8 : p.s ≤ 8:=hS.2
  have HIf : Kept (I64 (f : Int)):=kp (by unfold I64;omega)
  have HIn : Kept (I64 (n : Int)):=kp (by unfold I64;omega)
  have HIp : Kept (I64 (p.len : Int)):=kp (by unfold I64;omega)
  have HIl : Kept (I64 (fn.len : Int)):=kp (by unfold I64;omega)
  have hEC : pgC p = [.int .i64 p.g,.int .i64 p.l,.int .i64 p.s,.slice (some ad) p.len p.cap]:=by unfold pgC;rw [hA]
  have HEC:=kp hEC
  have HFC2 : Kept (w.cell? (ad.add f) = some (.slice (some ad2) fn.len fn.cap)):=kp (by rw [← hA2];exact hfc)
  clear hp hmay hxok hfc hn0 hn1 hn2 hn3 hfok hx hfn hf hA hA2 hEC hpl hnl0 hL hS HFc
  rw [jM,HEC.out]
  go_enter Tryd.func51,Tryd.ntmps51
  go_wp2_with (first
    | ((with_reducible refine j4 rfl 24 (.tmp 0) rfl [.int .i64 p.g,.int .i64 p.l,.int .i64 p.s,.slice (some ad) p.len p.cap] rfl ?_);intro g1 w1 hg1 hk1 hw1;have HK1:=kp hk1;have HW1:=kp hw1;have hs1:=hw1.size;have hl1:=hk1.lt;clear hk1 hw1)
    | ((with_reducible refine j4 rfl 52 (.tmp 1) rfl [.int .i64 (f : Int),.int .i64 (n : Int)] rfl ?_);intro g2 w2 hg2 hk2 hw2;have HK2:=kp hk2;have HK12:=kp (HK1.out.below hw2 hl1);have HW2:=kp (HW1.out.trans (hw2.mono hs1));have hs2:=HW2.out.size;have hl2:=hk2.lt;have hl12:=HK12.out.lt;clear hk2 hw2)
    | ((with_reducible show Sl 4);go_must (refine j7 rfl 66 rfl (ndC ⟨0,0,0,0⟩) jU ?_);intro g3 w3 hg3 hk3 hw3
       have HK3:=kp hk3;have HK23:=kp (HK2.out.below hw3 hl2);have HK13:=kp (HK12.out.below hw3 hl12);have HW3:=kp (HW2.out.trans (hw3.mono hs2));have hs3:=HW3.out.size;have hl3:=hk3.lt
       have hz0:=HK13.out.cell 3;have hy0:=HK23.out.cell 0;have hy1:=HK23.out.cell 1
       have hfcl:=(HW3.out.cell (p:=ad.add f) (by rw [add_block];omega)).trans HFC2.out
       simp only [List.getElem?_cons_zero,List.getElem?_cons_succ] at hz0 hy0 hy1
       clear hk3 hw3))
  go_quiet (first
    | (go_at_call_of 29 (Value.int IntKind.i64 (f : Int));exact lO (yC (f : Int) (p.len : Int) HIf.out HIp.out true HI1.out _))
    | (go_at_call_of 29 (Value.int IntKind.i64 (n : Int));exact lO (yC (n : Int) (fn.len : Int) HIn.out HIl.out true HI2.out _)))
  obtain ⟨w4,hw4⟩ : ∃ y,w3.drewN nq = y:=⟨_,rfl⟩
  have HK14 : Kept (Blk w4 g1 24 [.int .i64 p.g,.int .i64 p.l,.int .i64 p.s,.slice (some ad) p.len p.cap]):=kp (by rw [← hw4];exact HK13.out.drewN nq)
  have HK24 : Kept (Blk w4 g2 52 [.int .i64 (f : Int),.int .i64 (n : Int)]):=kp (by rw [← hw4];exact HK23.out.drewN nq)
  have HK34 : Kept (Blk w4 g3 66 (ndC ⟨0,0,0,0⟩)):=kp (by rw [← hw4];exact HK3.out.drewN nq)
  have HW4 : Kept (Below w.heap.size w w4):=kp (by rw [← hw4];exact below_drewN HW3.out nq)
  rw [hw4]
  have hs4:=HW4.out.size
  clear hw4 hz0 hy0 hy1 hfcl
  have hp1:=HK14.out.cell 1;have hp2:=HK14.out.cell 2;have hz0:=HK14.out.cell 3;have hy0:=HK24.out.cell 0
  have hfcl:=(HW4.out.cell (p:=ad.add f) (by rw [add_block];omega)).trans HFC2.out
  simp only [List.getElem?_cons_zero,List.getElem?_cons_succ] at hp1 hp2 hz0 hy0
  go_wp2_with (first
    | ((refine jF rfl 3 (.tmp 40) (.tmp 36) rfl g1 1 (.int .i64 p.l) rfl rfl rfl rfl _ _ HK14.out (by show 1 < 4;omega) xX ?_);intro w5 hk5 hg5 hs5;have HK15:=kp hk5;have HG5:=kp hg5;clear hk5 hg5)
    | ((refine jF rfl 3 (.tmp 41) (.tmp 39) rfl g1 2 (.int .i64 p.s) rfl rfl rfl rfl _ _ HK15.out (by show 2 < 4;omega) xX ?_);intro w6 hk6 hg6 hs6;have HK16:=kp hk6;have HG6:=kp hg6;clear hk6 hg6))
  have HG : Kept (w4.grownBy w6 (some g1)):=kp (lH HG5.out HG6.out)
  have HK1 : Kept (Blk w6 g1 24 [.int .i64 p.g,.int .i64 p.l,.int .i64 p.s,.slice (some ad) p.len p.cap]):=kp HK16.out
  have hg12 : g1 ≠ g2:=by omega
  have hg13 : g1 ≠ g3:=by omega
  have HK2:=kp (HK24.out.grown HG.out (fun e => hg12 (by cases e;rfl)))
  have HK3:=kp (HK34.out.grown HG.out (fun e => hg13 (by cases e;rfl)))
  have HW6 : Kept (Below w.heap.size w w6):=kp (HW4.out.grown HG.out hs4 (fun k e => by cases e;exact hg1))
  have hs6:=HW6.out.size
  have hk1l:=HK1.out.lt;have hk2l:=HK2.out.lt
  clear hp1 hp2 hz0 hy0 hfcl
  simp only [QP]
  apply jR (.is _ :: .is _ :: .is _ :: .is _ :: .is _ :: .is (ndA x) :: .is _ :: .is _ :: .is _ :: .is _ :: [])
    [[],[],[],[(2,44)],[(1,43),(3,45)],[(4,46)],[],[(6,48)],[(0,42),(5,47),(7,49)],[(8,50)]]
    [(0,42),(1,43),(2,44),(3,45),(4,46),(5,47),(6,48),(7,49),(8,50),(9,51)] (by kernel_rfl) (by kernel_rfl)
  case hob =>
    refine ⟨?o0,?o1,?o2,?o3,?o4,?o5,?o6,?o7,?o8,?o9,trivial⟩
    case o0 =>
      intro W hW;change wpList _ _ _ _ _ _
      have hb:=HK1.out.below hW hk1l
      have hc0:=hb.cell 0;have hc1:=hb.cell 1;have hc2:=hb.cell 2;have hc3:=hb.cell 3
      simp only [List.getElem?_cons_zero,List.getElem?_cons_succ] at hc0 hc1 hc2 hc3
      clear hb
      go_wp2;exact j3 rfl rfl rfl
    case o1 => intro W hW;change wpList _ _ _ _ _ _;go_wp2;exact j3 rfl rfl rfl
    case o2 => intro W hW;change wpList _ _ _ _ _ _;go_wp2;exact j3 rfl rfl rfl
    case o3 =>
      intro W hW;rintro _ rfl;change wpList _ _ _ _ _ _
      have hc1:=(HK2.out.below hW hk2l).cell 1
      simp only [List.getElem?_cons_zero,List.getElem?_cons_succ] at hc1
      go_wp2;exact j3 rfl rfl rfl
    case o4 => intro W hW;rintro _ rfl;rintro _ rfl;change wpList _ _ _ _ _ _;go_wp2;exact j3 rfl rfl rfl
    case o5 =>
      intro W hW;rintro _ rfl;change wpList _ _ _ _ _ _
      have hb:=HW6.out.trans (hW.mono hs6)
      have hc0:=(hb.cell (p:=ad2.add (n * 4)) (by rw [add_block];omega)).trans HN0.out
      have hc1:=(hb.cell (p:=⟨(ad2.add (n * 4)).block,(ad2.add (n * 4)).off + 1,none⟩) (by show (ad2.add (n * 4)).block < _;rw [add_block];omega)).trans HN1.out
      have hc2:=(hb.cell (p:=⟨(ad2.add (n * 4)).block,(ad2.add (n * 4)).off + 2,none⟩) (by show (ad2.add (n * 4)).block < _;rw [add_block];omega)).trans HN2.out
      have hc3:=(hb.cell (p:=⟨(ad2.add (n * 4)).block,(ad2.add (n * 4)).off + 3,none⟩) (by show (ad2.add (n * 4)).block < _;rw [add_block];omega)).trans HN3.out
      clear hb
      go_wp2;exact j3 rfl rfl rfl
    case o6 => intro W hW;change wpList _ _ _ _ _ _;go_wp2;exact j3 rfl rfl rfl
    case o7 => intro W hW;rintro _ rfl;change wpList _ _ _ _ _ _;go_wp2;exact j3 rfl rfl rfl
    case o8 =>
      intro W hW;rintro _ rfl;rintro _ rfl;rintro _ rfl;change wpList _ _ _ _ _ _
      have hb:=HW6.out.trans (hW.mono hs6)
      have hC:=uE B p x HX.out (fn.len : Int) HIl.out true HM.out W (HP.out.below (hb.mono hB)) (by have:=hb.size;omega)
      rw [jM,HEC.out] at hC
      clear hb
      go_wp2_with fail
      refine hC.mono ?_
      rintro e w2 ⟨rfl,hb2⟩
      have HB2:=kp hb2;clear hb2
      go_wp2
      exact jE rfl rfl rfl HB2.out rfl
    case o9 => intro W hW;rintro _ rfl;change wpList _ _ _ _ _ _;go_wp2;exact j3 rfl rfl rfl
  case hend =>
    intro W hW;rintro _ rfl;rintro _ rfl;rintro _ rfl;rintro _ rfl;rintro _ rfl;rintro _ rfl;rintro _ rfl;rintro _ rfl;rintro _ rfl;rintro _ rfl
    simp only [given,jI,List.set]
    have hb:=HW6.out.trans (hW.mono hs6)
    have HWw:=kp hb
    have hsw:=hb.size
    have hc0:=(hb.cell (p:=ad2.add (n * 4)) (by rw [add_block];omega)).trans HN0.out
    have hc1:=(hb.cell (p:=⟨(ad2.add (n * 4)).block,(ad2.add (n * 4)).off + 1,none⟩) (by show (ad2.add (n * 4)).block < _;rw [add_block];omega)).trans HN1.out
    have hc2:=(hb.cell (p:=⟨(ad2.add (n * 4)).block,(ad2.add (n * 4)).off + 2,none⟩) (by show (ad2.add (n * 4)).block < _;rw [add_block];omega)).trans HN2.out
    have hc3:=(hb.cell (p:=⟨(ad2.add (n * 4)).block,(ad2.add (n * 4)).off + 3,none⟩) (by show (ad2.add (n * 4)).block < _;rw [add_block];omega)).trans HN3.out
    have hy1:=(HK2.out.below hW hk2l).cell 1
    simp only [List.getElem?_cons_zero,List.getElem?_cons_succ] at hy1
    have HK3w:=kp (HK3.out.below hW HK3.out.lt)
    clear hb hW
    go_wp2_with (first
      | ((with_reducible show Sn);go_must (refine j5 rfl 66 (.tmp 4) (.tmp 57) rfl g3 (ndC x) rfl rfl _ _ HK3w.out jD rfl (jK x) ?_);intro w8 hk8 hg8 hs8;have HK8:=kp hk8;have HW8:=kp (HWw.out.grown hg8 hsw (fun k e => by cases e;omega));clear hk8 hg8)
      | ((with_reducible show bodyPost _ _ _ _ _ _);exact bodyPost_ret (lN (P:=Tryd.prog) (fn:=Tryd.f51) rfl _ _ g3 66 _ _ _ rfl rfl HK8.out Tryd.underlying66 rfl jD) rfl ⟨rfl,HW8.out⟩))
def atNd (p : Pg) (c : M.Cf) (t : Int) : Nd:=if M.lives c t = true then M.node p c t.toNat else ⟨0,0,0,0⟩
theorem lK (q : Pc) : ∀ u ∈ pcC q,u.oneCell' = true:=by
  intro u hu
  unfold pcC at hu
  rcases List.mem_cons.1 hu with rfl | hu
  · rfl
  · obtain ⟨x,_,rfl⟩:=List.mem_map.1 hu
    rfl
theorem lQ {q : Pc} (h : q.ow.length = 16) : (pcC q).length = 17:=by simp [pcC,h]
theorem x7 (q : Pc) : pcA q = .agg (pcC q).toArray:=rfl
set_option maxRecDepth 100000 in
set_option maxHeartbeats 1600000 in
theorem zT (B : Nat) (p : Pg) (hf : Fine p) (q : Pc) (w : World) (hp : p.Ok w B) (hq : q.Ok w B) (hg : M.Good p q.cf) (hB : B ≤ w.heap.size) (t : Int) (ht : I64 t) (b : Bool) (hb : M.lives q.cf t = b) (x : Nd) (hx : atNd p q.cf t = x) :
    Calls Tryd.prog 32 #[pcA q,pgA p,.int .i64 t] w fun e w' => e = .returned (.tuple #[ndA x,.bool b]) ∧ Below w.heap.size w w':=by
  have h8 : q.len ≤ 8:=by rw [← hq.len];exact hg.most
  have hq17 : (pcC q).length = 17:=lQ hg.owns
  have HQ17:=kp hq17
  have HP:=kp hp;have HQ:=kp hq;have HT:=kp ht;have HB:=kp hb
  cases b
  · have HX : Kept (x = ⟨0,0,0,0⟩):=kp (by rw [← hx];unfold atNd;rw [hb];rfl)
    rw [HX.out]
    clear hp hq ht hb hx hg hf hq17
    rw [x7,jM]
    go_enter Tryd.func32,Tryd.ntmps32
    go_wp2_with (first
      | ((with_reducible refine j4 rfl 43 (.tmp 0) rfl (pcC q) rfl ?_);intro g1 w1 hg1 hk1 hw1;have HK1:=kp hk1;have HW1:=kp hw1;have hs1:=hw1.size;have hl1:=hk1.lt;clear hk1 hw1)
      | ((with_reducible refine j4 rfl 24 (.tmp 1) rfl (pgC p) rfl ?_);intro g2 w2 hg2 hk2 hw2;have HK12:=kp (HK1.out.below hw2 hl1);have HW2:=kp (HW1.out.trans (hw2.mono hs1));have hs2:=HW2.out.size;have hl12:=HK12.out.lt;clear hk2 hw2)
      | ((with_reducible show Sl 6);go_must (refine j7 rfl 66 rfl (ndC ⟨0,0,0,0⟩) jU ?_);intro g3 w3 hg3 hk3 hw3
         have HK3:=kp hk3;have HK13:=kp (HK12.out.below hw3 hl12);have HW3:=kp (HW2.out.trans (hw3.mono hs2));have hs3:=HW3.out.size;have hl3:=hk3.lt;clear hk3 hw3)
      | ((with_reducible show Sl 8);go_must (refine j6 rfl 43 (.tmp 3) rfl g1 rfl _ (pcC q) _ HK13.out Tryd.underlying43 rfl (by rw [HQ17.out];exact jH) ?_))
      | (go_at_call 15;go_must (refine (qM B q w3 (HQ.out.below (HW3.out.mono hB)) (by omega) (by omega) t HT.out false HB.out).mono ?_);rintro e w4 ⟨rfl,hb4⟩
         have HW4:=kp (HW3.out.trans (hb4.mono hs3));have HK4:=kp (HK3.out.below hb4 hl3);have hs4:=HW4.out.size;clear hb4)
      | ((with_reducible show Sn);go_must (refine j5 rfl 66 (.tmp 6) (.tmp 12) rfl g3 (ndC ⟨0,0,0,0⟩) rfl rfl _ _ HK4.out jD rfl (jK _) ?_);intro w8 hk8 hg8 hs8;have HK8:=kp hk8;have HW8:=kp (HW4.out.grown hg8 hs4 (fun k e => by cases e;omega));clear hk8 hg8)
      | ((with_reducible show bodyPost _ _ _ _ _ _);exact bodyPost_ret (lN (P:=Tryd.prog) (fn:=Tryd.f32) rfl _ _ g3 66 _ _ _ rfl rfl HK8.out Tryd.underlying66 rfl jD) rfl ⟨rfl,HW8.out⟩))
  · obtain ⟨k,rfl⟩ : ∃ k : Nat,t = (k : Int):=⟨t.toNat,by
      unfold M.lives at hb
      rw [Bool.and_eq_true,decide_eq_true_eq] at hb
      omega⟩
    have hb2:=hb
    rw [M.lives_nat] at hb2
    have hkl : k < q.len:=by rw [← hq.len];exact M.lives_lt hb2
    have hxn : M.node p q.cf k = x:=by rw [← hx];unfold atNd;rw [hb];rfl
    obtain ⟨ad,th,hA,hadB,hth,hsok,hthc,hsl,hc0,_⟩:=hq.thread hkl
    have hs0 : 0 < th.sv.len:=by
      unfold M.livesN at hb2
      rw [hthc,decide_eq_true_eq] at hb2
      rw [← hsl];exact hb2
    obtain ⟨ad2,hA2,hadB2,hl0,hl1⟩:=hsok.last hs0
    obtain ⟨fn,hfn,hfi,hfx⟩:=M.node_is hg hb2
    rw [hxn,hthc] at hfx
    rw [hthc] at hfn
    have hlen16 : th.sv.len ≤ 1000:=by
      have h1:=M.high hf hp.row.len hg (x:=tvT th) (List.mem_map_of_mem (List.mem_of_getElem? hth))
      have h2:=hf.counts.f
      have h3 : (tvT th).stack.length = th.sv.len:=hsl
      omega
    rw [hA2] at hc0
    obtain ⟨F,hF⟩ : ∃ F,(M.top (tvT th).stack).1 = F:=⟨_,rfl⟩
    obtain ⟨N,hN⟩ : ∃ N,(M.top (tvT th).stack).2 = N:=⟨_,rfl⟩
    rw [hF] at hfn
    rw [hN] at hfx
    have hl0' : w.cell? (ad2.add ((th.sv.len - 1) * 2)) = some (.int .i64 (F : Int)):=by rw [← hF];exact hl0
    have hl1' : w.cell? ⟨(ad2.add ((th.sv.len - 1) * 2)).block,(ad2.add ((th.sv.len - 1) * 2)).off + 1,none⟩ = some (.int .i64 (N : Int)):=by rw [← hN];exact hl1
    have HC0:=kp hc0;have HL0:=kp hl0';have HL1:=kp hl1';have HFn:=kp hfn;have HFx:=kp hfx;have HFine:=kp hf
    have hqc:=hq.lc;have hqm:=hq.cm;have hxc:=hsok.lc;have hxm:=hsok.cm
    unfold maxLen at hqm hxm
    obtain ⟨n,hn⟩ : ∃ n,th.sv.len = n:=⟨_,rfl⟩
    obtain ⟨cp,hcp⟩ : ∃ cp,th.sv.cap = cp:=⟨_,rfl⟩
    rw [hn] at HC0 HL0 HL1 hs0 hlen16 hxc
    rw [hcp] at HC0 hxc hxm
    have HE : Kept (pcC q = .slice (some ad) q.len q.cap :: q.ow.map natV):=kp (by unfold pcC;rw [hA])
    clear hp hq ht hb hx hg hf hq17 hc0 hl0 hl1 hl0' hl1' hfn hfx hF hN hb2 hxn hth hsok hthc hsl hA hA2 hfi hn hcp
    rw [x7,jM]
    go_enter Tryd.func32,Tryd.ntmps32
    go_wp2_with (first
      | ((with_reducible refine j4 rfl 43 (.tmp 0) rfl (pcC q) rfl ?_);intro g1 w1 hg1 hk1 hw1;have HK1:=kp hk1;have HW1:=kp hw1;have hs1:=hw1.size;have hl1:=hk1.lt;clear hk1 hw1)
      | ((with_reducible refine j4 rfl 24 (.tmp 1) rfl (pgC p) rfl ?_);intro g2 w2 hg2 hk2 hw2;have HK12:=kp (HK1.out.below hw2 hl1);have HK2:=kp hk2;have HW2:=kp (HW1.out.trans (hw2.mono hs1));have hs2:=HW2.out.size;have hl12:=HK12.out.lt;have hl2:=hk2.lt;clear hk2 hw2)
      | ((with_reducible show Sl 6);go_must (refine j7 rfl 66 rfl (ndC ⟨0,0,0,0⟩) jU ?_);intro g3 w3 hg3 hk3 hw3
         have HK3:=kp hk3;have HK13:=kp (HK12.out.below hw3 hl12);have HK23:=kp (HK2.out.below hw3 hl2);have HW3:=kp (HW2.out.trans (hw3.mono hs2));have hs3:=HW3.out.size;have hl3:=hk3.lt;clear hk3 hw3)
      | ((with_reducible show Sl 8);go_must (refine j6 rfl 43 (.tmp 3) rfl g1 rfl _ (pcC q) _ HK13.out Tryd.underlying43 rfl (by rw [HQ17.out];exact jH) ?_))
      | (go_at_call 15;go_must (refine (qM B q w3 (HQ.out.below (HW3.out.mono hB)) (by omega) (by omega) (k : Int) HT.out true HB.out).mono ?_);rintro e w4 ⟨rfl,hb4⟩
         have HW4:=kp (HW3.out.trans (hb4.mono hs3));have HK34:=kp (HK3.out.below hb4 hl3);have HK14:=kp (HK13.out.below hb4 HK13.out.lt);have HK24:=kp (HK23.out.below hb4 HK23.out.lt);have hs4:=HW4.out.size;clear hb4))
    have hd1:=HK14.out.lt;have hd2:=HK24.out.lt
    apply jJ 11 (.is (pgA p) :: .is _ :: .is _ :: .is _ :: .is _ :: .is _ :: .is _ :: .is (.agg #[.int .i64 (F : Int),.int .i64 (N : Int)]) :: .is (.tuple #[ndA x,.bool true]) :: .is _ :: .is _ :: [])
      [[],[],[(1,14)],[],[(2,15),(3,16)],[(4,17)],[(5,18)],[(6,19)],[(0,13),(7,20)],[(8,21)],[(8,21)],[(9,22)],[(10,23)]]
      [(0,13),(1,14),(2,15),(3,16),(4,17),(5,18),(6,19),(7,20),(8,21),(9,22),(10,23)] (by kernel_rfl) (by kernel_rfl) (by kernel_rfl) (by kernel_rfl) (by kernel_rfl)
    case hob =>
      refine ⟨?o0,?o1,?o2,?o3,?o4,?o5,?o6,?o7,?o8,?o9,?o10,trivial⟩
      case o0 =>
        intro W hW;change wpList _ _ _ _ _ _
        obtain ⟨hc0,hc1,hc2,hc3⟩:=j8 (HK24.out.below hW hd2)
        go_wp2;exact j3 rfl rfl rfl
      case o1 => intro W hW;change wpList _ _ _ _ _ _;go_wp2;exact j3 rfl rfl rfl
      case o2 =>
        intro W hW;rintro _ rfl;change wpList _ _ _ _ _ _
        have hc:=(HK14.out.below hW hd1).cell 0
        rw [HE.out,List.getElem?_cons_zero] at hc
        go_wp2;exact j3 rfl rfl rfl
      case o3 => intro W hW;change wpList _ _ _ _ _ _;go_wp2;exact j3 rfl rfl rfl
      case o4 => intro W hW;rintro _ rfl;rintro _ rfl;change wpList _ _ _ _ _ _;go_wp2;exact j3 rfl rfl rfl
      case o5 =>
        intro W hW;rintro _ rfl;change wpList _ _ _ _ _ _
        have hc:=((HW4.out.trans (hW.mono hs4)).cell (p:=ad.add (k * 9)) (by rw [add_block];omega)).trans HC0.out
        have HC:=kp (u5 (ad.add (k * 9)) ad2 n cp W hs0 hlen16 hc)
        clear hc
        go_wp2_with fail
        refine HC.out.mono ?_
        rintro e w2 ⟨rfl,m,rfl⟩
        go_wp2
        exact jE rfl rfl rfl (below_drewN (Below.refl _ _) m) rfl
      case o6 => intro W hW;rintro _ rfl;change wpList _ _ _ _ _ _;go_wp2;exact j3 rfl rfl rfl
      case o7 =>
        intro W hW;rintro _ rfl;change wpList _ _ _ _ _ _
        have hb:=HW4.out.trans (hW.mono hs4)
        have hc0:=(hb.cell (p:=ad2.add ((n - 1) * 2)) (by rw [add_block];omega)).trans HL0.out
        have hc1:=(hb.cell (p:=⟨(ad2.add ((n - 1) * 2)).block,(ad2.add ((n - 1) * 2)).off + 1,none⟩) (by show (ad2.add ((n - 1) * 2)).block < _;rw [add_block];omega)).trans HL1.out
        clear hb
        go_wp2;exact j3 rfl rfl rfl
      case o8 =>
        intro W hW;rintro _ rfl;rintro _ rfl;change wpList _ _ _ _ _ _
        have hb:=HW4.out.trans (hW.mono hs4)
        have HC:=kp (QG B p HFine.out F N fn x HFn.out HFx.out W (HP.out.below (hb.mono hB)) (by have:=hb.size;omega))
        clear hb
        go_wp2_with fail
        refine HC.out.mono ?_
        rintro e w2 ⟨rfl,hb2⟩
        have HB2:=kp hb2;clear hb2
        go_wp2
        exact jE rfl rfl rfl HB2.out rfl
      case o9 => intro W hW;rintro _ rfl;change wpList _ _ _ _ _ _;go_wp2;exact j3 rfl rfl rfl
      case o10 => intro W hW;rintro _ rfl;change wpList _ _ _ _ _ _;go_wp2;exact j3 rfl rfl rfl
    case hend =>
      intro W hW;rintro _ rfl;rintro _ rfl;rintro _ rfl;rintro _ rfl;rintro _ rfl;rintro _ rfl;rintro _ rfl;rintro _ rfl;rintro _ rfl;rintro _ rfl;rintro _ rfl
      simp only [given,jI,List.set,List.drop]
      have HWw:=kp (HW4.out.trans (hW.mono hs4))
      have hsw:=HWw.out.size
      have HK3w:=kp (HK34.out.below hW HK34.out.lt)
      clear hW
      go_wp2_with (first
        | ((with_reducible show Sn);go_must (refine j5 rfl 66 (.tmp 6) (.tmp 22) rfl g3 (ndC x) rfl rfl _ _ HK3w.out jD rfl (jK x) ?_);intro w8 hk8 hg8 hs8;have HK8:=kp hk8;have HW8:=kp (HWw.out.grown hg8 hsw (fun k e => by cases e;omega));clear hk8 hg8)
        | ((with_reducible show bodyPost _ _ _ _ _ _);exact bodyPost_ret (lN (P:=Tryd.prog) (fn:=Tryd.f32) rfl _ _ g3 66 _ _ _ rfl rfl HK8.out Tryd.underlying66 rfl jD) rfl ⟨rfl,HW8.out⟩))
end Go.Proofs.YtoekiejipdabmaaDoor
