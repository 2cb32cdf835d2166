/- TextStep, SemP7, SemP8, SemP9, Build, SemBuild, SemPush. -/
import Derived.Test.YtnaomfmmkhgbhaaPk5
import Derived.Maps.AppendAt
import Derived.Test.YtnaomfmmkhgbhaaPk6
import Derived.Test.YtnaomfmmkhgbhaaPk3
import Derived.Test.YtnaomfmmkhgbhaaPk1
import Derived.Great.FillDense
import Derived.Great.BuildSlice
namespace Go.Proofs.Ytnaomfmmkhgbhaa
open Go.RowKit
section
variable {P : Program} {ops : Array Oper} {rest : List Oper} {o : Oper} {a : Act} {w : World} {Q : Exit → Act → World → Prop} {α : Type}
theorem zM {e : TypeId} {gn : Nat} {vs : List Value} (h : Blk w gn e vs) : ∀ j y,vs[j]? = some y → w.cell? ((⟨gn,0,none⟩ : Addr).add j) = some y:=fun j y hy => by
  have hadd : (⟨gn,0,none⟩ : Addr).add j = ⟨gn,j,none⟩:=by unfold Addr.add;split <;> simp_all
  rw [hadd,h.cell j];exact hy
theorem zW (hgd : o.guard = none) (s x : Operand) (t : TypeId)
    (ho : o.op = .call { callee:=.builtin .append,args:=#[s,x],argTypes:=#[t,t] })
    (B : Nat) (e : TypeId) (sz : Nat) (z : Value) (bytes : Nat) (ht : P.underlying t = some (.slice e)) (hi : (P.info? e).map (fun i => (i.zero,i.size,i.bytes)) = some (some z,sz,bytes)) (hzs : z.cells.size = sz) (hsz : 0 < sz)
    (f : α → Nat → Value) (hone : ∀ x j,(f x j).oneCell' = true)
    (q cap : Nat) (l : List α) (u : α) (hs : a.eval s = .slice (some ⟨q,0,none⟩) l.length cap) (hown : OwnR sz f w B e (.slice (some ⟨q,0,none⟩) l.length cap) l) (hroom : l.length + 1 ≤ cap)
    (gn c : Nat) (hx : a.eval x = .slice (some ⟨gn,0,none⟩) 1 c) (hbk : Blk w gn e ((List.range sz).map (f u))) (hbytes : (l.length + 1) * bytes ≤ 140737488355328)
    (h : ∀ w',OwnR sz f w' B e (.slice (some ⟨q,0,none⟩) (l.length + 1) cap) (l ++ [u]) → w.grownBy w' (some q) → wpList P ops Q rest (a.put o.dst (.slice (some ⟨q,0,none⟩) (l.length + 1) cap)) w') : wpList P ops Q (o :: rest) a w:=by
  obtain ⟨i,hi0,hzz⟩:=Option.map_eq_some_iff.1 hi
  simp only [Prod.mk.injEq] at hzz
  obtain ⟨hz,hsize,hby⟩:=hzz
  have hone' : ∀ y ∈ (List.range sz).map (f u),y.oneCell' = true:=fun y hy => by
    obtain ⟨j,_,rfl⟩:=List.mem_map.1 hy
    exact hone u j
  rcases hown.2 with ⟨hv,_⟩ | ⟨q',cap',cur,hv,hBq,hg,hn,hm,hcs,ht2⟩
  · cases hv
  injection hv with e1 _ e3
  cases e1
  subst e3
  have hlt : q < w.heap.size:=(Array.getElem?_eq_some_iff.1 hg).1
  obtain ⟨v',w',hr,h2,h3,_⟩:=run_append_own_at (P:=P) w B t o.type e i z sz bytes ht hi0 hz hsize hby hzs hsz _ l.length (cellsR sz f l) hown ⟨gn,0,none⟩ 1 c ((List.range sz).map (f u)) (by simp) (zM hbk) hone'
    (by omega) hbytes (by omega)
  have hr2:=run_append_room (P:=P) w t o.type e i ht hi0 q l.length cap cur hg ⟨gn,0,none⟩ 1 c ((List.range sz).map (f u)) (by rw [hsize];simp) (zM hbk) hone' hroom (by
    rw [hsize,hcs]
    have h9:=Nat.mul_le_mul_right sz hroom
    simp [Nat.add_mul] at h9 ⊢;omega)
  rw [hr] at hr2
  injection hr2 with e1 e2
  subst e1
  refine wpList_plain hgd fun K hK => ?_
  unfold Oper.wp execOp
  simp only [ho,resolve,invoke,builtin,Sem.run_bind,Sem.run_pure,Result.andThen_ok,List.map_toArray,List.map_cons,List.map_nil,hs,hx,hr]
  refine hK _ _ (h w' ?_ h3)
  unfold OwnR
  rw [List.length_append,List.length_singleton,xT]
  have e1 : cellsR sz f [u] = (List.range sz).map (f u):=by simp [cellsR]
  rw [e1]
  exact h2
theorem xJ (hgd : o.guard = none) (s x : Operand) (t : TypeId)
    (ho : o.op = .call { callee:=.builtin .append,args:=#[s,x],argTypes:=#[t,t] })
    (B : Nat) (e : TypeId) (sz : Nat) (z : Value) (bytes : Nat) (ht : P.underlying t = some (.slice e)) (hi : (P.info? e).map (fun i => (i.zero,i.size,i.bytes)) = some (some z,sz,bytes)) (hzs : z.cells.size = sz) (hsz : 0 < sz)
    (f : α → Nat → Value) (hone : ∀ x j,(f x j).oneCell' = true)
    (v : Value) (l : List α) (u : α) (hs : a.eval s = v) (hown : OwnR sz f w B e v l) (hfull : v = .slice none 0 0 ∨ ∃ q,v = .slice (some ⟨q,0,none⟩) l.length l.length)
    (gn c : Nat) (hx : a.eval x = .slice (some ⟨gn,0,none⟩) 1 c) (hbk : Blk w gn e ((List.range sz).map (f u))) (h63 : l.length + 1 ≤ maxLen) (hbytes : (l.length + 1) * bytes ≤ 140737488355328) (hB : B ≤ w.heap.size)
    (h : ∀ v' w',OwnR sz f w' B e v' (l ++ [u]) → Below w.heap.size w w' → v'.ownBlock = some w.heap.size → wpList P ops Q rest (a.put o.dst v') w') : wpList P ops Q (o :: rest) a w:=by
  obtain ⟨i,hi0,hzz⟩:=Option.map_eq_some_iff.1 hi
  simp only [Prod.mk.injEq] at hzz
  obtain ⟨hz,hsize,hby⟩:=hzz
  have hone' : ∀ y ∈ (List.range sz).map (f u),y.oneCell' = true:=fun y hy => by
    obtain ⟨j,_,rfl⟩:=List.mem_map.1 hy
    exact hone u j
  obtain ⟨v',w',hr,h2,h3,_,h5⟩:=run_append_own_at (P:=P) w B t o.type e i z sz bytes ht hi0 hz hsize hby hzs hsz v l.length (cellsR sz f l) hown ⟨gn,0,none⟩ 1 c ((List.range sz).map (f u)) (by simp) (zM hbk) hone'
    h63 hbytes hB
  have hsm : l.length + 1 ≤ 9223372036854775807:=by unfold maxLen at h63;omega
  have hnew : ∃ cs k,w' = w.drew.alloc (.cells cs e) ∧ v' = .slice (some ⟨w.heap.size,0,none⟩) (l.length + 1) k:=by
    rcases hfull with rfl | ⟨q,rfl⟩
    · have hl0 : l.length = 0:=by
        rcases hown.2 with ⟨_,h0⟩ | ⟨q',cap',cur,hv,_⟩
        · exact h0
        · cases hv
      have hr2:=run_append_nil (P:=P) w t o.type e i z ht hi0 hz ⟨gn,0,none⟩ 1 c ((List.range sz).map (f u)) (by rw [hsize];simp) (zM hbk) (by omega) (by omega) (by rw [hby];have:=hbytes;rw [hl0] at this;omega)
      rw [hr] at hr2
      injection hr2 with e1 e2
      exact ⟨_,_,e2,by rw [e1,hl0]⟩
    · have holds : ∀ j y,(cellsR sz f l)[j]? = some y → w.cell? ((⟨q,0,none⟩ : Addr).add j) = some y:=World.ownsRow.cells hown (g:=q) rfl
      have hr2:=run_append_grow (P:=P) w t o.type e i z ht hi0 hz ⟨q,0,none⟩ l.length l.length (cellsR sz f l) (by rw [hsize,lU]) holds ⟨gn,0,none⟩ 1 c ((List.range sz).map (f u)) (by rw [hsize];simp) (zM hbk) (by omega) (by omega) (by rw [hby];exact growslice_fits (by omega) (by omega))
      rw [hr] at hr2
      injection hr2 with e1 e2
      exact ⟨_,_,e2,e1⟩
  obtain ⟨cs,k,rfl,rfl⟩:=hnew
  refine wpList_plain hgd fun K hK => ?_
  unfold Oper.wp execOp
  simp only [ho,resolve,invoke,builtin,Sem.run_bind,Sem.run_pure,Result.andThen_ok,List.map_toArray,List.map_cons,List.map_nil,hs,hx,hr]
  refine hK _ _ (h _ _ ?_ ?_ rfl)
  · unfold OwnR
    rw [List.length_append,List.length_singleton,xT]
    have e1 : cellsR sz f [u] = (List.range sz).map (f u):=by simp [cellsR]
    rw [e1]
    exact h2
  · exact ⟨rfl,rfl,rfl,by simp,fun k hk => Below.heap_alloc w.drew _ k hk⟩
end
def turnC (gN k : Nat) (way : Bool) (x : Nd) : List Value:=[.pointer (some ⟨gN,0,none⟩),.int .i64 (k : Int),.bool way,.int .i64 x.kind,.int .i64 x.arg,.int .i64 x.next,.int .i64 x.alt]
theorem lH (a : Act) (v : Value) : a.put none v = a:=rfl
set_option maxRecDepth 100000 in
set_option maxHeartbeats 800000 in
theorem xL (gU gN gT k n c : Nat) (way : Bool) (x : Nd) (w : World) (hu : Blk w gU 106 (turnC gN k way x)) (hn : w.cell? ⟨gN,0,none⟩ = some (.slice (some ⟨gT,0,none⟩) n c)) (hk : k < n) :
    Calls Try.prog 78 #[.pointer (some ⟨gU,0,none⟩)] w fun e w' => e = .returned (.pointer (some ⟨gT,k * 9,none⟩)) ∧ ∃ m,w' = w.drewN m:=by
  have h0:=hu.cell 0;have h1:=hu.cell 1
  simp only [turnC,List.getElem?_cons_zero,List.getElem?_cons_succ] at h0 h1
  have hkn : (k : Int) < (n : Int):=by omega
  clear hu
  go_enter Try.func78,Try.ntmps78
  go_wp2
  go_quiet (fail)
  go_wp2
  go_ret
  exact ⟨rfl,_,rfl⟩
set_option maxRecDepth 100000 in
set_option maxHeartbeats 1600000 in
theorem yF (B gN gU k : Nat) (q : Pc) (x : Nd) (way : Bool) (th : Tv) (w : World) (hst : St w B gN gU q) (hu : Blk w gU 106 (turnC gN k way x)) (hkl : k < q.len) (hth : q.tvs[k]? = some th) (hs0 : 0 < th.sv.len) (hlen16 : th.sv.len ≤ 1000) (_h8 : q.len ≤ 8) (nx : Nat) (hnx : x.next = (nx : Int)) :
    Calls Try.prog 64 #[.pointer (some ⟨gU,0,none⟩)] w fun e w' => e = .returned (.tuple #[]) ∧ St w' B gN gU (q.put k (tvGo th nx)) ∧ Blk w' gU 106 (turnC gN k way x) ∧ Below B w w':=by
  obtain ⟨gT,curT,th',hA,hbT,hth',hcT0,hcTj,hTN,hTU,hBT,hsl,hthc,hcTl⟩:=hst.thread hkl
  rw [hth] at hth'
  cases hth'
  obtain ⟨gS,cur,hSA,hbS,hlen,hSN,hSU,hBS,hput⟩:=hst.goes hth hs0
  have hbound:=hst.ok
  have hqc:=hbound.lc;have hqm:=hbound.cm
  unfold maxLen at hqm
  have HE : Kept (pcC q = .slice (some ⟨gT,0,none⟩) q.len q.cap :: q.ow.map natV):=kp (by unfold pcC;rw [hA])
  have hgN:=hst.conf.lt;have hgU:=hu.lt;have hgT:=hbT.lt;have hgS:=hbS.lt
  have HSt:=kp hst;have HK:=kp hu;have HT:=kp hbT;have HS:=kp hbS;have HPut:=kp hput
  have hxc:=hbound.svs th (List.mem_of_getElem? hth)
  have hxc2:=hxc.lc;have hxm:=hxc.cm
  unfold maxLen at hxm
  rw [hSA] at hcT0
  have HC0:=kp hcT0
  have hlow:=hst.low.1
  have hBw : B ≤ w.heap.size:=by omega
  have HLow:=kp hst.low
  obtain ⟨n,hn⟩ : ∃ n,th.sv.len = n:=⟨_,rfl⟩
  obtain ⟨cp,hcp⟩ : ∃ cp,th.sv.cap = cp:=⟨_,rfl⟩
  have HThl:=kp hn
  rw [hn] at HC0 hs0 hlen16 hxc2 hlen HPut
  rw [hcp] at HC0 hxc2 hxm
  have HB : Kept (Below B w w):=kp (Below.refl _ _)
  clear hst hu hth hput hbT hbS hcT0 hcTj hthc hcTl hsl hbound hxc hn hcp hSA hA
  go_enter Try.func64,Try.ntmps64
  go_wp2
  apply jC 10 (.is _ :: .is _ :: .is _ :: .is _ :: .is _ :: .is _ :: .is _ :: .is _ :: .is _ :: .is _ :: [])
    [[],[(0,2)],[(1,3)],[],[(3,5)],[(4,6)],[(5,7)],[(6,8)],[(2,4)],[(8,10)],[(9,11),(7,9)]]
    [(0,2),(1,3),(2,4),(3,5),(4,6),(5,7),(6,8),(7,9),(8,10),(9,11)] (by kernel_rfl) (by kernel_rfl) (by kernel_rfl) (by kernel_rfl) (by kernel_rfl)
  case hob =>
    refine ⟨?o0,?o1,?o2,?o3,?o4,?o5,?o6,?o7,?o8,?o9,trivial⟩
    case o0 => intro W hW;change wpList _ _ _ _ _ _;go_wp2;exact j0 rfl rfl rfl
    case o1 =>
      intro W hW;rintro _ rfl;change wpList _ _ _ _ _ _
      have hCu:=(HK.out.below hW hgU)
      have hCn:=((HSt.out.conf.below hW hgN).cell 0)
      rw [HE.out,List.getElem?_cons_zero] at hCn
      have HC:=kp (xL gU gN gT k q.len q.cap way x W hCu hCn hkl)
      clear hCu hCn
      go_wp2_with fail
      refine (HC.out).mono ?_
      rintro e w2 ⟨rfl,m,rfl⟩
      go_wp2
      exact jB rfl rfl rfl (below_drewN (Below.refl _ _) m) rfl
    case o2 =>
      intro W hW;rintro _ rfl;change wpList _ _ _ _ _ _
      have hc:=(HT.out.below hW hgT).cell (k * 9)
      rw [HC0.out] at hc
      have hC:=JJ ⟨gT,k * 9,none⟩ ⟨gS,0,none⟩ n cp W hs0 hlen16 hc
      rw [uR] at hC
      have HC:=kp hC
      clear hc hC
      go_wp2_with fail
      refine (HC.out).mono ?_
      rintro e w2 ⟨rfl,m,rfl⟩
      go_wp2
      exact jB rfl rfl rfl (below_drewN (Below.refl _ _) m) rfl
    case o3 => intro W hW;change wpList _ _ _ _ _ _;go_wp2;exact j0 rfl rfl rfl
    case o4 => intro W hW;rintro _ rfl;change wpList _ _ _ _ _ _;go_wp2;exact j0 rfl rfl rfl
    case o5 => intro W hW;rintro _ rfl;change wpList _ _ _ _ _ _;go_wp2;exact j0 rfl rfl rfl
    case o6 => intro W hW;rintro _ rfl;change wpList _ _ _ _ _ _;go_wp2;exact j0 rfl rfl rfl
    case o7 =>
      intro W hW;rintro _ rfl;change wpList _ _ _ _ _ _
      have hc:=(HK.out.below hW hgU).cell 5
      simp only [turnC,List.getElem?_cons_zero,List.getElem?_cons_succ] at hc
      go_wp2;exact j0 rfl rfl rfl
    case o8 => intro W hW;rintro _ rfl;change wpList _ _ _ _ _ _;go_wp2;exact j0 rfl rfl rfl
    case o9 => intro W hW;rintro _ rfl;change wpList _ _ _ _ _ _;go_wp2;exact j0 rfl rfl rfl
  case hend =>
    intro W hW;rintro _ rfl;rintro _ rfl;rintro _ rfl;rintro _ rfl;rintro _ rfl;rintro _ rfl;rintro _ rfl;rintro _ rfl;rintro _ rfl;rintro _ rfl
    simp only [given,jF,List.set,List.drop]
    have HKw:=kp (HS.out.below hW hgS)
    have HStw:=kp (HSt.out.below hW (Nat.le_refl _))
    have HBw:=kp (hW.mono hBw)
    have HKu:=kp (HK.out.below hW hgU)
    have hWs:=hW.size
    have HWg:=kp hW
    have hsw:=HBw.out.size
    clear hW
    go_wp2_with (first
      | ((with_reducible show Sn);go_must (refine j6 rfl 3 (.tmp 11) (.tmp 9) rfl gS ((n - 1) * 2 + 1) (.int .i64 (nx : Int)) rfl rfl rfl rfl _ _ HKw.out hlen l7 ?_);intro w5 hk5 hg5 hs5;have HFin:=kp (HPut.out W w5 nx HWg.out hk5 hg5 hs5);have HKu5:=kp (HKu.out.grown hg5 (fun e => hSU (by cases e;rfl)));have HB5:=kp (HBw.out.grown hg5 (by omega) (fun k e => by cases e;exact hBS));clear hk5 hg5))
    go_end0
    exact ⟨rfl,HFin.out,HKu5.out,HB5.out⟩
set_option maxRecDepth 100000 in
set_option maxHeartbeats 1600000 in
theorem sem_lock (B gN gU k : Nat) (q : Pc) (x : Nd) (way : Bool) (th : Tv) (w : World) (hst : St w B gN gU q) (hu : Blk w gU 106 (turnC gN k way x)) (hkl : k < q.len) (hth : q.tvs[k]? = some th) (hs0 : 0 < th.sv.len) (hlen16 : th.sv.len ≤ 1000) (h8 : q.len ≤ 8) (nx : Nat) (hnx : x.next = (nx : Int)) (a : Nat) (ha : x.arg = (a : Int)) (ha16 : a < 16) (how : q.ow.length = 16) (hk3 : x.kind = 3) :
    Calls Try.prog 65 #[.pointer (some ⟨gU,0,none⟩)] w fun e w' => e = .returned (.tuple #[]) ∧ ∃ q',St w' B gN gU q' ∧ q'.cf = M.act q.cf k x way ∧ Below B w w':=by
  go_enter Try.func65,Try.ntmps65
  go_wp2_with fail
  refine (yF B gN gU k q x way th w hst hu hkl hth hs0 hlen16 h8 nx hnx).mono ?_
  rintro e w1 ⟨rfl,hst1,hu1,hb1⟩
  have hw1s:=hb1.size
  have hth1 : (q.put k (tvGo th nx)).tvs[k]? = some (tvGo th nx):=by
    show (q.tvs.set k (tvGo th nx))[k]? = _
    rw [List.getElem?_set,if_pos rfl,if_pos (List.getElem?_eq_some_iff.1 hth).1]
  have hcf1 : M.th q.cf k = tvT th:=Pc.th_of hth
  have HCf:=kp (Pc.put_cf q k (tvGo th nx))
  have HCf0:=kp hcf1
  have hs01 : 0 < (tvGo th nx).sv.len:=hs0
  have hlen161 : (tvGo th nx).sv.len ≤ 1000:=hlen16
  have hkl1 : k < (q.put k (tvGo th nx)).len:=hkl
  have h81 : (q.put k (tvGo th nx)).len ≤ 8:=h8
  have how1 : (q.put k (tvGo th nx)).ow = q.ow:=rfl
  have HQlen : Kept ((q.put k (tvGo th nx)).len = q.len):=kp rfl
  have HTvs : Kept ((q.put k (tvGo th nx)).tvs = q.tvs.set k (tvGo th nx)):=kp rfl
  have HTh1 : Kept (tvT (tvGo th nx) = ⟨M.goOn th.sv.stack nx,th.slots⟩):=kp rfl
  obtain ⟨q1,hq1⟩ : ∃ q1,q.put k (tvGo th nx) = q1:=⟨_,rfl⟩
  obtain ⟨th1,ht1⟩ : ∃ th1,tvGo th nx = th1:=⟨_,rfl⟩
  rw [ht1] at hq1 hth1 hs01 hlen161 HCf HTh1 HTvs hst1 hkl1 h81 how1 HQlen
  rw [hq1] at hst1 hth1 hkl1 h81 how1 HCf HQlen HTvs
  clear hst hu hq1 ht1 hcf1 hs0 hlen16
  obtain ⟨gT,curT,thx,hA,hbT,hthx,hcT0,hcTj,hTN,hTU,hBT,hsl,hthc,hcTl⟩:=hst1.thread hkl1
  rw [hth1] at hthx
  cases hthx
  obtain ⟨gS,cur,hSA,hbS,hlen,hSN,hSU,hBS,hput⟩:=hst1.goes hth1 hs01
  have hbound:=hst1.ok
  have hqc:=hbound.lc;have hqm:=hbound.cm
  unfold maxLen at hqm
  have HE : Kept (pcC q1 = .slice (some ⟨gT,0,none⟩) q1.len q1.cap :: q1.ow.map natV):=kp (by unfold pcC;rw [hA])
  have hgN:=hst1.conf.lt;have hgU:=hu1.lt;have hgT:=hbT.lt;have hgS:=hbS.lt
  have HSt:=kp hst1;have HK:=kp hu1;have HT:=kp hbT;have HS:=kp hbS;have HPut:=kp hput
  have hxc:=hbound.svs th1 (List.mem_of_getElem? hth1)
  have hxc2:=hxc.lc;have hxm:=hxc.cm
  unfold maxLen at hxm
  rw [hSA] at hcT0
  have HC0:=kp hcT0
  have hlow:=hst1.low.1
  have hBw : B ≤ w1.heap.size:=by omega
  have HLow:=kp hst1.low
  obtain ⟨n,hn⟩ : ∃ n,th1.sv.len = n:=⟨_,rfl⟩
  obtain ⟨cp,hcp⟩ : ∃ cp,th1.sv.cap = cp:=⟨_,rfl⟩
  have HThl:=kp hn
  rw [hn] at HC0 hs01 hlen161 hxc2 hlen HPut
  rw [hcp] at HC0 hxc2 hxm
  have HL17 : Kept ((pcC q1).length = 17):=kp (by show (_ :: q1.ow.map natV).length = 17;simp [how1,how])
  have HGoal : Kept ((q1.own a (k + 1)).cf = M.act q.cf k x way):=kp (by
    have e : (q1.own a (k + 1)).cf = ⟨q1.cf.ths,q1.ow.set a (k + 1)⟩:=rfl
    unfold M.act
    rw [e,HCf.out,how1,HCf0.out,if_neg (show ¬ x.kind = 9 by omega),if_pos hk3,hnx,ha,Int.toNat_natCast,Int.toNat_natCast,HTh1.out]
    rfl)
  clear hst1 hu1 hth1 hput hbT hbS hcT0 hcTj hthc hcTl hsl hbound hxc hn hcp hSA hA
  go_wp2
  apply jC 18 (.is _ :: .is _ :: .is _ :: .is _ :: .is _ :: .is _ :: .is _ :: .is _ :: .is _ :: .is _ :: .is _ :: .is _ :: .is _ :: .is _ :: .is _ :: .is _ :: .is _ :: .is _ :: [])
    [[],[(0,4)],[(1,5)],[(2,6)],[],[(4,8)],[(5,9)],[(6,10)],[(7,11)],[],[(9,13)],[(10,14)],[(11,15)],[(12,16)],[(13,17)],[(3,7)],[(15,19)],[(16,20),(8,12)],[(17,21),(14,18)]]
    [(0,4),(1,5),(2,6),(3,7),(4,8),(5,9),(6,10),(7,11),(8,12),(9,13),(10,14),(11,15),(12,16),(13,17),(14,18),(15,19),(16,20),(17,21)] (by kernel_rfl) (by kernel_rfl) (by kernel_rfl) (by kernel_rfl) (by kernel_rfl)
  case hob =>
    refine ⟨?o0,?o1,?o2,?o3,?o4,?o5,?o6,?o7,?o8,?o9,?o10,?o11,?o12,?o13,?o14,?o15,?o16,?o17,trivial⟩
    case o0 => intro W hW;change wpList _ _ _ _ _ _;go_wp2;exact j0 rfl rfl rfl
    case o1 => intro W hW;rintro _ rfl;change wpList _ _ _ _ _ _;go_wp2;exact j0 rfl rfl rfl
    case o2 => intro W hW;rintro _ rfl;change wpList _ _ _ _ _ _;go_wp2;exact j0 rfl rfl rfl
    case o3 =>
      intro W hW;rintro _ rfl;change wpList _ _ _ _ _ _
      have hc:=(HK.out.below hW hgU).cell 0
      simp only [turnC,List.getElem?_cons_zero] at hc
      go_wp2;exact j0 rfl rfl rfl
    case o4 => intro W hW;change wpList _ _ _ _ _ _;go_wp2;exact j0 rfl rfl rfl
    case o5 => intro W hW;rintro _ rfl;change wpList _ _ _ _ _ _;go_wp2;exact j0 rfl rfl rfl
    case o6 => intro W hW;rintro _ rfl;change wpList _ _ _ _ _ _;go_wp2;exact j0 rfl rfl rfl
    case o7 => intro W hW;rintro _ rfl;change wpList _ _ _ _ _ _;go_wp2;exact j0 rfl rfl rfl
    case o8 =>
      intro W hW;rintro _ rfl;change wpList _ _ _ _ _ _
      have hc:=(HK.out.below hW hgU).cell 4
      simp only [turnC,List.getElem?_cons_zero,List.getElem?_cons_succ] at hc
      rw [ha] at hc
      go_wp2;exact j0 rfl rfl rfl
    case o9 => intro W hW;change wpList _ _ _ _ _ _;go_wp2;exact j0 rfl rfl rfl
    case o10 => intro W hW;rintro _ rfl;change wpList _ _ _ _ _ _;go_wp2;exact j0 rfl rfl rfl
    case o11 => intro W hW;rintro _ rfl;change wpList _ _ _ _ _ _;go_wp2;exact j0 rfl rfl rfl
    case o12 => intro W hW;rintro _ rfl;change wpList _ _ _ _ _ _;go_wp2;exact j0 rfl rfl rfl
    case o13 =>
      intro W hW;rintro _ rfl;change wpList _ _ _ _ _ _
      have hc:=(HK.out.below hW hgU).cell 1
      simp only [turnC,List.getElem?_cons_zero,List.getElem?_cons_succ] at hc
      go_wp2;exact j0 rfl rfl rfl
    case o14 =>
      intro W hW;rintro _ rfl;change wpList _ _ _ _ _ _
      go_wp2_with fail
      refine (JI k (by omega) W).mono ?_
      rintro e w2 ⟨rfl,rfl⟩
      go_wp2
      exact j0 rfl rfl rfl
    case o15 => intro W hW;rintro _ rfl;change wpList _ _ _ _ _ _;go_wp2;exact j0 rfl rfl rfl
    case o16 => intro W hW;rintro _ rfl;change wpList _ _ _ _ _ _;go_wp2;exact j0 rfl rfl rfl
    case o17 => intro W hW;rintro _ rfl;rintro _ rfl;change wpList _ _ _ _ _ _;go_wp2;exact j0 rfl rfl rfl
  case hend =>
    intro W hW;rintro _ rfl;rintro _ rfl;rintro _ rfl;rintro _ rfl;rintro _ rfl;rintro _ rfl;rintro _ rfl;rintro _ rfl;rintro _ rfl;rintro _ rfl;rintro _ rfl;rintro _ rfl;rintro _ rfl;rintro _ rfl;rintro _ rfl;rintro _ rfl;rintro _ rfl;rintro _ rfl
    simp only [given,jF,List.set,List.drop]
    have HKw:=kp (HSt.out.conf.below hW hgN)
    have HStw:=kp (HSt.out.below hW (Nat.le_refl _))
    have HBw:=kp (hb1.trans (hW.mono hBw))
    have hWs:=hW.size
    clear hW
    go_wp2_with (first
      | ((with_reducible show Sn);go_must (refine j6 rfl 3 (.tmp 21) (.tmp 18) rfl gN (1 + a) (.int .i64 ((k + 1 : Nat) : Int)) rfl rfl rfl rfl _ _ HKw.out (by rw [HL17.out];omega) l7 ?_);intro w5 hk5 hg5 hs5;have HFin:=kp (HStw.out.owns hk5 hg5 hs5);have HB5:=kp (HBw.out.grown hg5 (by omega) (fun k e => by cases e;exact hlow));clear hk5 hg5))
    go_end0
    exact ⟨rfl,_,HFin.out,HGoal.out,HB5.out⟩
set_option maxRecDepth 100000 in
set_option maxHeartbeats 1600000 in
theorem YL (B gN gU k : Nat) (q : Pc) (x : Nd) (way : Bool) (th : Tv) (w : World) (hst : St w B gN gU q) (hu : Blk w gU 106 (turnC gN k way x)) (hkl : k < q.len) (hth : q.tvs[k]? = some th) (hs0 : 0 < th.sv.len) (hlen16 : th.sv.len ≤ 1000) (h8 : q.len ≤ 8) (nx : Nat) (hnx : x.next = (nx : Int)) (a : Nat) (ha : x.arg = (a : Int)) (ha16 : a < 16) (how : q.ow.length = 16) (hk4 : x.kind = 4) :
    Calls Try.prog 66 #[.pointer (some ⟨gU,0,none⟩)] w fun e w' => e = .returned (.tuple #[]) ∧ ∃ q',St w' B gN gU q' ∧ q'.cf = M.act q.cf k x way ∧ Below B w w':=by
  go_enter Try.func66,Try.ntmps66
  go_wp2_with fail
  refine (yF B gN gU k q x way th w hst hu hkl hth hs0 hlen16 h8 nx hnx).mono ?_
  rintro e w1 ⟨rfl,hst1,hu1,hb1⟩
  have hw1s:=hb1.size
  have hth1 : (q.put k (tvGo th nx)).tvs[k]? = some (tvGo th nx):=by
    show (q.tvs.set k (tvGo th nx))[k]? = _
    rw [List.getElem?_set,if_pos rfl,if_pos (List.getElem?_eq_some_iff.1 hth).1]
  have hcf1 : M.th q.cf k = tvT th:=Pc.th_of hth
  have HCf:=kp (Pc.put_cf q k (tvGo th nx))
  have HCf0:=kp hcf1
  have hs01 : 0 < (tvGo th nx).sv.len:=hs0
  have hlen161 : (tvGo th nx).sv.len ≤ 1000:=hlen16
  have hkl1 : k < (q.put k (tvGo th nx)).len:=hkl
  have h81 : (q.put k (tvGo th nx)).len ≤ 8:=h8
  have how1 : (q.put k (tvGo th nx)).ow = q.ow:=rfl
  have HQlen : Kept ((q.put k (tvGo th nx)).len = q.len):=kp rfl
  have HTvs : Kept ((q.put k (tvGo th nx)).tvs = q.tvs.set k (tvGo th nx)):=kp rfl
  have HTh1 : Kept (tvT (tvGo th nx) = ⟨M.goOn th.sv.stack nx,th.slots⟩):=kp rfl
  obtain ⟨q1,hq1⟩ : ∃ q1,q.put k (tvGo th nx) = q1:=⟨_,rfl⟩
  obtain ⟨th1,ht1⟩ : ∃ th1,tvGo th nx = th1:=⟨_,rfl⟩
  rw [ht1] at hq1 hth1 hs01 hlen161 HCf HTh1 HTvs hst1 hkl1 h81 how1 HQlen
  rw [hq1] at hst1 hth1 hkl1 h81 how1 HCf HQlen HTvs
  clear hst hu hq1 ht1 hcf1 hs0 hlen16
  obtain ⟨gT,curT,thx,hA,hbT,hthx,hcT0,hcTj,hTN,hTU,hBT,hsl,hthc,hcTl⟩:=hst1.thread hkl1
  rw [hth1] at hthx
  cases hthx
  obtain ⟨gS,cur,hSA,hbS,hlen,hSN,hSU,hBS,hput⟩:=hst1.goes hth1 hs01
  have hbound:=hst1.ok
  have hqc:=hbound.lc;have hqm:=hbound.cm
  unfold maxLen at hqm
  have HE : Kept (pcC q1 = .slice (some ⟨gT,0,none⟩) q1.len q1.cap :: q1.ow.map natV):=kp (by unfold pcC;rw [hA])
  have hgN:=hst1.conf.lt;have hgU:=hu1.lt;have hgT:=hbT.lt;have hgS:=hbS.lt
  have HSt:=kp hst1;have HK:=kp hu1;have HT:=kp hbT;have HS:=kp hbS;have HPut:=kp hput
  have hxc:=hbound.svs th1 (List.mem_of_getElem? hth1)
  have hxc2:=hxc.lc;have hxm:=hxc.cm
  unfold maxLen at hxm
  rw [hSA] at hcT0
  have HC0:=kp hcT0
  have hlow:=hst1.low.1
  have hBw : B ≤ w1.heap.size:=by omega
  have HLow:=kp hst1.low
  obtain ⟨n,hn⟩ : ∃ n,th1.sv.len = n:=⟨_,rfl⟩
  obtain ⟨cp,hcp⟩ : ∃ cp,th1.sv.cap = cp:=⟨_,rfl⟩
  have HThl:=kp hn
  rw [hn] at HC0 hs01 hlen161 hxc2 hlen HPut
  rw [hcp] at HC0 hxc2 hxm
  have HL17 : Kept ((pcC q1).length = 17):=kp (by show (_ :: q1.ow.map natV).length = 17;simp [how1,how])
  have hc16 : (pcC q1)[1 + a]? = some (.int .i64 (q1.ow.getD a 0 : Int)):=by
    rw [HE.out,show 1 + a = a + 1 by omega,List.getElem?_cons_succ];exact JX (by rw [how1];exact how) ha16
  have hu0:=HK.out.cell 0;have hu1':=HK.out.cell 1;have hu4:=HK.out.cell 4
  simp only [turnC,List.getElem?_cons_zero,List.getElem?_cons_succ] at hu0 hu1' hu4
  rw [ha] at hu4
  have hco:=(HSt.out.conf.cell (1 + a)).trans hc16
  obtain ⟨o,ho⟩ : ∃ o,q1.ow.getD a 0 = o:=⟨_,rfl⟩
  rw [ho] at hco
  have HMk:=kp (JI k (by omega))
  have HAct : Kept (M.act q.cf k x way = ⟨q1.cf.ths,if o = k + 1 then q1.ow.set a 0 else q1.ow⟩):=kp (by
    unfold M.act
    rw [HCf.out,how1,HCf0.out,if_neg (show ¬ x.kind = 9 by omega),if_neg (show ¬ x.kind = 3 by omega),if_pos hk4,hnx,ha,Int.toNat_natCast,Int.toNat_natCast,HTh1.out,← ho,how1]
    rfl)
  have HB1:=kp hb1
  clear hst1 hu1 hth1 hput hbT hbS hcT0 hcTj hthc hcTl hsl hbound hxc hn hcp hSA hA hc16 ho hnx ha hb1
  by_cases hok : o = k + 1
  · have HGoal : Kept ((q1.own a 0).cf = M.act q.cf k x way):=kp (by rw [HAct.out,if_pos hok];rfl)
    have hoe : ((o : Int) == ((k + 1 : Nat) : Int)) = true:=by rw [beq_iff_eq];omega
    clear hok
    go_wp2
    go_quiet (fail)
    obtain ⟨w2,hw2⟩ : ∃ y,w1.drewN nq = y:=⟨_,rfl⟩
    have HSt2 : Kept (St w2 B gN gU q1):=kp (by rw [← hw2];exact HSt.out.drewN nq)
    have HB2 : Kept (Below B w w2):=kp (by rw [← hw2];exact below_drewN HB1.out nq)
    have hW2 : w1.heap.size ≤ w2.heap.size:=by rw [← hw2];exact Nat.le_refl _
    replace hu1' : w2.cell? ⟨gU,1,none⟩ = some (.int .i64 (k : Int)):=by rw [← hw2];exact hu1'
    replace hco : w2.cell? ⟨gN,1 + a,none⟩ = some (.int .i64 (o : Int)):=by rw [← hw2];exact hco
    rw [hw2]
    clear hw2
    go_wp2
    go_quiet ((go_at_call 79;exact vU (HMk.out _)))
    obtain ⟨w3,hw3⟩ : ∃ y,w2.drewN nq = y:=⟨_,rfl⟩
    have HKw : Kept (Blk w3 gN 46 (pcC q1)):=kp (by rw [← hw3];exact HSt2.out.conf.drewN nq)
    have HStw : Kept (St w3 B gN gU q1):=kp (by rw [← hw3];exact HSt2.out.drewN nq)
    have HBw : Kept (Below B w w3):=kp (by rw [← hw3];exact below_drewN HB2.out nq)
    have hWs : w1.heap.size ≤ w3.heap.size:=by rw [← hw3];exact hW2
    rw [hw3]
    clear hw3 hu0 hu1' hu4 hco
    go_wp2_with (first
      | ((with_reducible show Sn);go_must (refine j6 rfl 3 (.tmp 28) _ rfl gN (1 + a) (.int .i64 ((0 : Nat) : Int)) rfl rfl rfl rfl _ _ HKw.out (by rw [HL17.out];omega) l7 ?_);intro w5 hk5 hg5 hs5;have HFin:=kp (HStw.out.owns hk5 hg5 hs5);have HB5:=kp (HBw.out.grown hg5 (by omega) (fun k e => by cases e;exact hlow));clear hk5 hg5))
    go_end0
    exact ⟨rfl,_,HFin.out,HGoal.out,HB5.out⟩
  · have HGoal : Kept (q1.cf = M.act q.cf k x way):=kp (by rw [HAct.out,if_neg hok];rfl)
    have hoe : ((o : Int) == ((k + 1 : Nat) : Int)) = false:=by rw [beq_eq_false_iff_ne];omega
    clear hok
    go_wp2
    go_quiet (fail)
    obtain ⟨w2,hw2⟩ : ∃ y,w1.drewN nq = y:=⟨_,rfl⟩
    have HSt2 : Kept (St w2 B gN gU q1):=kp (by rw [← hw2];exact HSt.out.drewN nq)
    have HB2 : Kept (Below B w w2):=kp (by rw [← hw2];exact below_drewN HB1.out nq)
    have hW2 : w1.heap.size ≤ w2.heap.size:=by rw [← hw2];exact Nat.le_refl _
    replace hu1' : w2.cell? ⟨gU,1,none⟩ = some (.int .i64 (k : Int)):=by rw [← hw2];exact hu1'
    replace hco : w2.cell? ⟨gN,1 + a,none⟩ = some (.int .i64 (o : Int)):=by rw [← hw2];exact hco
    rw [hw2]
    clear hw2
    go_wp2
    go_quiet ((go_at_call 79;exact vU (HMk.out _)))
    go_wp2
    go_end0
    exact ⟨rfl,_,HSt2.out.drewN nq,HGoal.out,below_drewN HB2.out nq⟩
theorem goOn_twice (s : List (Nat × Nat)) (n m : Nat) : M.goOn (M.goOn s n) m = M.goOn s m:=by
  unfold M.goOn M.top
  rw [List.length_set]
  rcases Nat.eq_zero_or_pos s.length with h | h
  · rw [List.eq_nil_of_length_eq_zero h];rfl
  · rw [List.set_set,List.getD_eq_getElem?_getD (l:=s.set _ _),List.getElem?_set,if_pos rfl,if_pos (by omega)]
    rfl
theorem frame_size : (Try.prog.info? 133).map (·.size) = some 2:=by kernel_rfl
theorem Y2 : (Try.prog.info? 91).map (·.size) = some 1:=by kernel_rfl
set_option maxRecDepth 100000 in
set_option maxHeartbeats 1600000 in
theorem YS (B gN gU k : Nat) (q : Pc) (x : Nd) (way : Bool) (th : Tv) (w : World) (hst : St w B gN gU q) (hu : Blk w gU 106 (turnC gN k way x)) (hkl : k < q.len) (hth : q.tvs[k]? = some th) (hs0 : 0 < th.sv.len) (hlen16 : th.sv.len ≤ 1000) (h8 : q.len ≤ 8) (nx : Nat) (hnx : x.next = (nx : Int)) (al : Nat) (hal : x.alt = (al : Int)) (hk8 : x.kind = 8) :
    Calls Try.prog 69 #[.pointer (some ⟨gU,0,none⟩)] w fun e w' => e = .returned (.tuple #[]) ∧ ∃ q',St w' B gN gU q' ∧ q'.cf = M.act q.cf k x way ∧ Below B w w':=by
  go_enter Try.func69,Try.ntmps69
  go_wp2_with fail
  refine (yF B gN gU k q x way th w hst hu hkl hth hs0 hlen16 h8 nx hnx).mono ?_
  rintro e w1 ⟨rfl,hst1,hu1,hb1⟩
  have hw1s:=hb1.size
  have hth1 : (q.put k (tvGo th nx)).tvs[k]? = some (tvGo th nx):=by
    show (q.tvs.set k (tvGo th nx))[k]? = _
    rw [List.getElem?_set,if_pos rfl,if_pos (List.getElem?_eq_some_iff.1 hth).1]
  have hcf1 : M.th q.cf k = tvT th:=Pc.th_of hth
  have HCf:=kp (Pc.put_cf q k (tvGo th nx))
  have HCf0:=kp hcf1
  have hs01 : 0 < (tvGo th nx).sv.len:=hs0
  have hlen161 : (tvGo th nx).sv.len ≤ 1000:=hlen16
  have hkl1 : k < (q.put k (tvGo th nx)).len:=hkl
  have h81 : (q.put k (tvGo th nx)).len ≤ 8:=h8
  have how1 : (q.put k (tvGo th nx)).ow = q.ow:=rfl
  have HQlen : Kept ((q.put k (tvGo th nx)).len = q.len):=kp rfl
  have HTvs : Kept ((q.put k (tvGo th nx)).tvs = q.tvs.set k (tvGo th nx)):=kp rfl
  have HTh1 : Kept (tvT (tvGo th nx) = ⟨M.goOn th.sv.stack nx,th.slots⟩):=kp rfl
  obtain ⟨q1,hq1⟩ : ∃ q1,q.put k (tvGo th nx) = q1:=⟨_,rfl⟩
  obtain ⟨th1,ht1⟩ : ∃ th1,tvGo th nx = th1:=⟨_,rfl⟩
  rw [ht1] at hq1 hth1 hs01 hlen161 HCf HTh1 HTvs hst1 hkl1 h81 how1 HQlen
  rw [hq1] at hst1 hth1 hkl1 h81 how1 HCf HQlen HTvs
  clear hst hu hq1 ht1 hcf1 hs0 hlen16
  obtain ⟨gT,curT,thx,hA,hbT,hthx,hcT0,hcTj,hTN,hTU,hBT,hsl,hthc,hcTl⟩:=hst1.thread hkl1
  rw [hth1] at hthx
  cases hthx
  obtain ⟨gS,cur,hSA,hbS,hlen,hSN,hSU,hBS,hput⟩:=hst1.goes hth1 hs01
  have hbound:=hst1.ok
  have hqc:=hbound.lc;have hqm:=hbound.cm
  unfold maxLen at hqm
  have HE : Kept (pcC q1 = .slice (some ⟨gT,0,none⟩) q1.len q1.cap :: q1.ow.map natV):=kp (by unfold pcC;rw [hA])
  have hgN:=hst1.conf.lt;have hgU:=hu1.lt;have hgT:=hbT.lt;have hgS:=hbS.lt
  have HSt:=kp hst1;have HK:=kp hu1;have HT:=kp hbT;have HS:=kp hbS;have HPut:=kp hput
  have hxc:=hbound.svs th1 (List.mem_of_getElem? hth1)
  have hxc2:=hxc.lc;have hxm:=hxc.cm
  unfold maxLen at hxm
  rw [hSA] at hcT0
  have HC0:=kp hcT0
  have hlow:=hst1.low.1
  have hBw : B ≤ w1.heap.size:=by omega
  have HLow:=kp hst1.low
  obtain ⟨n,hn⟩ : ∃ n,th1.sv.len = n:=⟨_,rfl⟩
  obtain ⟨cp,hcp⟩ : ∃ cp,th1.sv.cap = cp:=⟨_,rfl⟩
  have HThl:=kp hn
  rw [hn] at HC0 hs01 hlen161 hxc2 hlen HPut
  rw [hcp] at HC0 hxc2 hxm
  have HB1:=kp hb1
  have hu2:=HK.out.cell 2
  simp only [turnC,List.getElem?_cons_zero,List.getElem?_cons_succ] at hu2
  have HAct : Kept (M.act q.cf k x way = if way = true then ⟨q.cf.ths.set k ⟨M.goOn th.sv.stack al,th.slots⟩,q.ow⟩ else q1.cf):=kp (by
    unfold M.act
    rw [HCf.out,HCf0.out,if_neg (show ¬ x.kind = 9 by omega),if_neg (show ¬ x.kind = 3 by omega),if_neg (show ¬ x.kind = 4 by omega),if_neg (show ¬ x.kind = 5 by omega),if_neg (show ¬ x.kind = 7 by omega),hnx,hal,Int.toNat_natCast,Int.toNat_natCast,HTh1.out]
    cases way
    · rw [if_neg (by simp),if_neg (by simp)];rfl
    · rw [if_pos ⟨hk8,rfl⟩,if_pos rfl];rfl)
  have HGoalT : Kept ((q1.put k (tvGo th1 al)).cf = ⟨q.cf.ths.set k ⟨M.goOn th.sv.stack al,th.slots⟩,q.ow⟩):=kp (by
    rw [Pc.put_cf,HCf.out,how1,List.set_set]
    have e : tvT (tvGo th1 al) = ⟨M.goOn th.sv.stack al,th.slots⟩:=by
      have h1 : th1.sv.stack = M.goOn th.sv.stack nx:=congrArg M.Th.stack HTh1.out
      have h2 : th1.slots = th.slots:=congrArg M.Th.slots HTh1.out
      show (⟨M.goOn th1.sv.stack al,th1.slots⟩ : M.Th) = _
      rw [h1,h2,goOn_twice]
    rw [e])
  clear hst1 hu1 hth1 hput hbT hbS hcT0 hcTj hthc hcTl hsl hbound hxc hn hcp hSA hA hnx hb1
  cases way
  · have HGoal : Kept (q1.cf = M.act q.cf k x false):=kp (by rw [HAct.out];rfl)
    go_wp2
    go_end0
    exact ⟨rfl,_,HSt.out,HGoal.out,HB1.out⟩
  · have HGoal : Kept ((q1.put k (tvGo th1 al)).cf = M.act q.cf k x true):=kp (by rw [HAct.out,HGoalT.out];rfl)
    go_wp2
    apply jC 10 (.is _ :: .is _ :: .is _ :: .is _ :: .is _ :: .is _ :: .is _ :: .is _ :: .is _ :: .is _ :: [])
      [[],[(0,9)],[(1,10)],[],[(3,12)],[(4,13)],[(5,14)],[(6,15)],[(2,11)],[(8,17)],[(9,18),(7,16)]]
      [(0,9),(1,10),(2,11),(3,12),(4,13),(5,14),(6,15),(7,16),(8,17),(9,18)] (by kernel_rfl) (by kernel_rfl) (by kernel_rfl) (by kernel_rfl) (by kernel_rfl)
    case hob =>
      refine ⟨?o0,?o1,?o2,?o3,?o4,?o5,?o6,?o7,?o8,?o9,trivial⟩
      case o0 => intro W hW;change wpList _ _ _ _ _ _;go_wp2;exact j0 rfl rfl rfl
      case o1 =>
        intro W hW;rintro _ rfl;change wpList _ _ _ _ _ _
        have hCu:=(HK.out.below hW hgU)
        have hCn:=((HSt.out.conf.below hW hgN).cell 0)
        rw [HE.out,List.getElem?_cons_zero] at hCn
        have HC:=kp (xL gU gN gT k q1.len q1.cap true x W hCu hCn hkl1)
        clear hCu hCn
        go_wp2_with fail
        refine (HC.out).mono ?_
        rintro e w2 ⟨rfl,m,rfl⟩
        go_wp2
        exact jB rfl rfl rfl (below_drewN (Below.refl _ _) m) rfl
      case o2 =>
        intro W hW;rintro _ rfl;change wpList _ _ _ _ _ _
        have hc:=(HT.out.below hW hgT).cell (k * 9)
        rw [HC0.out] at hc
        have hC:=JJ ⟨gT,k * 9,none⟩ ⟨gS,0,none⟩ n cp W hs01 hlen161 hc
        rw [uR] at hC
        have HC:=kp hC
        clear hc hC
        go_wp2_with fail
        refine (HC.out).mono ?_
        rintro e w2 ⟨rfl,m,rfl⟩
        go_wp2
        exact jB rfl rfl rfl (below_drewN (Below.refl _ _) m) rfl
      case o3 => intro W hW;change wpList _ _ _ _ _ _;go_wp2;exact j0 rfl rfl rfl
      case o4 => intro W hW;rintro _ rfl;change wpList _ _ _ _ _ _;go_wp2;exact j0 rfl rfl rfl
      case o5 => intro W hW;rintro _ rfl;change wpList _ _ _ _ _ _;go_wp2;exact j0 rfl rfl rfl
      case o6 => intro W hW;rintro _ rfl;change wpList _ _ _ _ _ _;go_wp2;exact j0 rfl rfl rfl
      case o7 =>
        intro W hW;rintro _ rfl;change wpList _ _ _ _ _ _
        have hc:=(HK.out.below hW hgU).cell 6
        simp only [turnC,List.getElem?_cons_zero,List.getElem?_cons_succ] at hc
        rw [hal] at hc
        go_wp2;exact j0 rfl rfl rfl
      case o8 => intro W hW;rintro _ rfl;change wpList _ _ _ _ _ _;go_wp2;exact j0 rfl rfl rfl
      case o9 => intro W hW;rintro _ rfl;change wpList _ _ _ _ _ _;go_wp2;exact j0 rfl rfl rfl
    case hend =>
      intro W hW;rintro _ rfl;rintro _ rfl;rintro _ rfl;rintro _ rfl;rintro _ rfl;rintro _ rfl;rintro _ rfl;rintro _ rfl;rintro _ rfl;rintro _ rfl
      simp only [given,jF,List.set,List.drop]
      have HKw:=kp (HS.out.below hW hgS)
      have HStw:=kp (HSt.out.below hW (Nat.le_refl _))
      have HBw:=kp (hW.mono hBw)
      have HKu:=kp (HK.out.below hW hgU)
      have hWs:=hW.size
      have HWg:=kp hW
      have hsw:=HBw.out.size
      clear hW
      go_wp2_with (first
        | ((with_reducible show Sn);go_must (refine j6 rfl 3 (.tmp 18) (.tmp 16) rfl gS ((n - 1) * 2 + 1) (.int .i64 (al : Int)) rfl rfl rfl rfl _ _ HKw.out hlen l7 ?_);intro w5 hk5 hg5 hs5;have HFin:=kp (HPut.out W w5 al HWg.out hk5 hg5 hs5);have HKu5:=kp (HKu.out.grown hg5 (fun e => hSU (by cases e;rfl)));have HB5:=kp (HBw.out.grown hg5 (by omega) (fun k e => by cases e;exact hBS));clear hk5 hg5))
      go_end0
      exact ⟨rfl,_,HFin.out,HGoal.out,HB1.out.trans HB5.out⟩
set_option maxRecDepth 100000 in
set_option maxHeartbeats 1600000 in
theorem sem_leave (B gN gU k : Nat) (q : Pc) (x : Nd) (way : Bool) (th : Tv) (w : World) (hst : St w B gN gU q) (hu : Blk w gU 106 (turnC gN k way x)) (hkl : k < q.len) (hth : q.tvs[k]? = some th) (hs0 : 0 < th.sv.len) (hlen16 : th.sv.len ≤ 1000) (_h8 : q.len ≤ 8) (hk9 : x.kind = 9) :
    Calls Try.prog 70 #[.pointer (some ⟨gU,0,none⟩)] w fun e w' => e = .returned (.tuple #[]) ∧ ∃ q',St w' B gN gU q' ∧ q'.cf = M.act q.cf k x way ∧ Below B w w':=by
  obtain ⟨gT,curT,th',hA,hbT,hth',hcT0,hcTj,hTN,hTU,hBT,hsl,hthc,hcTl⟩:=hst.thread hkl
  rw [hth] at hth'
  cases hth'
  obtain ⟨gS,cur,hSA,hbS,hlen,hSN,hSU,hBS,hput⟩:=hst.goes hth hs0
  have hbound:=hst.ok
  have hqc:=hbound.lc;have hqm:=hbound.cm
  unfold maxLen at hqm
  have HE : Kept (pcC q = .slice (some ⟨gT,0,none⟩) q.len q.cap :: q.ow.map natV):=kp (by unfold pcC;rw [hA])
  have hgN:=hst.conf.lt;have hgU:=hu.lt;have hgT:=hbT.lt;have hgS:=hbS.lt
  have HSt:=kp hst;have HK:=kp hu;have HT:=kp hbT;have HS:=kp hbS;have HPut:=kp hput
  have hxc:=hbound.svs th (List.mem_of_getElem? hth)
  have hxc2:=hxc.lc;have hxm:=hxc.cm
  unfold maxLen at hxm
  rw [hSA] at hcT0
  have HC0:=kp hcT0
  have hlow:=hst.low.1
  have hBw : B ≤ w.heap.size:=by omega
  have HLow:=kp hst.low
  obtain ⟨n,hn⟩ : ∃ n,th.sv.len = n:=⟨_,rfl⟩
  obtain ⟨cp,hcp⟩ : ∃ cp,th.sv.cap = cp:=⟨_,rfl⟩
  have HThl:=kp hn
  rw [hn] at HC0 hs0 hlen16 hxc2 hlen HPut
  rw [hcp] at HC0 hxc2 hxm
  obtain ⟨mm,hmm⟩ : ∃ mm,n = mm + 1:=⟨n - 1,by omega⟩
  have HA:=kp hA;have HTh:=kp hth
  have HOwn : Kept (∀ W,St W B gN gU q → OwnR 2 frV W B 133 (.slice (some ⟨gS,0,none⟩) (mm + 1) cp) th.sv.stack):=kp (fun W hW => by
    have h:=hW.fam.own k th.sv (by rw [List.getElem?_map,hth];rfl)
    unfold svV at h
    rw [hSA,hn,hcp,hmm] at h
    exact h)
  have HBk : Kept ((svV ⟨some ⟨gS,0,none⟩,mm,cp,th.sv.stack.take mm⟩).ownBlock = (svV th.sv).ownBlock):=kp (by unfold svV;rw [hSA];rfl)
  have HGoal : Kept ((q.put k ⟨⟨some ⟨gS,0,none⟩,mm,cp,th.sv.stack.take mm⟩,th.slots⟩).cf = M.act q.cf k x way):=kp (by
    rw [Pc.put_cf]
    unfold M.act
    rw [if_pos hk9,hthc]
    have e : (tvT th).stack.length - 1 = mm:=by show th.sv.stack.length - 1 = mm;rw [hsl,hn,hmm];rfl
    rw [e];rfl)
  have hTlen : k * 9 < curT.length:=by omega
  have hCu:=hu
  have hCn:=hst.conf.cell 0
  rw [HE.out,List.getElem?_cons_zero] at hCn
  have HC:=kp (xL gU gN gT k q.len q.cap way x w hCu hCn hkl)
  subst hmm
  rw [Nat.add_sub_cancel] at hlen
  clear hst hu hth hput hbT hbS hcT0 hcTj hthc hcTl hsl hbound hxc hn hcp hSA hA hCu hCn
  go_enter Try.func70,Try.ntmps70
  go_wp2_with fail
  refine HC.out.mono ?_
  rintro e w9 ⟨rfl,m,rfl⟩
  obtain ⟨w1,hw1⟩ : ∃ y,w.drewN m = y:=⟨_,rfl⟩
  have HT1 : Kept (Blk w1 gT 94 curT):=kp (by rw [← hw1];exact HT.out.drewN m)
  have HSt1 : Kept (St w1 B gN gU q):=kp (by rw [← hw1];exact HSt.out.drewN m)
  have HB1 : Kept (Below B w w1):=kp (by rw [← hw1];exact below_drewN (Below.refl _ _) m)
  have hBw1 : B ≤ w1.heap.size:=by have:=HB1.out.size;omega
  have hgT1:=HT1.out.lt
  rw [hw1]
  clear hw1
  go_wp2
  apply jC 14 (.is _ :: .is _ :: .is _ :: .is _ :: .is _ :: .is _ :: .is _ :: .is _ :: .is _ :: .is _ :: .is (.int .i64 (mm : Int)) :: .is (.slice (some ⟨gS,0,none⟩) mm cp) :: .is _ :: .is _ :: [])
    [[],[],[(1,6)],[(2,7)],[(3,8)],[],[(5,10)],[(6,11)],[(7,12)],[(8,13)],[(9,14)],[(4,9),(10,15)],[(0,5)],[(12,17)],[(13,18),(11,16)]]
    [(0,5),(1,6),(2,7),(3,8),(4,9),(5,10),(6,11),(7,12),(8,13),(9,14),(10,15),(11,16),(12,17),(13,18)] (by kernel_rfl) (by kernel_rfl) (by kernel_rfl) (by kernel_rfl) (by kernel_rfl)
  case hob =>
    refine ⟨?o0,?o1,?o2,?o3,?o4,?o5,?o6,?o7,?o8,?o9,?o10,?o11,?o12,?o13,trivial⟩
    case o0 => intro W hW;change wpList _ _ _ _ _ _;go_wp2;exact j0 rfl rfl rfl
    case o1 => intro W hW;change wpList _ _ _ _ _ _;go_wp2;exact j0 rfl rfl rfl
    case o2 => intro W hW;rintro _ rfl;change wpList _ _ _ _ _ _;go_wp2;exact j0 rfl rfl rfl
    case o3 => intro W hW;rintro _ rfl;change wpList _ _ _ _ _ _;go_wp2;exact j0 rfl rfl rfl
    case o4 =>
      intro W hW;rintro _ rfl;change wpList _ _ _ _ _ _
      have hc:=(HT1.out.below hW hgT1).cell (k * 9)
      rw [HC0.out] at hc
      go_wp2;exact j0 rfl rfl rfl
    case o5 => intro W hW;change wpList _ _ _ _ _ _;go_wp2;exact j0 rfl rfl rfl
    case o6 => intro W hW;rintro _ rfl;change wpList _ _ _ _ _ _;go_wp2;exact j0 rfl rfl rfl
    case o7 => intro W hW;rintro _ rfl;change wpList _ _ _ _ _ _;go_wp2;exact j0 rfl rfl rfl
    case o8 =>
      intro W hW;rintro _ rfl;change wpList _ _ _ _ _ _
      have hc:=(HT1.out.below hW hgT1).cell (k * 9)
      rw [HC0.out] at hc
      go_wp2;exact j0 rfl rfl rfl
    case o9 => intro W hW;rintro _ rfl;change wpList _ _ _ _ _ _;go_wp2;exact j0 rfl rfl rfl
    case o10 => intro W hW;rintro _ rfl;change wpList _ _ _ _ _ _;go_wp2;exact j0 rfl rfl rfl
    case o11 =>
      intro W hW;rintro _ rfl;rintro _ rfl;change wpList _ _ _ _ _ _
      go_wp2_with ((with_reducible show Sl 16);go_must (refine vK rfl 91 (.tmp 9) (.tmp 15) rfl 133 2 Try.underlying91 frame_size (some ⟨gS,0,none⟩) (mm + 1) cp rfl .i64 mm rfl (by omega) ?_))
      exact j0 rfl rfl rfl
    case o12 => intro W hW;rintro _ rfl;change wpList _ _ _ _ _ _;go_wp2;exact j0 rfl rfl rfl
    case o13 => intro W hW;rintro _ rfl;change wpList _ _ _ _ _ _;go_wp2;exact j0 rfl rfl rfl
  case hend =>
    intro W hW;rintro _ rfl;rintro _ rfl;rintro _ rfl;rintro _ rfl;rintro _ rfl;rintro _ rfl;rintro _ rfl;rintro _ rfl;rintro _ rfl;rintro _ rfl;rintro _ rfl;rintro _ rfl;rintro _ rfl;rintro _ rfl
    simp only [given,jF,List.set,List.drop]
    have HKw:=kp (HT1.out.below hW hgT1)
    have HStw:=kp (HSt1.out.below hW (Nat.le_refl _))
    have HBw:=kp (HB1.out.trans (hW.mono hBw1))
    have hWs:=hW.size
    clear hW
    go_wp2_with (first
      | ((with_reducible show Sn);go_must (refine j6 rfl 91 (.tmp 18) (.tmp 16) rfl gT (k * 9) (.slice (some ⟨gS,0,none⟩) mm cp) rfl rfl rfl rfl _ _ HKw.out hTlen Y2 ?_);intro w5 hk5 hg5 hs5
         have HFin:=kp (HStw.out.stack (sv:=⟨some ⟨gS,0,none⟩,mm,cp,th.sv.stack.take mm⟩) HA.out HKw.out HTh.out (yR _ _) ((HOwn.out _ HStw.out).front (Nat.le_succ mm)) (.inl HBk.out) hk5 hg5 hs5)
         have HB5:=kp (HBw.out.grown hg5 (by omega) (fun k e => by cases e;exact hBT));clear hk5 hg5))
    go_end0
    exact ⟨rfl,_,HFin.out,HGoal.out,HB5.out⟩
theorem lL {P : Program} {ops : Array Oper} {rest : List Oper} {o : Oper} {a : Act} {w : World} {Q : Exit → Act → World → Prop} (hg : o.guard = none) (t : TypeId) (parts : Array (Nat × Operand)) (ho : o.op = .build t parts)
    (qs : List (Nat × Value)) (hq : (parts.map fun (i,x) => (i,a.eval x)).toList = qs) (cs : List Value) (hf : P.built t qs = some cs.toArray)
    (h : wpList P ops Q rest (a.put o.dst (.agg cs.toArray)) w) : wpList P ops Q (o :: rest) a w:=by
  subst hq
  refine wpList_build hg t parts ho (by rw [hf];rfl) ?_
  rw [hf]
  exact h
theorem xI {P : Program} {ops : Array Oper} {rest : List Oper} {o : Oper} {a : Act} {w : World} {Q : Exit → Act → World → Prop} (hg : o.guard = none) (t : TypeId) (i : Nat) (x : Operand) (ho : o.op = .build t #[(i,x)])
    (v : Value) (hx : a.eval x = v) (cs : List Value) (hf : P.built t [(i,v)] = some cs.toArray)
    (h : wpList P ops Q rest (a.put o.dst (.agg cs.toArray)) w) : wpList P ops Q (o :: rest) a w :=
  lL hg t _ ho [(i,v)] (by simp [hx]) cs hf h
theorem JA {P : Program} {ops : Array Oper} {rest : List Oper} {o : Oper} {a : Act} {w : World} {Q : Exit → Act → World → Prop} (hg : o.guard = none) (t : TypeId) (i j : Nat) (x y : Operand) (ho : o.op = .build t #[(i,x),(j,y)])
    (v u : Value) (hx : a.eval x = v) (hy : a.eval y = u) (cs : List Value) (hf : P.built t [(i,v),(j,u)] = some cs.toArray)
    (h : wpList P ops Q rest (a.put o.dst (.agg cs.toArray)) w) : wpList P ops Q (o :: rest) a w :=
  lL hg t _ ho [(i,v),(j,u)] (by simp [hx,hy]) cs hf h
theorem j8 {P : Program} {ops : Array Oper} {rest : List Oper} {o : Oper} {a : Act} {w : World} {Q : Exit → Act → World → Prop} (hg : o.guard = none) (t e : TypeId) (x : Operand) (ho : o.op = .buildSlice t 1 #[(0,x)])
    (sz : Nat) (hu : P.underlying t = some (.slice e)) (hi : (P.info? e).map (fun i => (i.zero.map (·.cells.size),i.size)) = some (some sz,sz)) (h0 : 0 < sz) (h24 : sz ≤ 1000) (v : Value) (cs : List Value) (hx : a.eval x = v) (hv : v.cells = cs.toArray) (hl : cs.length = sz)
    (h : ∀ g w',w.heap.size ≤ g → Blk w' g e cs → Below w.heap.size w w' → wpList P ops Q rest (a.put o.dst (.slice (some ⟨g,0,none⟩) 1 1)) w') : wpList P ops Q (o :: rest) a w:=by
  cases hq : P.info? e with
  | none => simp [hq] at hi
  | some ie =>
    simp only [hq,Option.map_some,Option.some.injEq,Prod.mk.injEq] at hi
    obtain ⟨hz,hs⟩:=hi
    cases hzz : ie.zero with
    | none => simp [hzz] at hz
    | some z =>
      simp only [hzz,Option.map_some,Option.some.injEq] at hz
      refine wpList_buildSlice hg t e 1 _ ho cs.toArray ie z hu hq hzz (by rw [hs];omega) (by rw [hs];omega) ?_ (h _ _ (Nat.le_refl _) (Blk.newAt rfl rfl) ((Below.refl _ _).alloc (Nat.le_refl _) _))
      have hf:=Go.Great.fill_whole (s:=ie.size) (by rw [hs];exact h0) [v] ((Array.range (1 * ie.size)).map (z.cells[· % z.cells.size]!)) (fun u hu => by rw [List.mem_singleton.1 hu,hv,hs];simpa using hl) (by simp)
      simp only [List.map_toArray,List.map_cons,List.map_nil,hx]
      simpa [hv] using hf
def zeros (n : Nat) : List Value:=List.replicate n (.int .i64 0)
theorem QZ (A : Option Addr) (n c : Nat) : Try.prog.built 94 [(0,.slice A n c)] = some (Value.slice A n c :: zeros 8).toArray:=by kernel_rfl
theorem built_conf (A : Option Addr) (n c : Nat) : Try.prog.built 46 [(0,.slice A n c)] = some (Value.slice A n c :: zeros 16).toArray:=by kernel_rfl
theorem LN (a0 a1 a2 a3 a4 a5 a6 a7 a8 a9 a10 a11 a12 a13 a14 a15 : Nat) : Try.prog.built 79 [(2,.agg ([a0,a1,a2,a3,a4,a5,a6,a7,a8,a9,a10,a11,a12,a13,a14,a15].map natV).toArray)] = some (Value.slice none 0 0 :: .slice none 0 0 :: [a0,a1,a2,a3,a4,a5,a6,a7,a8,a9,a10,a11,a12,a13,a14,a15].map natV).toArray:=by kernel_rfl
theorem X1 (o : List Nat) (h : o.length = 16) : Try.prog.built 79 [(2,.agg (o.map natV).toArray)] = some (Value.slice none 0 0 :: .slice none 0 0 :: o.map natV).toArray:=by
  match o,h with
  | [a0,a1,a2,a3,a4,a5,a6,a7,a8,a9,a10,a11,a12,a13,a14,a15],_ => exact LN a0 a1 a2 a3 a4 a5 a6 a7 a8 a9 a10 a11 a12 a13 a14 a15
theorem xY : (Try.prog.info? 94).map (·.zero) = some (some (.agg (Value.slice none 0 0 :: zeros 8).toArray)):=by kernel_rfl
theorem zY : (Try.prog.info? 94).map (fun i => (i.zero.map (·.cells.size),i.size)) = some (some 9,9):=by kernel_rfl
theorem lI : (Try.prog.info? 94).map (·.size) = some 9:=by kernel_rfl
theorem jZ : (Try.prog.info? 46).map (·.zero) = some (some (.agg (Value.slice none 0 0 :: zeros 16).toArray)):=by kernel_rfl
theorem jU : (Try.prog.info? 79).map (·.zero) = some (some (.agg (Value.slice none 0 0 :: .slice none 0 0 :: zeros 16).toArray)):=by kernel_rfl
theorem j5 : (Try.prog.info? 79).map (·.size) = some 18:=by kernel_rfl
theorem yZ : (Try.prog.info? 94).map (fun i => (i.zero,i.size,i.bytes)) = some (some (.agg (Value.slice none 0 0 :: zeros 8).toArray),9,88):=by kernel_rfl
theorem vI : (Try.prog.info? 133).map (fun i => (i.zero,i.size,i.bytes)) = some (some (.agg #[.int .i64 0,.int .i64 0]),2,16):=by kernel_rfl
theorem xA : (Try.prog.info? 122).map (fun i => (i.zero,i.size,i.bytes)) = some (some (.agg #[.int .i64 0,.int .i64 0]),2,16):=by kernel_rfl
theorem xK : (Try.prog.info? 92).map (fun i => (i.zero,i.size,i.bytes)) = some (some (.agg (zeros 8).toArray),8,64):=by kernel_rfl
theorem xG : (Try.prog.info? 92).map (fun i => (i.zero.map (·.cells.size),i.size)) = some (some 8,8):=by kernel_rfl
theorem lF : (Try.prog.info? 92).map (·.size) = some 8:=by kernel_rfl
theorem yM : (Try.prog.info? 123).map (fun i => (i.zero,i.size,i.bytes)) = some (some (.slice none 0 0),1,24):=by kernel_rfl
theorem X2 (n : Nat) : zeros n = (List.replicate n 0).map natV:=by unfold zeros;rw [List.map_replicate];rfl
theorem y8 (x : Nat × Nat) (j : Nat) : (frV x j).oneCell' = true:=by unfold frV;split <;> rfl
theorem QB (x : Tv) (j : Nat) : (tvV x j).oneCell' = true:=by unfold tvV;split <;> rfl
section
variable {P : Program} {ops : Array Oper} {rest : List Oper} {o : Oper} {a : Act} {w : World} {Q : Exit → Act → World → Prop} {α : Type}
theorem jV (hgd : o.guard = none) (s x : Operand) (t : TypeId)
    (ho : o.op = .call { callee:=.builtin .append,args:=#[s,x],argTypes:=#[t,t] })
    (B : Nat) (e : TypeId) (sz : Nat) (z : Value) (bytes : Nat) (ht : P.underlying t = some (.slice e)) (hi : (P.info? e).map (fun i => (i.zero,i.size,i.bytes)) = some (some z,sz,bytes)) (hzs : z.cells.size = sz) (hsz : 0 < sz)
    (f : α → Nat → Value) (hone : ∀ x j,(f x j).oneCell' = true)
    (q cap n : Nat) (l : List α) (hn : l.length = n) (u : α) (hs : a.eval s = .slice (some ⟨q,0,none⟩) n cap) (hown : OwnR sz f w B e (.slice (some ⟨q,0,none⟩) n cap) l) (hroom : n + 1 ≤ cap)
    (gn c : Nat) (hx : a.eval x = .slice (some ⟨gn,0,none⟩) 1 c) (hbk : Blk w gn e ((List.range sz).map (f u))) (hbytes : (n + 1) * bytes ≤ 140737488355328)
    (h : ∀ w',OwnR sz f w' B e (.slice (some ⟨q,0,none⟩) (n + 1) cap) (l ++ [u]) → w.grownBy w' (some q) → wpList P ops Q rest (a.put o.dst (.slice (some ⟨q,0,none⟩) (n + 1) cap)) w') : wpList P ops Q (o :: rest) a w:=by
  subst hn
  exact zW hgd s x t ho B e sz z bytes ht hi hzs hsz f hone q cap l u hs hown hroom gn c hx hbk hbytes h
theorem x0 (hgd : o.guard = none) (s x : Operand) (t : TypeId)
    (ho : o.op = .call { callee:=.builtin .append,args:=#[s,x],argTypes:=#[t,t] })
    (B : Nat) (e : TypeId) (sz : Nat) (z : Value) (bytes : Nat) (ht : P.underlying t = some (.slice e)) (hi : (P.info? e).map (fun i => (i.zero,i.size,i.bytes)) = some (some z,sz,bytes)) (hzs : z.cells.size = sz) (hsz : 0 < sz)
    (f : α → Nat → Value) (hone : ∀ x j,(f x j).oneCell' = true)
    (q cap n : Nat) (l : List α) (hn : l.length = n) (u : α) (hs : a.eval s = .slice (some ⟨q,0,none⟩) n cap) (hown : OwnR sz f w B e (.slice (some ⟨q,0,none⟩) n cap) l) (hfull : cap = n)
    (gn c : Nat) (hx : a.eval x = .slice (some ⟨gn,0,none⟩) 1 c) (hbk : Blk w gn e ((List.range sz).map (f u))) (h63 : n + 1 ≤ maxLen) (hbytes : (n + 1) * bytes ≤ 140737488355328) (hB : B ≤ w.heap.size)
    (h : ∀ g c' w',OwnR sz f w' B e (.slice (some ⟨g,0,none⟩) (n + 1) c') (l ++ [u]) → Below w.heap.size w w' → w.heap.size ≤ g → wpList P ops Q rest (a.put o.dst (.slice (some ⟨g,0,none⟩) (n + 1) c')) w') : wpList P ops Q (o :: rest) a w:=by
  subst hn
  subst hfull
  refine xJ hgd s x t ho B e sz z bytes ht hi hzs hsz f hone _ l u hs hown (.inr ⟨q,rfl⟩) gn c hx hbk h63 hbytes hB fun v' w' h1 h2 h3 => ?_
  obtain ⟨A',c',rfl,_⟩:=h1.form
  rw [List.length_append,List.length_singleton] at h1 h3 ⊢
  cases A' with
  | none => cases h3
  | some ad =>
    have e1 : ad.block = w.heap.size:=by injection h3
    obtain ⟨g,cur,hA,_⟩:=h1.blk (by omega)
    injection hA with hA
    subst hA
    exact h g c' w' h1 h2 (by rw [← e1];exact Nat.le_refl _)
end
def GFact.elem (G : Nat → Prop) (e : TypeId) (cs : List Value) (K : Nat) : GFact G :=
  ⟨fun v W => ∃ gn,v = .slice (some ⟨gn,0,none⟩) 1 1 ∧ Blk W gn e cs ∧ ¬ G gn ∧ K ≤ gn,fun _ _ _ ho ⟨gn,h1,h2,h3,h4⟩ => ⟨gn,h1,ho.blk h2 h3,h3,h4⟩⟩
def Fact.elem (e : TypeId) (cs : List Value) : Fact :=
  ⟨fun v W => ∃ gn,v = .slice (some ⟨gn,0,none⟩) 1 1 ∧ Blk W gn e cs,fun _ _ _ hb ⟨gn,h1,h2⟩ => ⟨gn,h1,h2.below hb h2.lt⟩⟩
def Fact.ownR {α : Type} (sz : Nat) (f : α → Nat → Value) (B : Nat) (e : TypeId) (K n : Nat) (l : List α) : Fact :=
  ⟨fun v W => ∃ g c,v = .slice (some ⟨g,0,none⟩) n c ∧ OwnR sz f W B e v l ∧ K ≤ g,fun _ _ _ hb ⟨g,c,h1,h2,h3⟩ => ⟨g,c,h1,h2.below hb (Nat.le_refl _),h3⟩⟩
def newT (a g : Nat) : Tv:=⟨⟨some ⟨g,0,none⟩,1,1,[(a,0)]⟩,List.replicate 8 0⟩
theorem Fam.add {e : TypeId} {w : World} {B : Nat} {S : Nat → Prop} {l : List Sv} (h : Fam e w B S l) {x : Sv} (ho : OwnR 2 frV w B e (svV x) x.stack) (hS : ∀ b,(svV x).ownBlock = some b → ¬ S b)
    (hne : ∀ (k : Nat) (y : Sv) (b : Nat),l[k]? = some y → (svV x).ownBlock = some b → (svV y).ownBlock ≠ some b) : Fam e w B S (l ++ [x]):=by
  have key : ∀ (j : Nat) (y : Sv),(l ++ [x])[j]? = some y → (j = l.length ∧ y = x) ∨ (j < l.length ∧ l[j]? = some y):=fun j y hy => by
    rcases Nat.lt_or_ge j l.length with h1 | h1
    · rw [List.getElem?_append_left h1] at hy
      exact .inr ⟨h1,hy⟩
    · have h2:=(List.getElem?_eq_some_iff.1 hy).1
      simp only [List.length_append,List.length_singleton] at h2
      have e1 : j = l.length:=by omega
      subst e1
      rw [List.getElem?_append_right (Nat.le_refl _),Nat.sub_self] at hy
      exact .inl ⟨rfl,by simpa using hy.symm⟩
  refine ⟨fun j y hy => ?_,fun j y b hy hb1 => ?_,fun i j y z b hy hz hb1 hb2 => ?_⟩
  · rcases key j y hy with ⟨_,rfl⟩ | ⟨_,hy⟩
    · exact ho
    · exact h.own j y hy
  · rcases key j y hy with ⟨_,rfl⟩ | ⟨_,hy⟩
    · exact hS b hb1
    · exact h.out j y b hy hb1
  · rcases key i y hy with ⟨e1,e2⟩ | ⟨h1,hy'⟩
    · rcases key j z hz with ⟨e3,_⟩ | ⟨h2,hz'⟩
      · rw [e1,e3]
      · rw [e2] at hb1
        exact absurd hb2 (hne j z b hz' hb1)
    · rcases key j z hz with ⟨_,e4⟩ | ⟨h2,hz'⟩
      · rw [e4] at hb2
        exact absurd hb1 (hne i y b hy' hb2)
      · exact h.apart i j y z b hy' hz' hb1 hb2
theorem St.push {w2 W W' : World} {B gN gU g gT gV a c : Nat} {q : Pc} (h : St w2 B gN gU q) (hA : q.A = some ⟨gT,0,none⟩) (hg0 : w2.grownBy W (some gT)) (hrow : OwnR 9 tvV W B 94 (.slice (some ⟨gV,0,none⟩) (q.len + 1) c) (q.tvs ++ [newT a g]))
    (hV : gV = gT ∨ (w2.heap.size ≤ gV ∧ gV ≠ g)) (ho : OwnR 2 frV W B 133 (.slice (some ⟨g,0,none⟩) 1 1) [(a,0)]) (hgg : w2.heap.size ≤ g)
    (hb : Blk W' gN 46 ((pcC q).set 0 (.slice (some ⟨gV,0,none⟩) (q.len + 1) c))) (hg : W.grownBy W' (some gN)) (hz : W'.heap.size = W.heap.size) : St W' B gN gU ⟨some ⟨gV,0,none⟩,q.len + 1,c,q.tvs ++ [newT a g],q.ow⟩:=by
  have hbT : (Value.slice q.A q.len q.cap).ownBlock = some gT:=by rw [hA];rfl
  have hneT:=h.ne gT hbT
  have hTl:=(h.row.block gT hbT).2
  have hNl:=h.conf.lt
  have hUl:=h.low.2
  have hVN : gV ≠ gN:=by rcases hV with rfl | hV <;> omega
  have hVU : gV ≠ gU:=by rcases hV with rfl | hV <;> omega
  have hVg : gV ≠ g:=by rcases hV with rfl | hV <;> omega
  refine ⟨hb,hrow.far hg (.inr fun e => hVN (by cases e;rfl)),?_,fun b e => by cases e;exact ⟨hVN,hVU⟩,h.low.1,by have:=hg0.size;rw [hz];omega⟩
  have e1 : (q.tvs ++ [newT a g]).map (·.sv) = q.tvs.map (·.sv) ++ [(newT a g).sv]:=by rw [List.map_append];rfl
  show Fam _ W' B _ ((q.tvs ++ [newT a g]).map (·.sv))
  rw [e1]
  have f1 : Fam 133 w2 B (fun b => (b = gN ∨ b = gU ∨ (Value.slice q.A q.len q.cap).ownBlock = some b) ∨ b = gV) (q.tvs.map (·.sv)):=h.fam.less fun b hb => by
    rcases hb with hb | hb
    · exact .inl hb
    · rcases hV with hV | hV
      · subst hb;subst hV;exact .inl (.inr (.inr hbT))
      · right;omega
  have f2:=f1.turn hg0 (fun b e => by cases e;exact .inl (.inr (.inr hbT)))
  have f3:=f2.add (x:=(newT a g).sv) ho (fun b e => by
    have e2 : g = b:=by injection e
    subst e2
    rintro ((e | e | e) | e)
    · omega
    · omega
    · rw [hbT] at e;cases e;omega
    · exact hVg e.symm) (fun k y b hy e e3 => by
    have e2 : g = b:=by injection e
    subst e2
    have:=(f1.block hy e3).2
    omega)
  have f4:=f3.turn hg (fun b e => by cases e;exact .inl (.inl rfl))
  refine f4.less fun b hb => ?_
  rcases hb with rfl | rfl | hb
  · exact .inl (.inl (.inl rfl))
  · exact .inl (.inl (.inr (.inl rfl)))
  · cases hb;exact .inl (.inr rfl)
end Go.Proofs.Ytnaomfmmkhgbhaa
