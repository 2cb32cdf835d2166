/- SemP9, SemPf, SemPkA, SemStep, SemLaw1, Equal, Equal2, SemSame, SemSame2, SemLaw2, ScriptP3. -/
import Derived.Test.YtcbfghcdbmlneaaPk17
import Derived.Test.YtcbfghcdbmlneaaSemPb
import Derived.Test.YtcbfghcdbmlneaaPk18
import Derived.Test.YtcbfghcdbmlneaaPk8
import Derived.Test.YtcbfghcdbmlneaaPk10
import Derived.Test.YtcbfghcdbmlneaaPk1
import Derived.Test.YtcbfghcdbmlneaaPk2
import Derived.Laws.StructEq
import Derived.BigFrame
import Derived.Test.YtcbfghcdbmlneaaPk14
import Derived.Test.YtcbfghcdbmlneaaPk16
import Derived.Test.YtcbfghcdbmlneaaPk3
import Derived.Test.YtcbfghcdbmlneaaPk9
namespace Go.Proofs.Ytcbfghcdbmlneaa
open Go.RowKit
theorem goOn_twice (s : List (Nat × Nat)) (n m : Nat) : M.goOn (M.goOn s n) m = M.goOn s m:=by
  unfold M.goOn M.top
  rw [List.length_set]
  rcases Nat.eq_zero_or_pos s.length with h | h
  · rw [List.eq_nil_of_length_eq_zero h];rfl
  · rw [List.set_set,List.getD_eq_getElem?_getD (l:=s.set _ _),List.getElem?_set,if_pos rfl,if_pos (by omega)]
    rfl
theorem frame_size : (Try.prog.info? 175).map (·.size) = some 2:=by kernel_rfl
theorem frames_size : (Try.prog.info? 153).map (·.size) = some 1:=by kernel_rfl
set_option maxRecDepth 100000 in
set_option maxHeartbeats 1600000 in
theorem sem_branch (B gN gU k : Nat) (q : Pc) (x : Nd) (way : Bool) (th : Tv) (w : World) (hst : St w B gN gU q) (hu : Blk w gU 185 (turnC gN k way x)) (hkl : k < q.len) (hth : q.tvs[k]? = some th) (hs0 : 0 < th.sv.len) (hlen16 : th.sv.len ≤ 1000) (h8 : q.len ≤ 8) (nx : Nat) (hnx : x.next = (nx : Int)) (al : Nat) (hal : x.alt = (al : Int)) (hk8 : x.kind = 8) :
    Calls Try.prog 111 #[.pointer (some ⟨gU,0,none⟩)] w fun e w' => e = .returned (.tuple #[]) ∧ ∃ q',St w' B gN gU q' ∧ q'.cf = M.act q.cf k x way ∧ Below B w w':=by
  go_enter Try.func111,Try.ntmps111
  go_wp2_with fail
  refine (yT B gN gU k q x way th w hst hu hkl hth hs0 hlen16 h8 nx hnx).mono ?_
  rintro e w1 ⟨rfl,hst1,hu1,hb1⟩
  have hw1s:=hb1.size
  have hth1 : (q.put k (tvGo th nx)).tvs[k]? = some (tvGo th nx):=by
    show (q.tvs.set k (tvGo th nx))[k]? = _
    rw [List.getElem?_set,if_pos rfl,if_pos (List.getElem?_eq_some_iff.1 hth).1]
  have hcf1 : M.th q.cf k = tvT th:=Pc.th_of hth
  have HCf:=kp (Pc.put_cf q k (tvGo th nx))
  have HCf0:=kp hcf1
  have hs01 : 0 < (tvGo th nx).sv.len:=hs0
  have hlen161 : (tvGo th nx).sv.len ≤ 1000:=hlen16
  have hkl1 : k < (q.put k (tvGo th nx)).len:=hkl
  have h81 : (q.put k (tvGo th nx)).len ≤ 8:=h8
  have how1 : (q.put k (tvGo th nx)).ow = q.ow:=rfl
  have HQlen : Kept ((q.put k (tvGo th nx)).len = q.len):=kp rfl
  have HTvs : Kept ((q.put k (tvGo th nx)).tvs = q.tvs.set k (tvGo th nx)):=kp rfl
  have HTh1 : Kept (tvT (tvGo th nx) = ⟨M.goOn th.sv.stack nx,th.slots⟩):=kp rfl
  obtain ⟨q1,hq1⟩ : ∃ q1,q.put k (tvGo th nx) = q1:=⟨_,rfl⟩
  obtain ⟨th1,ht1⟩ : ∃ th1,tvGo th nx = th1:=⟨_,rfl⟩
  rw [ht1] at hq1 hth1 hs01 hlen161 HCf HTh1 HTvs hst1 hkl1 h81 how1 HQlen
  rw [hq1] at hst1 hth1 hkl1 h81 how1 HCf HQlen HTvs
  clear hst hu hq1 ht1 hcf1 hs0 hlen16
  obtain ⟨gT,curT,thx,hA,hbT,hthx,hcT0,hcTj,hTN,hTU,hBT,hsl,hthc,hcTl⟩:=hst1.thread hkl1
  rw [hth1] at hthx
  cases hthx
  obtain ⟨gS,cur,hSA,hbS,hlen,hSN,hSU,hBS,hput⟩:=hst1.goes hth1 hs01
  have hbound:=hst1.ok
  have hqc:=hbound.lc;have hqm:=hbound.cm
  unfold maxLen at hqm
  have HE : Kept (pcC q1 = .slice (some ⟨gT,0,none⟩) q1.len q1.cap :: q1.ow.map natV):=kp (by unfold pcC;rw [hA])
  have hgN:=hst1.conf.lt;have hgU:=hu1.lt;have hgT:=hbT.lt;have hgS:=hbS.lt
  have HSt:=kp hst1;have HK:=kp hu1;have HT:=kp hbT;have HS:=kp hbS;have HPut:=kp hput
  have hxc:=hbound.svs th1 (List.mem_of_getElem? hth1)
  have hxc2:=hxc.lc;have hxm:=hxc.cm
  unfold maxLen at hxm
  rw [hSA] at hcT0
  have HC0:=kp hcT0
  have hlow:=hst1.low.1
  have hBw : B ≤ w1.heap.size:=by omega
  have HLow:=kp hst1.low
  obtain ⟨n,hn⟩ : ∃ n,th1.sv.len = n:=⟨_,rfl⟩
  obtain ⟨cp,hcp⟩ : ∃ cp,th1.sv.cap = cp:=⟨_,rfl⟩
  have HThl:=kp hn
  rw [hn] at HC0 hs01 hlen161 hxc2 hlen HPut
  rw [hcp] at HC0 hxc2 hxm
  have HB1:=kp hb1
  have hu2:=HK.out.cell 2
  simp only [turnC,List.getElem?_cons_zero,List.getElem?_cons_succ] at hu2
  have HAct : Kept (M.act q.cf k x way = if way = true then ⟨q.cf.ths.set k ⟨M.goOn th.sv.stack al,th.slots⟩,q.ow⟩ else q1.cf):=kp (by
    unfold M.act
    rw [HCf.out,HCf0.out,if_neg (show ¬ x.kind = 9 by omega),if_neg (show ¬ x.kind = 3 by omega),if_neg (show ¬ x.kind = 4 by omega),if_neg (show ¬ x.kind = 5 by omega),if_neg (show ¬ x.kind = 7 by omega),hnx,hal,Int.toNat_natCast,Int.toNat_natCast,HTh1.out]
    cases way
    · rw [if_neg (by simp),if_neg (by simp)];rfl
    · rw [if_pos ⟨hk8,rfl⟩,if_pos rfl];rfl)
  have HGoalT : Kept ((q1.put k (tvGo th1 al)).cf = ⟨q.cf.ths.set k ⟨M.goOn th.sv.stack al,th.slots⟩,q.ow⟩):=kp (by
    rw [Pc.put_cf,HCf.out,how1,List.set_set]
    have e : tvT (tvGo th1 al) = ⟨M.goOn th.sv.stack al,th.slots⟩:=by
      have h1 : th1.sv.stack = M.goOn th.sv.stack nx:=congrArg M.Th.stack HTh1.out
      have h2 : th1.slots = th.slots:=congrArg M.Th.slots HTh1.out
      show (⟨M.goOn th1.sv.stack al,th1.slots⟩ : M.Th) = _
      rw [h1,h2,goOn_twice]
    rw [e])
  clear hst1 hu1 hth1 hput hbT hbS hcT0 hcTj hthc hcTl hsl hbound hxc hn hcp hSA hA hnx hb1
  cases way
  · have HGoal : Kept (q1.cf = M.act q.cf k x false):=kp (by rw [HAct.out];rfl)
    go_wp2
    go_end0
    exact ⟨rfl,_,HSt.out,HGoal.out,HB1.out⟩
  · have HGoal : Kept ((q1.put k (tvGo th1 al)).cf = M.act q.cf k x true):=kp (by rw [HAct.out,HGoalT.out];rfl)
    go_wp2
    apply jH 10 (.is _ :: .is _ :: .is _ :: .is _ :: .is _ :: .is _ :: .is _ :: .is _ :: .is _ :: .is _ :: [])
      [[],[(0,9)],[(1,10)],[],[(3,12)],[(4,13)],[(5,14)],[(6,15)],[(2,11)],[(8,17)],[(9,18),(7,16)]]
      [(0,9),(1,10),(2,11),(3,12),(4,13),(5,14),(6,15),(7,16),(8,17),(9,18)] (by kernel_rfl) (by kernel_rfl) (by kernel_rfl) (by kernel_rfl) (by kernel_rfl)
    case hob =>
      refine ⟨?o0,?o1,?o2,?o3,?o4,?o5,?o6,?o7,?o8,?o9,trivial⟩
      case o0 => intro W hW;change wpList _ _ _ _ _ _;go_wp2;exact j0 rfl rfl rfl
      case o1 =>
        intro W hW;rintro _ rfl;change wpList _ _ _ _ _ _
        have hCu:=(HK.out.below hW hgU)
        have hCn:=((HSt.out.conf.below hW hgN).cell 0)
        rw [HE.out,List.getElem?_cons_zero] at hCn
        have HC:=kp (y6 gU gN gT k q1.len q1.cap true x W hCu hCn hkl1)
        clear hCu hCn
        go_wp2_with fail
        refine (HC.out).mono ?_
        rintro e w2 ⟨rfl,m,rfl⟩
        go_wp2
        exact jG rfl rfl rfl (below_drewN (Below.refl _ _) m) rfl
      case o2 =>
        intro W hW;rintro _ rfl;change wpList _ _ _ _ _ _
        have hc:=(HT.out.below hW hgT).cell (k * 9)
        rw [HC0.out] at hc
        have hC:=LW ⟨gT,k * 9,none⟩ ⟨gS,0,none⟩ n cp W hs01 hlen161 hc
        rw [yW] at hC
        have HC:=kp hC
        clear hc hC
        go_wp2_with fail
        refine (HC.out).mono ?_
        rintro e w2 ⟨rfl,m,rfl⟩
        go_wp2
        exact jG rfl rfl rfl (below_drewN (Below.refl _ _) m) rfl
      case o3 => intro W hW;change wpList _ _ _ _ _ _;go_wp2;exact j0 rfl rfl rfl
      case o4 => intro W hW;rintro _ rfl;change wpList _ _ _ _ _ _;go_wp2;exact j0 rfl rfl rfl
      case o5 => intro W hW;rintro _ rfl;change wpList _ _ _ _ _ _;go_wp2;exact j0 rfl rfl rfl
      case o6 => intro W hW;rintro _ rfl;change wpList _ _ _ _ _ _;go_wp2;exact j0 rfl rfl rfl
      case o7 =>
        intro W hW;rintro _ rfl;change wpList _ _ _ _ _ _
        have hc:=(HK.out.below hW hgU).cell 6
        simp only [turnC,List.getElem?_cons_zero,List.getElem?_cons_succ] at hc
        rw [hal] at hc
        go_wp2;exact j0 rfl rfl rfl
      case o8 => intro W hW;rintro _ rfl;change wpList _ _ _ _ _ _;go_wp2;exact j0 rfl rfl rfl
      case o9 => intro W hW;rintro _ rfl;change wpList _ _ _ _ _ _;go_wp2;exact j0 rfl rfl rfl
    case hend =>
      intro W hW;rintro _ rfl;rintro _ rfl;rintro _ rfl;rintro _ rfl;rintro _ rfl;rintro _ rfl;rintro _ rfl;rintro _ rfl;rintro _ rfl;rintro _ rfl
      simp only [given,jJ,List.set,List.drop]
      have HKw:=kp (HS.out.below hW hgS)
      have HStw:=kp (HSt.out.below hW (Nat.le_refl _))
      have HBw:=kp (hW.mono hBw)
      have HKu:=kp (HK.out.below hW hgU)
      have hWs:=hW.size
      have HWg:=kp hW
      have hsw:=HBw.out.size
      clear hW
      go_wp2_with (first
        | ((with_reducible show Sn);go_must (refine j9 rfl 3 (.tmp 18) (.tmp 16) rfl gS ((n - 1) * 2 + 1) (.int .i64 (al : Int)) rfl rfl rfl rfl _ _ HKw.out hlen lS ?_);intro w5 hk5 hg5 hs5;have HFin:=kp (HPut.out W w5 al HWg.out hk5 hg5 hs5);have HKu5:=kp (HKu.out.grown hg5 (fun e => hSU (by cases e;rfl)));have HB5:=kp (HBw.out.grown hg5 (by omega) (fun k e => by cases e;exact hBS));clear hk5 hg5))
      go_end0
      exact ⟨rfl,_,HFin.out,HGoal.out,HB1.out.trans HB5.out⟩
set_option maxRecDepth 100000 in
set_option maxHeartbeats 1600000 in
theorem sem_leave (B gN gU k : Nat) (q : Pc) (x : Nd) (way : Bool) (th : Tv) (w : World) (hst : St w B gN gU q) (hu : Blk w gU 185 (turnC gN k way x)) (hkl : k < q.len) (hth : q.tvs[k]? = some th) (hs0 : 0 < th.sv.len) (hlen16 : th.sv.len ≤ 1000) (_h8 : q.len ≤ 8) (hk9 : x.kind = 9) :
    Calls Try.prog 112 #[.pointer (some ⟨gU,0,none⟩)] w fun e w' => e = .returned (.tuple #[]) ∧ ∃ q',St w' B gN gU q' ∧ q'.cf = M.act q.cf k x way ∧ Below B w w':=by
  obtain ⟨gT,curT,th',hA,hbT,hth',hcT0,hcTj,hTN,hTU,hBT,hsl,hthc,hcTl⟩:=hst.thread hkl
  rw [hth] at hth'
  cases hth'
  obtain ⟨gS,cur,hSA,hbS,hlen,hSN,hSU,hBS,hput⟩:=hst.goes hth hs0
  have hbound:=hst.ok
  have hqc:=hbound.lc;have hqm:=hbound.cm
  unfold maxLen at hqm
  have HE : Kept (pcC q = .slice (some ⟨gT,0,none⟩) q.len q.cap :: q.ow.map natV):=kp (by unfold pcC;rw [hA])
  have hgN:=hst.conf.lt;have hgU:=hu.lt;have hgT:=hbT.lt;have hgS:=hbS.lt
  have HSt:=kp hst;have HK:=kp hu;have HT:=kp hbT;have HS:=kp hbS;have HPut:=kp hput
  have hxc:=hbound.svs th (List.mem_of_getElem? hth)
  have hxc2:=hxc.lc;have hxm:=hxc.cm
  unfold maxLen at hxm
  rw [hSA] at hcT0
  have HC0:=kp hcT0
  have hlow:=hst.low.1
  have hBw : B ≤ w.heap.size:=by omega
  have HLow:=kp hst.low
  obtain ⟨n,hn⟩ : ∃ n,th.sv.len = n:=⟨_,rfl⟩
  obtain ⟨cp,hcp⟩ : ∃ cp,th.sv.cap = cp:=⟨_,rfl⟩
  have HThl:=kp hn
  rw [hn] at HC0 hs0 hlen16 hxc2 hlen HPut
  rw [hcp] at HC0 hxc2 hxm
  obtain ⟨mm,hmm⟩ : ∃ mm,n = mm + 1:=⟨n - 1,by omega⟩
  have HA:=kp hA;have HTh:=kp hth
  have HOwn : Kept (∀ W,St W B gN gU q → OwnR 2 frV W B 175 (.slice (some ⟨gS,0,none⟩) (mm + 1) cp) th.sv.stack):=kp (fun W hW => by
    have h:=hW.fam.own k th.sv (by rw [List.getElem?_map,hth];rfl)
    unfold svV at h
    rw [hSA,hn,hcp,hmm] at h
    exact h)
  have HBk : Kept ((svV ⟨some ⟨gS,0,none⟩,mm,cp,th.sv.stack.take mm⟩).ownBlock = (svV th.sv).ownBlock):=kp (by unfold svV;rw [hSA];rfl)
  have HGoal : Kept ((q.put k ⟨⟨some ⟨gS,0,none⟩,mm,cp,th.sv.stack.take mm⟩,th.slots⟩).cf = M.act q.cf k x way):=kp (by
    rw [Pc.put_cf]
    unfold M.act
    rw [if_pos hk9,hthc]
    have e : (tvT th).stack.length - 1 = mm:=by show th.sv.stack.length - 1 = mm;rw [hsl,hn,hmm];rfl
    rw [e];rfl)
  have hTlen : k * 9 < curT.length:=by omega
  have hCu:=hu
  have hCn:=hst.conf.cell 0
  rw [HE.out,List.getElem?_cons_zero] at hCn
  have HC:=kp (y6 gU gN gT k q.len q.cap way x w hCu hCn hkl)
  subst hmm
  rw [Nat.add_sub_cancel] at hlen
  clear hst hu hth hput hbT hbS hcT0 hcTj hthc hcTl hsl hbound hxc hn hcp hSA hA hCu hCn
  go_enter Try.func112,Try.ntmps112
  go_wp2_with fail
  refine HC.out.mono ?_
  rintro e w9 ⟨rfl,m,rfl⟩
  obtain ⟨w1,hw1⟩ : ∃ y,w.drewN m = y:=⟨_,rfl⟩
  have HT1 : Kept (Blk w1 gT 155 curT):=kp (by rw [← hw1];exact HT.out.drewN m)
  have HSt1 : Kept (St w1 B gN gU q):=kp (by rw [← hw1];exact HSt.out.drewN m)
  have HB1 : Kept (Below B w w1):=kp (by rw [← hw1];exact below_drewN (Below.refl _ _) m)
  have hBw1 : B ≤ w1.heap.size:=by have:=HB1.out.size;omega
  have hgT1:=HT1.out.lt
  rw [hw1]
  clear hw1
  go_wp2
  apply jH 14 (.is _ :: .is _ :: .is _ :: .is _ :: .is _ :: .is _ :: .is _ :: .is _ :: .is _ :: .is _ :: .is (.int .i64 (mm : Int)) :: .is (.slice (some ⟨gS,0,none⟩) mm cp) :: .is _ :: .is _ :: [])
    [[],[],[(1,6)],[(2,7)],[(3,8)],[],[(5,10)],[(6,11)],[(7,12)],[(8,13)],[(9,14)],[(4,9),(10,15)],[(0,5)],[(12,17)],[(13,18),(11,16)]]
    [(0,5),(1,6),(2,7),(3,8),(4,9),(5,10),(6,11),(7,12),(8,13),(9,14),(10,15),(11,16),(12,17),(13,18)] (by kernel_rfl) (by kernel_rfl) (by kernel_rfl) (by kernel_rfl) (by kernel_rfl)
  case hob =>
    refine ⟨?o0,?o1,?o2,?o3,?o4,?o5,?o6,?o7,?o8,?o9,?o10,?o11,?o12,?o13,trivial⟩
    case o0 => intro W hW;change wpList _ _ _ _ _ _;go_wp2;exact j0 rfl rfl rfl
    case o1 => intro W hW;change wpList _ _ _ _ _ _;go_wp2;exact j0 rfl rfl rfl
    case o2 => intro W hW;rintro _ rfl;change wpList _ _ _ _ _ _;go_wp2;exact j0 rfl rfl rfl
    case o3 => intro W hW;rintro _ rfl;change wpList _ _ _ _ _ _;go_wp2;exact j0 rfl rfl rfl
    case o4 =>
      intro W hW;rintro _ rfl;change wpList _ _ _ _ _ _
      have hc:=(HT1.out.below hW hgT1).cell (k * 9)
      rw [HC0.out] at hc
      go_wp2;exact j0 rfl rfl rfl
    case o5 => intro W hW;change wpList _ _ _ _ _ _;go_wp2;exact j0 rfl rfl rfl
    case o6 => intro W hW;rintro _ rfl;change wpList _ _ _ _ _ _;go_wp2;exact j0 rfl rfl rfl
    case o7 => intro W hW;rintro _ rfl;change wpList _ _ _ _ _ _;go_wp2;exact j0 rfl rfl rfl
    case o8 =>
      intro W hW;rintro _ rfl;change wpList _ _ _ _ _ _
      have hc:=(HT1.out.below hW hgT1).cell (k * 9)
      rw [HC0.out] at hc
      go_wp2;exact j0 rfl rfl rfl
    case o9 => intro W hW;rintro _ rfl;change wpList _ _ _ _ _ _;go_wp2;exact j0 rfl rfl rfl
    case o10 => intro W hW;rintro _ rfl;change wpList _ _ _ _ _ _;go_wp2;exact j0 rfl rfl rfl
    case o11 =>
      intro W hW;rintro _ rfl;rintro _ rfl;change wpList _ _ _ _ _ _
      go_wp2_with ((with_reducible show Sl 16);go_must (refine uI rfl 153 (.tmp 9) (.tmp 15) rfl 175 2 Try.underlying153 frame_size (some ⟨gS,0,none⟩) (mm + 1) cp rfl .i64 mm rfl (by omega) ?_))
      exact j0 rfl rfl rfl
    case o12 => intro W hW;rintro _ rfl;change wpList _ _ _ _ _ _;go_wp2;exact j0 rfl rfl rfl
    case o13 => intro W hW;rintro _ rfl;change wpList _ _ _ _ _ _;go_wp2;exact j0 rfl rfl rfl
  case hend =>
    intro W hW;rintro _ rfl;rintro _ rfl;rintro _ rfl;rintro _ rfl;rintro _ rfl;rintro _ rfl;rintro _ rfl;rintro _ rfl;rintro _ rfl;rintro _ rfl;rintro _ rfl;rintro _ rfl;rintro _ rfl;rintro _ rfl
    simp only [given,jJ,List.set,List.drop]
    have HKw:=kp (HT1.out.below hW hgT1)
    have HStw:=kp (HSt1.out.below hW (Nat.le_refl _))
    have HBw:=kp (HB1.out.trans (hW.mono hBw1))
    have hWs:=hW.size
    clear hW
    go_wp2_with (first
      | ((with_reducible show Sn);go_must (refine j9 rfl 153 (.tmp 18) (.tmp 16) rfl gT (k * 9) (.slice (some ⟨gS,0,none⟩) mm cp) rfl rfl rfl rfl _ _ HKw.out hTlen frames_size ?_);intro w5 hk5 hg5 hs5
         have HFin:=kp (HStw.out.stack (sv:=⟨some ⟨gS,0,none⟩,mm,cp,th.sv.stack.take mm⟩) HA.out HKw.out HTh.out (jK _ _) ((HOwn.out _ HStw.out).front (Nat.le_succ mm)) (.inl HBk.out) hk5 hg5 hs5)
         have HB5:=kp (HBw.out.grown hg5 (by omega) (fun k e => by cases e;exact hBT));clear hk5 hg5))
    go_end0
    exact ⟨rfl,_,HFin.out,HGoal.out,HB5.out⟩
set_option maxRecDepth 100000 in
set_option maxHeartbeats 8000000 in
theorem YN (B : Nat) (p : Pg) (hf : Fine p) (q : Pc) (w : World) (hp : p.Ok w B) (hq : q.Ok w B) (hg : M.Good p q.cf) (hB : B ≤ w.heap.size) (t : Int) (ht : I64 t) (way : Bool) (hen : M.enabled p q.cf t = false) :
    Calls Try.prog 81 #[pcA q,pgA p,.agg #[.int .i64 t,.bool way]] w fun e w' => ∃ q',e = .returned (pcA q') ∧ Mine w' w.heap.size q' ∧ q'.cf = M.step p q.cf t way ∧ Below w.heap.size w w':=by
  have h8 : q.len ≤ 8:=by rw [← hq.len];exact hg.most
  have h0q : 0 < q.len:=by rw [← hq.len];exact hg.one
  have HOw:=kp hg.owns
  have HQ17:=kp (jW hg.owns)
  have HStk : Kept (∀ x ∈ q.tvs,x.sv.len ≤ 1000):=kp (fun x hx => by
    have h1:=M.high hf hp.row.len hg (x:=tvT x) (List.mem_map_of_mem hx)
    have h2:=hf.counts.f
    have h3 : (tvT x).stack.length = x.sv.len:=(hq.svs x hx).row.len
    omega)
  have HP:=kp hp;have HQ:=kp hq;have HG:=kp hg;have HFine:=kp hf;have HT:=kp ht;have HEn:=kp hen
  have HStep : Kept (M.step p q.cf t way = q.cf):=kp (M.step_same hen)
  clear hp hq hg hf ht hen
  rw [qS,jL]
  go_enter Try.func81,Try.ntmps81
  go_wp2_with (first
    | ((with_reducible refine j6 rfl 91 (.tmp 0) rfl (pcC q) rfl ?_);intro g1 w1 hg1 hk1 hw1;have HK1:=kp hk1;have HW1:=kp hw1;have hs1:=hw1.size;have hl1:=hk1.lt;clear hk1 hw1)
    | ((with_reducible refine j6 rfl 46 (.tmp 1) rfl (pgC p) rfl ?_);intro g2 w2 hg2 hk2 hw2;have HK12:=kp (HK1.out.below hw2 hl1);have HK2:=kp hk2;have HW2:=kp (HW1.out.trans (hw2.mono hs1));have hs2:=HW2.out.size;have hl12:=HK12.out.lt;have hl2:=hk2.lt;clear hk2 hw2)
    | ((with_reducible refine j6 rfl 56 (.tmp 2) rfl [.int .i64 t,.bool way] rfl ?_);intro g3 w3 hg3 hk3 hw3;have HK13:=kp (HK12.out.below hw3 hl12);have HK23:=kp (HK2.out.below hw3 hl2);have HK3:=kp hk3;have HW3:=kp (HW2.out.trans (hw3.mono hs2));have hs3:=HW3.out.size;have hl13:=HK13.out.lt;have hl23:=HK23.out.lt;have hl3:=hk3.lt;clear hk3 hw3)
    | ((with_reducible show Sl 6);go_must (refine j7 rfl 91 rfl _ l7 ?_);intro g4 w4 hg4 hk4 hw4
       have HA1:=kp (HK13.out.below hw4 hl13);have HA2:=kp (HK23.out.below hw4 hl23);have HA3:=kp (HK3.out.below hw4 hl3);have HA4:=kp hk4;have HW4:=kp (HW3.out.trans (hw4.mono hs3));have hs4:=HW4.out.size
       have ha1:=HA1.out.lt;have ha2:=HA2.out.lt;have ha3:=HA3.out.lt;have ha4:=hk4.lt
       have HQ4:=kp ((HQ.out.below (HW4.out.mono hB)).more (show B ≤ w4.heap.size by omega))
       have hwg4 : w.heap.size ≤ g4:=by omega
       clear hk4 hw4)
    | ((with_reducible show Sl 10);go_must (refine j4 rfl 91 (.tmp 3) rfl g1 rfl _ (pcC q) _ HA1.out Try.underlying91 rfl (by rw [HQ17.out];exact jC) ?_))
    | (go_at_call 95;go_must (refine (LX q w4 HQ4.out h8 h0q HOw.out HStk.out).mono ?_);rintro e w5 ⟨q',rfl,hmine,hcf,hqln,hqow,hb5⟩
       have HMi:=kp hmine;have HCfq:=kp hcf;have HQow:=kp hqow;have HL5:=kp hb5;have hs5:=hb5.size
       have HQ17' : Kept ((pcC q').length = 17):=kp (jW (by rw [hqow];exact HOw.out))
       have HQln:=kp hqln
       clear hmine hcf hqow hqln hb5)
    | ((with_reducible show Sl 7);go_must (refine j7 rfl 91 rfl _ l7 ?_);intro gN w6 hgN hk6 hw6;have HKN6:=kp hk6;have HM6:=kp hw6;have HL6:=kp (HL5.out.trans (hw6.mono hs5));have hs56:=hw6.size;clear hk6 hw6)
    | ((with_reducible show Sn);(refine j5 rfl 91 (.tmp 7) (.tmp 11) rfl gN (pcC q') rfl rfl _ _ HKN6.out (by rw [HQ17'.out];exact jC) (by rw [HQ17'.out];rfl) (jX q') ?_);intro w7 hk7 hg7 hs7
       have HKN7:=kp hk7;have HM7:=kp (HM6.out.grown hg7 hs56 (fun k e => by cases e;exact hgN));have HL7:=kp (HL6.out.grown hg7 (by omega) (fun k e => by cases e;omega));have hs47:=HL7.out.size
       have hp3:=(HA3.out.below HL7.out ha3).cell 0
       have HW7:=kp (HW4.out.trans (HL7.out.mono hs4))
       have HB7:=kp (HA1.out.below HL7.out ha1);have HB72:=kp (HA2.out.below HL7.out ha2)
       simp only [List.getElem?_cons_zero] at hp3
       clear hk7 hg7 hs7)
    | ((with_reducible show Sl 12);go_must (refine j4 rfl 91 (.tmp 3) rfl g1 rfl _ (pcC q) _ HB7.out Try.underlying91 rfl (by rw [HQ17.out];exact jC) ?_))
    | ((with_reducible show Sl 13);go_must (refine j4 rfl 46 (.tmp 4) rfl g2 rfl _ (pgC p) _ HB72.out Try.underlying46 rfl jF ?_))
    | (go_at_call 79;go_must (refine (yI B p HFine.out q w7 (HP.out.below (HW7.out.mono hB)) (HQ.out.below (HW7.out.mono hB)) HG.out (by have:=HW7.out.size;omega) t HT.out false HEn.out).mono ?_);rintro e w8 ⟨rfl,hb8⟩
       have HM8:=kp (HM7.out.trans (hb8.mono HM7.out.size));have HL8:=kp (HL7.out.trans (hb8.mono hs47));have HKN8:=kp (HKN7.out.below hb8 HKN7.out.lt);have hs48:=HL8.out.size;have hs58:=HM8.out.size
       have HW8:=kp (HW4.out.trans (HL8.out.mono hs4))
       have HC8:=kp (HA1.out.below HL8.out ha1);have HC82:=kp (HA2.out.below HL8.out ha2);have HC84:=kp (HA4.out.below HL8.out ha4)
       have hp8:=(HA3.out.below HL8.out ha3).cell 0
       simp only [List.getElem?_cons_zero] at hp8
       have hgN8:=HKN8.out.lt
       clear hb8 hp3)
    | ((with_reducible show Sl 34);go_must (refine j4 rfl 91 (.tmp 7) rfl gN rfl _ (pcC q') _ HKN8.out Try.underlying91 rfl (by rw [HQ17'.out];exact jC) ?_))
    | ((with_reducible show Sn);(refine j5 rfl 91 (.tmp 6) (.tmp 34) rfl g4 (pcC q') rfl rfl _ _ HC84.out (by rw [HQ17'.out];exact jC) (by rw [HQ17'.out];rfl) (jX q') ?_);intro we hke hge hse
       have HKe:=kp hke;have HOk:=kp ((HMi.out.below HM8.out (Nat.le_refl _)).away2 hge ha4 HW4.out.size);have HWe:=kp (HW8.out.grown hge HW8.out.size (fun k e => by cases e;exact hwg4))
       clear hke hge hse)
    | ((with_reducible show bodyPost _ _ _ _ _ _);exact bodyPost_ret (jP (P:=Try.prog) (fn:=Try.f81) rfl _ _ g4 91 _ _ rfl HKe.out Try.underlying91 rfl (by rw [HQ17'.out];exact jC)) rfl ⟨q',rfl,HOk.out,by rw [HCfq.out,HStep.out],HWe.out⟩))
set_option maxRecDepth 100000 in
theorem deed_enters {K F : Nat} (hK : K < 10) (hF : deedL[K]? = some (fn9 F)) (xs : Array Value) (W : World) : (callFunc F xs).run Try.prog W = .ok (.enter F xs) W:=by
  have go : ∀ (f : FuncId) (fn : Func) (c : Code),Try.prog.funcs[f]? = some fn → (fn.name == "runtime.NumGoroutine") = false → fn.body = some c → (callFunc f xs).run Try.prog W = .ok (.enter f xs) W:=fun f fn c hf hname hb => by
    have h1 : fn.name ≠ "runtime.NumGoroutine":=by simpa using hname
    simp [callFunc,hf,h1,hb]
  obtain rfl | rfl | rfl | rfl | rfl | rfl | rfl | rfl | rfl | rfl : K = 0 ∨ K = 1 ∨ K = 2 ∨ K = 3 ∨ K = 4 ∨ K = 5 ∨ K = 6 ∨ K = 7 ∨ K = 8 ∨ K = 9:=by omega
  all_goals cases hF
  all_goals first
    | exact go _ _ _ Try.func106 (by kernel_rfl) rfl
    | exact go _ _ _ Try.func107 (by kernel_rfl) rfl
    | exact go _ _ _ Try.func108 (by kernel_rfl) rfl
    | exact go _ _ _ Try.func109 (by kernel_rfl) rfl
    | exact go _ _ _ Try.func110 (by kernel_rfl) rfl
    | exact go _ _ _ Try.func111 (by kernel_rfl) rfl
    | exact go _ _ _ Try.func112 (by kernel_rfl) rfl
theorem sem_deed (B gN gU k : Nat) (q : Pc) (x : Nd) (way : Bool) (th : Tv) (w : World) (hst : St w B gN gU q) (hu : Blk w gU 185 (turnC gN k way x)) (hkl : k < q.len) (hth : q.tvs[k]? = some th) (hs0 : 0 < th.sv.len) (hlen16 : th.sv.len ≤ 1000) (h8 : q.len ≤ 8) (nx : Nat) (hnx : x.next = (nx : Int)) (a : Nat) (ha : x.arg = (a : Int)) (al : Nat) (hal : x.alt = (al : Int)) (ha3 : x.kind = 3 ∨ x.kind = 4 → a < 16) (hal5 : x.kind = 5 → al < 8) (h8s : th.slots.length = 8) (how : q.ow.length = 16) (K F : Nat) (hK : K < 10) (hF : deedL[K]? = some (fn9 F)) (hk : x.kind = (K : Int)) :
    Calls Try.prog F #[.pointer (some ⟨gU,0,none⟩)] w fun e w' => e = .returned (.tuple #[]) ∧ ∃ q',St w' B gN gU q' ∧ q'.cf = M.act q.cf k x way ∧ Below B w w':=by
  have go : (x.kind = 0 ∨ x.kind = 1 ∨ x.kind = 2 ∨ x.kind = 6) → Calls Try.prog 106 #[.pointer (some ⟨gU,0,none⟩)] w fun e w' => e = .returned (.tuple #[]) ∧ ∃ q',St w' B gN gU q' ∧ q'.cf = M.act q.cf k x way ∧ Below B w w':=fun h => by
    refine (yT B gN gU k q x way th w hst hu hkl hth hs0 hlen16 h8 nx hnx).mono ?_
    rintro e w1 ⟨he,hst1,_,hb1⟩
    refine ⟨he,_,hst1,?_,hb1⟩
    rw [Pc.put_cf]
    have h1 : M.th q.cf k = tvT th:=Pc.th_of hth
    unfold M.act
    rw [h1,if_neg (show ¬ x.kind = 9 by omega),if_neg (show ¬ x.kind = 3 by omega),if_neg (show ¬ x.kind = 4 by omega),if_neg (show ¬ x.kind = 5 by omega),if_neg (show ¬ x.kind = 7 by omega),if_neg (show ¬ (x.kind = 8 ∧ way = true) by omega),hnx,Int.toNat_natCast]
    rfl
  obtain rfl | rfl | rfl | rfl | rfl | rfl | rfl | rfl | rfl | rfl : K = 0 ∨ K = 1 ∨ K = 2 ∨ K = 3 ∨ K = 4 ∨ K = 5 ∨ K = 6 ∨ K = 7 ∨ K = 8 ∨ K = 9:=by omega
  all_goals (cases hF)
  · exact go (.inl hk)
  · exact go (.inr (.inl hk))
  · exact go (.inr (.inr (.inl hk)))
  · exact sem_lock B gN gU k q x way th w hst hu hkl hth hs0 hlen16 h8 nx hnx a ha (ha3 (.inl hk)) how hk
  · exact sem_unlock B gN gU k q x way th w hst hu hkl hth hs0 hlen16 h8 nx hnx a ha (ha3 (.inr hk)) how hk
  · exact sem_spawn B gN gU k q x way th w hst hu hkl hth hs0 hlen16 h8 nx hnx a ha al hal (hal5 hk) h8s hk
  · exact go (.inr (.inr (.inr hk)))
  · exact sem_call B gN gU k q x way th w hst hu hkl hth hs0 hlen16 h8 nx hnx a ha hk
  · exact sem_branch B gN gU k q x way th w hst hu hkl hth hs0 hlen16 h8 nx hnx al hal hk
  · exact sem_leave B gN gU k q x way th w hst hu hkl hth hs0 hlen16 h8 hk
set_option maxRecDepth 100000 in
set_option maxHeartbeats 8000000 in
theorem sem_step_k (B : Nat) (p : Pg) (hf : Fine p) (q : Pc) (w : World) (hp : p.Ok w B) (hq : q.Ok w B) (hg : M.Good p q.cf) (hB : B ≤ w.heap.size) (k : Nat) (ht : I64 (k : Int)) (way : Bool) (hen : M.enabled p q.cf (k : Int) = true) (K F : Nat) (hK : K < 10) (hKF : deedL[K]? = some (fn9 F)) (hkk : (M.node p q.cf k).kind = (K : Int)) :
    Calls Try.prog 81 #[pcA q,pgA p,.agg #[.int .i64 (k : Int),.bool way]] w fun e w' => ∃ q',e = .returned (pcA q') ∧ Mine w' w.heap.size q' ∧ q'.cf = M.step p q.cf (k : Int) way ∧ Below w.heap.size w w':=by
  have h8 : q.len ≤ 8:=by rw [← hq.len];exact hg.most
  have h0q : 0 < q.len:=by rw [← hq.len];exact hg.one
  have HOw:=kp hg.owns
  have HQ17:=kp (jW hg.owns)
  have HStk : Kept (∀ x ∈ q.tvs,x.sv.len ≤ 1000):=kp (fun x hx => by
    have h1:=M.high hf hp.row.len hg (x:=tvT x) (List.mem_map_of_mem hx)
    have h2:=hf.counts.f
    have h3 : (tvT x).stack.length = x.sv.len:=(hq.svs x hx).row.len
    omega)
  have HP:=kp hp;have HQ:=kp hq;have HG:=kp hg;have HFine:=kp hf;have HT:=kp ht;have HEn:=kp hen
  have HStep : Kept (M.step p q.cf (k : Int) way = M.act q.cf k (M.node p q.cf k) way):=kp (by unfold M.step;rw [hen,Int.toNat_natCast];rfl)
  have henN : M.enabledN p q.cf k = true:=by have h:=(M.enabled_split hen).2;rwa [Int.toNat_natCast] at h
  have hlN:=M.enabled_lives henN
  have HLN:=kp hlN
  have HLv : Kept (M.lives q.cf (k : Int) = true):=kp (by rw [M.lives_nat];exact hlN)
  have hkl : k < q.len:=by rw [← hq.len];exact M.lives_lt hlN
  obtain ⟨x,hx⟩ : ∃ x,M.node p q.cf k = x:=⟨_,rfl⟩
  have HX:=kp (atNd_is HLv.out hx)
  obtain ⟨fn,hfn,_,_⟩:=M.node_is hg hlN
  have hfit:=M.node_fit hf hg hlN hfn
  have HGa:=kp (M.good_step hf hp.row.len hg (k : Int) way)
  rw [hx] at hfit HStep hkk
  obtain ⟨nx,hnx⟩ : ∃ nx : Nat,x.next = (nx : Int):=⟨x.next.toNat,by have:=hfit.next;omega⟩
  obtain ⟨a,hna⟩ : ∃ a : Nat,x.arg = (a : Int):=⟨x.arg.toNat,by have:=hfit.arg;omega⟩
  obtain ⟨al,hnal⟩ : ∃ al : Nat,x.alt = (al : Int):=⟨x.alt.toNat,by have:=hfit.alt;omega⟩
  have ha3 : x.kind = 3 ∨ x.kind = 4 → a < 16:=fun h => by have:=hfit.lock h;omega
  have hal5 : x.kind = 5 → al < 8:=fun h => by have:=hfit.spawn h;omega
  have HAx:=kp ha3;have HAl:=kp hal5;have HNx:=kp hnx;have HNa:=kp hna;have HNal:=kp hnal
  have HKk:=kp hkk;have HKF : Kept (K < 10 ∧ deedL[K]? = some (fn9 F)):=kp ⟨hK,hKF⟩
  rw [HStep.out] at HGa
  clear hp hq hg hf ht hen henN hlN hx hfn hfit ha3 hal5 hnx hna hnal hkk hK hKF
  rw [qS,jL]
  go_enter Try.func81,Try.ntmps81
  go_wp2_with (first
    | ((with_reducible refine j6 rfl 91 (.tmp 0) rfl (pcC q) rfl ?_);intro g1 w1 hg1 hk1 hw1;have HK1:=kp hk1;have HW1:=kp hw1;have hs1:=hw1.size;have hl1:=hk1.lt;clear hk1 hw1)
    | ((with_reducible refine j6 rfl 46 (.tmp 1) rfl (pgC p) rfl ?_);intro g2 w2 hg2 hk2 hw2;have HK12:=kp (HK1.out.below hw2 hl1);have HK2:=kp hk2;have HW2:=kp (HW1.out.trans (hw2.mono hs1));have hs2:=HW2.out.size;have hl12:=HK12.out.lt;have hl2:=hk2.lt;clear hk2 hw2)
    | ((with_reducible refine j6 rfl 56 (.tmp 2) rfl [.int .i64 (k : Int),.bool way] rfl ?_);intro g3 w3 hg3 hk3 hw3;have HK13:=kp (HK12.out.below hw3 hl12);have HK23:=kp (HK2.out.below hw3 hl2);have HK3:=kp hk3;have HW3:=kp (HW2.out.trans (hw3.mono hs2));have hs3:=HW3.out.size;have hl13:=HK13.out.lt;have hl23:=HK23.out.lt;have hl3:=hk3.lt;clear hk3 hw3)
    | ((with_reducible show Sl 6);go_must (refine j7 rfl 91 rfl _ l7 ?_);intro g4 w4 hg4 hk4 hw4
       have HA1:=kp (HK13.out.below hw4 hl13);have HA2:=kp (HK23.out.below hw4 hl23);have HA3:=kp (HK3.out.below hw4 hl3);have HA4:=kp hk4;have HW4:=kp (HW3.out.trans (hw4.mono hs3));have hs4:=HW4.out.size
       have ha1:=HA1.out.lt;have ha2:=HA2.out.lt;have ha3:=HA3.out.lt;have ha4:=hk4.lt
       have HQ4:=kp ((HQ.out.below (HW4.out.mono hB)).more (show B ≤ w4.heap.size by omega))
       have hwg4 : w.heap.size ≤ g4:=by omega
       clear hk4 hw4)
    | ((with_reducible show Sl 10);go_must (refine j4 rfl 91 (.tmp 3) rfl g1 rfl _ (pcC q) _ HA1.out Try.underlying91 rfl (by rw [HQ17.out];exact jC) ?_))
    | (go_at_call 95;go_must (refine (LX q w4 HQ4.out h8 h0q HOw.out HStk.out).mono ?_);rintro e w5 ⟨q',rfl,hmine,hcf,hqln,hqow,hb5⟩
       have HMi:=kp hmine;have HCfq:=kp hcf;have HQow:=kp hqow;have HL5:=kp hb5;have hs5:=hb5.size
       have HQ17' : Kept ((pcC q').length = 17):=kp (jW (by rw [hqow];exact HOw.out))
       have HQln:=kp hqln
       clear hmine hcf hqow hqln hb5)
    | ((with_reducible show Sl 7);go_must (refine j7 rfl 91 rfl _ l7 ?_);intro gN w6 hgN hk6 hw6;have HKN6:=kp hk6;have HM6:=kp hw6;have HL6:=kp (HL5.out.trans (hw6.mono hs5));have hs56:=hw6.size;clear hk6 hw6)
    | ((with_reducible show Sn);(refine j5 rfl 91 (.tmp 7) (.tmp 11) rfl gN (pcC q') rfl rfl _ _ HKN6.out (by rw [HQ17'.out];exact jC) (by rw [HQ17'.out];rfl) (jX q') ?_);intro w7 hk7 hg7 hs7
       have HKN7:=kp hk7;have HM7:=kp (HM6.out.grown hg7 hs56 (fun k e => by cases e;exact hgN));have HL7:=kp (HL6.out.grown hg7 (by omega) (fun k e => by cases e;omega));have hs47:=HL7.out.size
       have hp3:=(HA3.out.below HL7.out ha3).cell 0
       have HW7:=kp (HW4.out.trans (HL7.out.mono hs4))
       have HB7:=kp (HA1.out.below HL7.out ha1);have HB72:=kp (HA2.out.below HL7.out ha2)
       simp only [List.getElem?_cons_zero] at hp3
       clear hk7 hg7 hs7)
    | ((with_reducible show Sl 12);go_must (refine j4 rfl 91 (.tmp 3) rfl g1 rfl _ (pcC q) _ HB7.out Try.underlying91 rfl (by rw [HQ17.out];exact jC) ?_))
    | ((with_reducible show Sl 13);go_must (refine j4 rfl 46 (.tmp 4) rfl g2 rfl _ (pgC p) _ HB72.out Try.underlying46 rfl jF ?_))
    | (go_at_call 79;go_must (refine (yI B p HFine.out q w7 (HP.out.below (HW7.out.mono hB)) (HQ.out.below (HW7.out.mono hB)) HG.out (by have:=HW7.out.size;omega) (k : Int) HT.out true HEn.out).mono ?_);rintro e w8 ⟨rfl,hb8⟩
       have HM8:=kp (HM7.out.trans (hb8.mono HM7.out.size));have HL8:=kp (HL7.out.trans (hb8.mono hs47));have HKN8:=kp (HKN7.out.below hb8 HKN7.out.lt);have hs48:=HL8.out.size;have hs58:=HM8.out.size
       have HW8:=kp (HW4.out.trans (HL8.out.mono hs4))
       have HC8:=kp (HA1.out.below HL8.out ha1);have HC82:=kp (HA2.out.below HL8.out ha2);have HC84:=kp (HA4.out.below HL8.out ha4)
       have hp8:=(HA3.out.below HL8.out ha3).cell 0
       simp only [List.getElem?_cons_zero] at hp8
       have hgN8:=HKN8.out.lt
       clear hb8 hp3)
    | ((with_reducible show Sl 18);go_must (refine j4 rfl 91 (.tmp 3) rfl g1 rfl _ (pcC q) _ HC8.out Try.underlying91 rfl (by rw [HQ17.out];exact jC) ?_))
    | ((with_reducible show Sl 19);go_must (refine j4 rfl 46 (.tmp 4) rfl g2 rfl _ (pgC p) _ HC82.out Try.underlying46 rfl jF ?_))
    | (go_at_call 80;go_must (refine (yN B p HFine.out q w8 (HP.out.below (HW8.out.mono hB)) (HQ.out.below (HW8.out.mono hB)) HG.out (by have:=HW8.out.size;omega) (k : Int) HT.out true HLv.out x HX.out).mono ?_);rintro e w9 ⟨rfl,hb9⟩
       have HM9:=kp (HM8.out.trans (hb9.mono hs58));have HL9:=kp (HL8.out.trans (hb9.mono hs48));have HKN9:=kp (HKN8.out.below hb9 hgN8);have hs49:=HL9.out.size;have hs59:=HM9.out.size;have hgN9:=HKN9.out.lt;clear hb9)
    | ((with_reducible show Sl 8);go_must (refine j7 rfl 97 rfl (ndC ⟨0,0,0,0⟩) l0 ?_);intro g8 wa hg8 hka hwa;have HKa:=kp hka;have HMa:=kp (HM9.out.trans (hwa.mono hs59));have HLa:=kp (HL9.out.trans (hwa.mono hs49));have HKNa:=kp (HKN9.out.below hwa hgN9);have hs5a:=HMa.out.size;have hs4a:=HLa.out.size;have hgNa:=HKNa.out.lt;clear hka hwa)
    | ((with_reducible show Sn);(refine j5 rfl 97 (.tmp 8) (.tmp 23) rfl g8 (ndC x) rfl rfl _ _ HKa.out jO rfl (l5 _) ?_);intro wb hkb hgb hsb
       have HKb:=kp hkb;have HMb:=kp (HMa.out.grown hgb hs5a (fun k e => by cases e;omega));have HLb:=kp (HLa.out.grown hgb hs4a (fun k e => by cases e;omega));have HKNb:=kp (HKNa.out.grown hgb (fun e => by cases e;omega));clear hkb hgb hsb))
  have HNd : Kept (ndC x = [.int .i64 x.kind,.int .i64 x.arg,.int .i64 x.next,.int .i64 x.alt]):=kp rfl
  have hs4b:=HLb.out.size;have hs5b:=HMb.out.size
  have hgNb:=HKNb.out.lt;have hg8b:=HKb.out.lt
  have HA3b:=kp (HA3.out.below HLb.out ha3);have ha3b:=HA3b.out.lt
  have HA4b:=kp (HA4.out.below HLb.out ha4)
  have HWb:=kp (HW4.out.trans (HLb.out.mono hs4))
  have HTv : Kept (∃ th,q'.tvs[k]? = some th ∧ 0 < th.sv.len ∧ th.sv.len ≤ 1000 ∧ th.slots.length = 8):=kp (by
    have hlN:=HLN.out
    rw [← HCfq.out] at hlN
    have hlt:=M.lives_lt hlN
    rw [q'.ths_len] at hlt
    have hx1 : q'.tvs[k]? = some q'.tvs[k]:=List.getElem?_eq_getElem hlt
    have h1 : (M.th q'.cf k) = tvT q'.tvs[k]:=Pc.th_of hx1
    have hown:=(HMi.out.fam.own k q'.tvs[k].sv (by rw [List.getElem?_map,hx1];rfl)).len_is.1
    have hmem : tvT q'.tvs[k] ∈ q.cf.ths:=by rw [← HCfq.out];exact List.mem_map_of_mem (List.mem_of_getElem? hx1)
    have h2:=M.high HFine.out HP.out.row.len HG.out hmem
    have h3:=HFine.out.counts.f
    have h4 : (tvT q'.tvs[k]).stack.length = q'.tvs[k].sv.len:=hown
    refine ⟨_,hx1,?_,by omega,HG.out.eight _ hmem⟩
    unfold M.livesN at hlN
    rw [h1,decide_eq_true_eq] at hlN
    omega)
  obtain ⟨th,hth,hth0,hth1,hth8⟩:=HTv.out
  have HTh:=kp hth;have HTh8:=kp hth8
  have HKl : Kept (k < q'.len ∧ q'.len ≤ 8):=kp (by rw [HQln.out];exact ⟨hkl,h8⟩)
  have HOw' : Kept (q'.ow.length = 16):=kp (by rw [HQow.out];exact HOw.out)
  clear hth hth8 hp8
  have HAct : Kept (M.act q'.cf k x way = M.act q.cf k x way):=kp (by rw [HCfq.out])
  go_wp2
  apply jH 8 (.is (.agg deedL.toArray) :: .is _ :: .is (.int .i64 (K : Int)) :: .is (.func (.func F) #[] #[]) :: .is (.agg #[.int .i64 (k : Int),.bool way]) :: .is (.agg #[.int .i64 x.kind,.int .i64 x.arg,.int .i64 x.next,.int .i64 x.alt]) :: .is (.agg #[.pointer (some ⟨gN,0,none⟩),.int .i64 (k : Int),.bool way,.int .i64 x.kind,.int .i64 x.arg,.int .i64 x.next,.int .i64 x.alt]) :: Fact.turn gN k way x wb.heap.size :: [])
    [[],[],[(1,26)],[(0,25),(2,27)],[],[],[(4,29),(5,30)],[(6,31)],[(3,28),(7,32)]]
    [(0,25),(1,26),(2,27),(3,28),(4,29),(5,30),(6,31),(7,32)] (by kernel_rfl) (by kernel_rfl) (by kernel_rfl) (by kernel_rfl) (by kernel_rfl)
  case hob =>
    refine ⟨?o0,?o1,?o2,?o3,?o4,?o5,?o6,?o7,trivial⟩
    case o0 =>
      intro W hW;change wpList _ _ _ _ _ _
      clear hW
      go_wp2_with fail
      refine (sem_deeds W).mono ?_
      rintro e w2 ⟨rfl,hb2⟩
      have HB2:=kp hb2;clear hb2
      go_wp2
      exact jG rfl rfl rfl HB2.out rfl
    case o1 => intro W hW;change wpList _ _ _ _ _ _;go_wp2;exact j0 rfl rfl rfl
    case o2 =>
      intro W hW;rintro _ rfl;change wpList _ _ _ _ _ _
      have hc:=(HKb.out.below hW hg8b).cell 0
      rw [HNd.out,List.getElem?_cons_zero,HKk.out] at hc
      go_wp2;exact j0 rfl rfl rfl
    case o3 =>
      intro W hW;rintro _ rfl;rintro _ rfl;change wpList _ _ _ _ _ _
      clear hW
      go_wp2_with ((with_reducible show Sl 28);go_must (refine qZ rfl 180 (.tmp 25) (.tmp 27) rfl 10 179 Try.underlying180 _ Try.underlying179 rfl turn_size deedL rfl K rfl HKF.out.1 (.func (.func F) #[] #[]) HKF.out.2 ?_))
      exact j0 rfl rfl rfl
    case o4 =>
      intro W hW;change wpList _ _ _ _ _ _
      have hb:=HA3b.out.below hW ha3b
      have hc0:=hb.cell 0;have hc1:=hb.cell 1
      simp only [List.getElem?_cons_zero,List.getElem?_cons_succ] at hc0 hc1
      clear hb
      go_wp2;exact j0 rfl rfl rfl
    case o5 =>
      intro W hW;change wpList _ _ _ _ _ _
      obtain ⟨hc0,hc1,hc2,hc3⟩:=jV (HKb.out.below hW hg8b)
      go_wp2;exact j0 rfl rfl rfl
    case o6 => intro W hW;rintro _ rfl;rintro _ rfl;change wpList _ _ _ _ _ _;go_wp2;exact j0 rfl rfl rfl
    case o7 =>
      intro W hW;rintro _ rfl;change wpList _ _ _ _ _ _
      have hbs:=hW.size
      clear hW
      have HB5:=kp ((Below.refl W.heap.size W).alloc (Nat.le_refl _) (.cells #[.pointer (some ⟨gN,0,none⟩),.int .i64 (k : Int),.bool way,.int .i64 x.kind,.int .i64 x.arg,.int .i64 x.next,.int .i64 x.alt] 185))
      go_wp2
      exact jG rfl rfl rfl HB5.out ⟨W.heap.size,rfl,Blk.newA W _ _ [.pointer (some ⟨gN,0,none⟩),.int .i64 (k : Int),.bool way,.int .i64 x.kind,.int .i64 x.arg,.int .i64 x.next,.int .i64 x.alt] rfl,hbs⟩
  case hend =>
    intro W hW;rintro _ rfl;rintro _ rfl;rintro _ rfl;rintro _ rfl;rintro _ rfl;rintro _ rfl;rintro _ rfl;rintro _ ⟨gU,rfl,hku,hgu⟩
    simp only [given,jJ,List.set,List.drop]
    have hul:=hku.lt
    have HStW:=kp (HMi.out.st (HMb.out.trans (hW.mono hs5b)) (HKNb.out.below hW hgNb) hgN (by omega) hul (by omega))
    have HKu:=kp hku
    have HLw:=kp (hW.mono hs4b)
    clear hW hku
    go_wp2_with fail
    rw [deed_enters HKF.out.1 HKF.out.2,Oper.upon_enter]
    refine (sem_deed w4.heap.size gN gU k q' x way th _ HStW.out HKu.out HKl.out.1 HTh.out hth0 hth1 HKl.out.2 nx HNx.out a HNa.out al HNal.out HAx.out HAl.out HTh8.out HOw'.out K F HKF.out.1 HKF.out.2 HKk.out).mono ?_
    rintro e w_ ⟨rfl,q3,hst3,hcf3,hb3⟩
    have HKNe:=kp hst3;have HCf3:=kp hcf3;have HLe:=kp (HLw.out.trans hb3)
    clear hst3 hcf3 hb3
    have HKw:=kp (HKNe.out.conf)
    have hq17 : (pcC q3).length = 17:=jW (by have h:=HGa.out.owns;rw [← HAct.out,← HCf3.out] at h;exact h)
    have HQe:=kp hq17
    have HA4e:=kp (HA4b.out.below (HLe.out) (by omega))
    have HWe0:=kp (HWb.out.trans (HLe.out.mono (by have:=HWb.out.size;omega)))
    clear hq17
    go_wp2_with (first
      | ((with_reducible show Sl 34);go_must (refine j4 rfl 91 (.tmp 7) rfl gN rfl _ (pcC q3) _ HKw.out Try.underlying91 rfl (by rw [HQe.out];exact jC) ?_))
      | ((with_reducible show Sn);(refine j5 rfl 91 (.tmp 6) (.tmp 34) rfl g4 (pcC q3) rfl rfl _ _ HA4e.out (by rw [HQe.out];exact jC) (by rw [HQe.out];rfl) (jX q3) ?_);intro we hke hge hse
         have HKe:=kp hke;have HOk:=kp (HKNe.out.mine.away2 hge ha4 HW4.out.size);have HWe:=kp (HWe0.out.grown hge HWe0.out.size (fun k e => by cases e;exact hwg4))
         clear hke hge hse)
      | ((with_reducible show bodyPost _ _ _ _ _ _);exact bodyPost_ret (jP (P:=Try.prog) (fn:=Try.f81) rfl _ _ g4 91 _ _ rfl HKe.out Try.underlying91 rfl (by rw [HQe.out];exact jC)) rfl ⟨q3,rfl,HOk.out,by rw [HCf3.out,HAct.out,HStep.out],HWe.out⟩))
theorem LU (B : Nat) (p : Pg) (hf : Fine p) (q : Pc) (w : World) (hp : p.Ok w B) (hq : q.Ok w B) (hg : M.Good p q.cf) (hB : B ≤ w.heap.size) (t : Int) (ht : I64 t) (way : Bool) :
    Calls Try.prog 81 #[pcA q,pgA p,.agg #[.int .i64 t,.bool way]] w fun e w' => ∃ q',e = .returned (pcA q') ∧ Mine w' w.heap.size q' ∧ q'.cf = M.step p q.cf t way ∧ Below w.heap.size w w':=by
  cases hen : M.enabled p q.cf t with
  | false => exact YN B p hf q w hp hq hg hB t ht way hen
  | true =>
    have h0:=(M.enabled_split hen).1
    obtain ⟨k,rfl⟩ : ∃ k : Nat,t = (k : Int):=⟨t.toNat,by omega⟩
    have henN : M.enabledN p q.cf k = true:=by have h:=(M.enabled_split hen).2;rwa [Int.toNat_natCast] at h
    have hlN:=M.enabled_lives henN
    obtain ⟨fn,hfn,_,_⟩:=M.node_is hg hlN
    have hfit:=(M.node_fit hf hg hlN hfn).kind
    obtain ⟨K,hK⟩ : ∃ K : Nat,(M.node p q.cf k).kind = (K : Int):=⟨(M.node p q.cf k).kind.toNat,by omega⟩
    obtain ⟨F,hF⟩ : ∃ F,deedL[K]? = some (fn9 F):=by
      obtain rfl | rfl | rfl | rfl | rfl | rfl | rfl | rfl | rfl | rfl : K = 0 ∨ K = 1 ∨ K = 2 ∨ K = 3 ∨ K = 4 ∨ K = 5 ∨ K = 6 ∨ K = 7 ∨ K = 8 ∨ K = 9:=by omega
      all_goals exact ⟨_,rfl⟩
    exact sem_step_k B p hf q w hp hq hg hB k ht way hen K F (by omega) hF hK
def runTo (p : Pg) (l : List (Int × Bool)) (i : Nat) : M.Cf:=(l.take i).foldl (fun c x => M.step p c x.1 x.2) M.start
theorem vX (p : Pg) (l : List (Int × Bool)) : runTo p l 0 = M.start:=rfl
theorem vY (p : Pg) (l : List (Int × Bool)) (i : Nat) (x : Int × Bool) (hx : l[i]? = some x) : runTo p l (i + 1) = M.step p (runTo p l i) x.1 x.2:=by
  unfold runTo
  rw [List.take_add_one,hx,List.foldl_append];rfl
theorem qA {p : Pg} (hf : Fine p) (hl : p.fns.length = p.len) (l : List (Int × Bool)) : ∀ i,M.Good p (runTo p l i)
  | 0 => M.good_start hf
  | i + 1 => by
    cases hx : l[i]? with
    | some x => rw [vY p l i x hx];exact M.good_step hf hl (qA hf hl l i) _ _
    | none =>
      have h:=qA hf hl l i
      unfold runTo at h ⊢
      rw [List.take_add_one,hx,Option.toList,List.append_nil];exact h
theorem xR {p : Pg} {w : World} {B B' : Nat} (h : p.Ok w B) (hB : B ≤ B') : p.Ok w B':=⟨h.g,h.l,h.s,h.row.more hB,fun f hf => ⟨⟨(h.fns f hf).nodes.1.more hB,(h.fns f hf).nodes.2⟩,(h.fns f hf).lc,(h.fns f hf).cm,(h.fns f hf).nil⟩,h.lc,h.cm,h.nil⟩
def tvC (x : Tv) : List Value:=.slice x.sv.A x.sv.len x.sv.cap :: x.slots.map natV
theorem LG {x : Tv} (h : x.slots.length = 8) : (tvC x).length = 9:=by simp [tvC,h]
theorem qK {P : Program} {ops : Array Oper} {rest : List Oper} {o : Oper} {a : Act} {w : World} {Q : Exit → Act → World → Prop} (hgd : o.guard = none) (ty : TypeId) (x : Operand) (ho : o.op = .load ty x)
    (ad : Addr) (hx : a.eval x = .pointer (some ad)) (cs : List Value) (d : TypeDesc) (hc : ∀ j v,cs[j]? = some v → w.cell? (ad.add j) = some v)
    (hu : P.underlying ty = some d) (hd : d.isRow = true) (hi : (P.info? ty).map (·.size) = some cs.length)
    (h : wpList P ops Q rest (a.put o.dst (.agg cs.toArray)) w) : wpList P ops Q (o :: rest) a w:=by
  refine wpList_plain hgd fun K hK => ?_
  have hl : (loadCells ad cs.length).run P w = .ok cs.toArray w:=run_loadCells_list (P:=P) w ad cs hc
  have hrun : (loadVar ty ad).run P w = .ok (.agg cs.toArray) w:=by
    cases hq : P.info? ty with
    | none => simp [hq] at hi
    | some i =>
      have hs : i.size = cs.length:=by simpa [hq] using hi
      have hagg : (isAgg ty).run P w = .ok true w:=by
        unfold isAgg
        rw [Sem.run_bind,run_underlying hu w]
        cases d <;> simp_all
      simp [loadVar,Sem.run_bind,hagg,sizeOf,typeInfo,hq,hs,hl]
  unfold Oper.wp execOp
  simp only [ho,hx,Instr.loadAt,Instr.sureAddr,Sem.run_bind,Sem.run_pure,Result.andThen_ok,hrun]
  exact hK _ _ h
theorem tvC_at {x : Tv} (h8 : x.slots.length = 8) {j : Nat} {v : Value} (h : (tvC x)[j]? = some v) : j < 9 ∧ tvV x j = v:=by
  have hj : j < 9:=by have:=(List.getElem?_eq_some_iff.1 h).1;rw [LG h8] at this;exact this
  refine ⟨hj,?_⟩
  cases j with
  | zero =>
    simp only [tvC,List.getElem?_cons_zero,Option.some.injEq] at h
    exact h
  | succ j =>
    have hk : j < x.slots.length:=by omega
    rw [tvC,List.getElem?_cons_succ,List.getElem?_map,List.getElem?_eq_getElem hk] at h
    show Value.int .i64 ((x.slots.getD j 0 : Nat) : Int) = v
    rw [List.getD_eq_getElem?_getD,List.getElem?_eq_getElem hk]
    exact Option.some.inj h
theorem tvC_ones (x : Tv) : ∀ u ∈ tvC x,u.oneCell' = true:=by
  intro u hu
  rcases List.mem_cons.1 hu with rfl | hu
  · rfl
  · obtain ⟨y,_,rfl⟩:=List.mem_map.1 hu
    rfl
def Fact.stepped (K : Nat) (c : M.Cf) : Fact :=
  ⟨fun v W => ∃ q',v = pcA q' ∧ Mine W K q' ∧ q'.cf = c,fun _ _ _ hb ⟨q',h1,h2,h3⟩ => ⟨q',h1,h2.below hb (Nat.le_refl _),h3⟩⟩
theorem OwnR.typed {α : Type} {sz : Nat} {f : α → Nat → Value} {w : World} {B b : Nat} {e t : TypeId} {v : Value} {l : List α} {cs : List Value} (h : OwnR sz f w B e v l) (hb : Blk w b t cs) (hne : e ≠ t) : v.ownBlock ≠ some b:=by
  intro hv
  rcases h.2 with ⟨rfl,_⟩ | ⟨g,cap,cur,rfl,_,hg,_⟩
  · cases hv
  · injection hv with hv
    have hv : g = b:=hv
    subst hv
    unfold Blk at hb
    rw [hg] at hb
    injection hb with hb
    injection hb with _ h2
    exact hne h2
theorem Mine.typed {w w' : World} {B g : Nat} {q : Pc} {cs : List Value} (h : Mine w B q) (hb : Blk w g 91 cs) (hg : w.grownBy w' (some g)) : Mine w' B q :=
  h.far hg (fun b hv e => h.row.typed hb (by decide) (by rw [hv,e])) (fun k y b hy hv e => (h.fam.own k y hy).typed hb (by decide) (by rw [hv,e]))
theorem Picks.pick {w : World} {B : Nat} {A : Option Addr} {n : Nat} {l : List (Int × Bool)} (h : Picks w B A n l) {i : Nat} (hi : i < n) :
    ∃ ad x,A = some ad ∧ ad.block < B ∧ l[i]? = some x ∧ I64 x.1 ∧ w.cell? (ad.add (i * 2)) = some (.int .i64 x.1) ∧ w.cell? ⟨(ad.add (i * 2)).block,(ad.add (i * 2)).off + 1,none⟩ = some (.bool x.2):=by
  obtain ⟨ad,x,hA,hb,hx,hc0,hc1⟩:=h.1.field hi
  exact ⟨ad,x,hA,hb,hx,h.2 x (List.mem_of_getElem? hx),hc0 (by omega),hc1 1 (by omega) (by omega)⟩
structure Src (W : World) (B gP gL : Nat) (pg : Pg) (A : Option Addr) (n c : Nat) (z : List (Int × Bool)) : Prop where
  pb : Blk W gP 46 (pgC pg)
  lb : Blk W gL 22 [.slice A n c]
  ok : pg.Ok W B
  pk : Picks W B A n z
  lt : gP < B ∧ gL < B
theorem Src.below {W W' : World} {B gP gL : Nat} {pg : Pg} {A : Option Addr} {n c : Nat} {z : List (Int × Bool)} (h : Src W B gP gL pg A n c z) (hb : Below B W W') : Src W' B gP gL pg A n c z :=
  ⟨h.pb.below hb h.lt.1,h.lb.below hb h.lt.2,h.ok.below hb,h.pk.below hb,h.lt⟩
theorem OwnR.heldB11 {α : Type} {sz : Nat} {f : α → Nat → Value} {S : Nat → Prop} {w w' : World} {B : Nat} {e : TypeId} {v : Value} {l : List α} (h : OwnR sz f w B e v l) (hb : Held S w w') (hS : ∀ k,v.ownBlock = some k → S k) : OwnR sz f w' B e v l:=by
  refine ⟨h.1,?_⟩
  rcases h.2 with h1 | ⟨g,cap,cur,hv,hB,hg,rest⟩
  · exact .inl h1
  · exact .inr ⟨g,cap,cur,hv,hB,by rw [hb.block g (hS g (by rw [hv];rfl))];exact hg,rest⟩
theorem Mine.heldB11 {w w' : World} {B : Nat} {q : Pc} (h : Mine w B q) (hb : Held (fun k => B ≤ k ∧ k < w.heap.size) w w') : Mine w' B q :=
  ⟨h.row.heldB11 hb (fun k hk => h.row.block k hk),⟨fun k x hx => (h.fam.own k x hx).heldB11 hb (fun k hk => (h.fam.own _ x hx).block k hk),h.fam.out,h.fam.apart⟩⟩
theorem good_owp {p : Pg} {q : Pc} {c : M.Cf} (hg : M.Good p c) (h : q.cf = c) : q.ow.length = 16:=by subst h;exact hg.owns
theorem Z0 : (Try.prog.info? 56).map (·.zero) = some (some (.agg [Value.int .i64 0,.bool false].toArray)):=by kernel_rfl
theorem Z1 (x : Int) (b : Bool) : ∀ u ∈ [Value.int .i64 x,.bool b],u.oneCell' = true:=by
  intro u hu
  simp only [List.mem_cons,List.not_mem_nil,or_false] at hu
  rcases hu with h | h <;> subst h <;> rfl
set_option maxRecDepth 1000000 in
set_option maxHeartbeats 8000000 in
theorem sc_along2 (y : Value) (gP gL : Nat) (pg : Pg) (aL : Option Addr) (n c : Nat) (z : List (Int × Bool)) (W : World) (ca cb : Int) (hc : Q.check pg = (ca,cb,0)) (hn : n ≤ 2000) (J Jx : Nat → World → Prop)
    (hsrc : ∀ i A,J i A → Src A A.heap.size gP gL pg aL n c z) (hJb : ∀ i A A',J i A → Below A.heap.size A A' → J i A')
    (hJs : ∀ i A A' g cs,J i A → W.heap.size ≤ g → Blk A g 91 cs → A.grownBy A' (some g) → J i A')
    (hY : ∀ (i : Nat) A q,i ≤ n → J i A → W.heap.size ≤ A.heap.size → Mine A W.heap.size q → q.cf = runTo pg z i → q.ow.length = 16 → QT Try.prog y #[.int .i64 (i : Int),pcA q] A fun e A' => (e = .returned (.bool true) ∧ J (i + 1) A' ∨ e = .returned (.bool false) ∧ Jx i A') ∧ Held (fun k => W.heap.size ≤ k ∧ k < A.heap.size) A A')
    (h0 : J 0 W) : Calls Try.prog 86 #[y,.pointer (some ⟨gP,0,none⟩),.pointer (some ⟨gL,0,none⟩)] W fun e W' => (∃ v,e = .returned v) ∧ (J (n + 1) W' ∨ ∃ i,i ≤ n ∧ Jx i W'):=by
  have HF : Kept (Fine pg):=kp (xT hc)
  have HS:=kp (hsrc 0 W h0)
  have HGd : Kept (∀ i,M.Good pg (runTo pg z i)):=kp (qA HF.out HS.out.ok.row.len z)
  have HSr:=kp hsrc;have HJb:=kp hJb;have HJs:=kp hJs;have HY:=kp hY;have H0:=kp h0;have HC:=kp hc
  clear hsrc hJb hJs hY h0 hc
  have hln:=HS.out.pk.1.len
  go_enter Try.func86,Try.ntmps86
  generalize hC8 : Code.region 8 _ false = C8
  have HC8:=kp hC8
  clear hC8
  go_wp2_with (first
    | ((with_reducible show Sl 10);go_must (refine j4 rfl 46 (.tmp 1) rfl gP rfl _ (pgC pg) _ HS.out.pb Try.underlying46 rfl jF ?_))
    | (go_at_call 51;fail))
  refine (y7 W.heap.size pg W HS.out.ok (Nat.le_refl _) ca cb 0 HC.out).mono ?_
  unfold StartPost2
  rintro e w1 ⟨q0,rfl,hmi,hcf,_,h16,hb1⟩
  have HM1:=kp hmi;have HCf:=kp (hcf rfl);have H016:=kp h16;have H017:=kp (jW h16);have HB1:=kp hb1;have hs1:=hb1.size
  clear hmi hcf h16 hb1
  go_wp2_with (first
    | ((with_reducible show Sl 4);go_must (refine j7 rfl 91 rfl _ l7 ?_);intro gC w2 hgC hk2 hb2;have HKc:=kp hk2;have HGC : Kept (W.heap.size ≤ gC):=kp (by omega);have HB2:=kp (HB1.out.trans (hb2.mono hs1));have HM2:=kp (HM1.out.below hb2 (Nat.le_refl _));have hs2:=HB2.out.size;clear hk2 hb2 hgC)
    | ((with_reducible show Sn);(refine j5 rfl 91 (.tmp 4) (.tmp 12) rfl gC (pcC q0) rfl rfl _ _ HKc.out (by rw [H017.out];exact jC) (by rw [H017.out];rfl) (jX q0) ?_);intro w3 hk3 hg3 hz3
       have HK3:=kp hk3;have HB3:=kp (HB2.out.grown hg3 hs2 (fun k e => by cases e;exact HGC.out));have HM3:=kp (Mine.typed HM2.out HKc.out hg3);have hs3:=HB3.out.size
       have HJ3:=kp (HJb.out 0 W w3 H0.out HB3.out);have HL3:=(HS.out.below HB3.out).lb.cell 0
       clear hk3 hg3 hz3))
  clear HL3
  have HL3:=kp ((HS.out.below HB3.out).lb.cell 0)
  go_loopw [16] (fun v16 wr => ∃ (i : Nat) (q : Pc),i ≤ n ∧ v16 = .int .i64 i ∧ J i wr ∧ W.heap.size ≤ wr.heap.size ∧ Mine wr W.heap.size q ∧ q.cf = runTo pg z i ∧ q.ow.length = 16 ∧ Blk wr gC 91 (pcC q)) (fun v16 _ => n - (intOf v16).toNat)
  case atStart => exact ⟨0,q0,by omega,rfl,HJ3.out,hs3,HM3.out,by rw [vX];exact HCf.out,H016.out,HK3.out⟩
  case round =>
    generalize hC5 : Code.region 5 _ false = C5
    have HC5:=kp hC5
    clear hC5
    obtain ⟨i,q,hi,rfl,hj,hsz,hmq,hcq,h16q,hkc⟩:=hrel
    have HJ:=kp hj;have HMq:=kp hmq;have HCq:=kp hcq;have H16:=kp h16q;have H17:=kp (jW h16q);have HKC:=kp hkc;have HSr2:=kp (HSr.out i wr hj)
    have hlC:=hkc.lt
    clear hj hmq hcq h16q hkc
    by_cases hlt : i < n
    · obtain ⟨ad,x,rfl,hadB,hx,hx1,hcx0,hcx1⟩:=HSr2.out.pk.pick hlt
      have HX:=kp hx;have HX1:=kp hx1
      clear hx hx1
      have HQ : Kept (∀ Qf,¬ LetsOut Qf → ¬ LetsOut Qf):=kp (fun _ h => h)
      go_wp2_with (first
        | ((with_reducible show Sl 7);go_must (refine j7 rfl 56 rfl _ Z0 ?_);intro g7 w4 hg7 hk4 hb4;have HK4:=kp hk4;have HG7:=kp hg7;have HB4:=kp hb4;have hs4:=hb4.size;clear hk4 hb4 hg7)
        | ((with_reducible show Sn);(refine j5 rfl 56 (.tmp 7) (.tmp 20) rfl g7 [.int .i64 x.1,.bool x.2] rfl rfl _ _ HK4.out JF rfl (Z1 x.1 x.2) ?_);intro w5 hk5 hg5 hz5
           have HK5:=kp hk5;have HB5:=kp (HB4.out.grown hg5 hs4 (fun k e => by cases e;exact HG7.out));have hs5:=HB5.out.size
           have HS5:=kp (HSr2.out.below HB5.out);have HKC5:=kp (HKC.out.below HB5.out hlC);have HM5:=kp (HMq.out.below HB5.out (Nat.le_refl _))
           clear hk5 hg5 hz5)
        | ((with_reducible show Sl 21);go_must (refine j4 rfl 91 (.tmp 4) rfl gC rfl _ (pcC q) _ HKC5.out Try.underlying91 rfl (by rw [H17.out];exact jC) ?_))
        | ((with_reducible show Sl 22);go_must (refine j4 rfl 46 (.tmp 1) rfl gP rfl _ (pgC pg) _ HS5.out.pb Try.underlying46 rfl jF ?_))
        | ((with_reducible show Sl 23);go_must (refine j4 rfl 56 (.tmp 7) rfl g7 rfl _ [.int .i64 x.1,.bool x.2] _ HK5.out Try.underlying56 rfl JF ?_))
        | (go_at_call 81;fail))
      refine (LU w5.heap.size pg HF.out q w5 (xR HS5.out.ok (by omega)) HM5.out.ok (by rw [HCq.out];exact HGd.out i) (Nat.le_refl _) x.1 HX1.out x.2).mono ?_
      rintro e w6 ⟨q',rfl,hm6,hcf6,hb6⟩
      have HM6:=kp (hm6.less (show W.heap.size ≤ w5.heap.size by omega));have HCf6 : Kept (q'.cf = runTo pg z (i + 1)):=kp (by rw [hcf6,HCq.out,vY pg z i x HX.out]);have HB6:=kp (HB5.out.trans (hb6.mono hs5));have hs6:=HB6.out.size
      have H16' : Kept (q'.ow.length = 16):=kp (good_owp (HGd.out (i + 1)) HCf6.out);have H17':=kp (jW H16'.out)
      clear hm6 hcf6 hb6 hcx0 hcx1
      go_wp2_with (first
        | ((with_reducible show Sl 8);go_must (refine j7 rfl 91 rfl _ l7 ?_);intro g8 w7 hg8 hk7 hb7;have HK7:=kp hk7;have HG8 : Kept (wr.heap.size ≤ g8):=kp (by omega);have HB7:=kp (HB6.out.trans (hb7.mono hs6));have hs7:=HB7.out.size;have HM7:=kp (HM6.out.below hb7 (Nat.le_refl _));clear hk7 hb7 hg8)
        | ((with_reducible show Sn);(refine j5 rfl 91 (.tmp 8) (.tmp 24) rfl g8 (pcC q') rfl rfl _ _ HK7.out (by rw [H17'.out];exact jC) (by rw [H17'.out];rfl) (jX q') ?_);intro w8 hk8 hg8' hz8
           have HK8:=kp hk8;have HM8:=kp (Mine.typed HM7.out HK7.out hg8');have HB8:=kp (HB7.out.grown hg8' hs7 (fun k e => by cases e;exact HG8.out));have hs8:=HB8.out.size
           have HJ8:=kp (HJb.out i wr w8 HJ.out HB8.out);have HKC8:=kp (HKC.out.below HB8.out hlC);have HMq8:=kp (HMq.out.below HB8.out (Nat.le_refl _))
           clear hk8 hg8' hz8))
      rw [← HC5.out]
      refine (wpIn_wide (n:=1)).1 (wpIn_region_lit ?_)
      refine xK (r:=none) (pre:=[_,_,_]) (rest:=[_,_]) (by rintro ⟨_,_,h⟩;obtain ⟨⟨v,hv⟩,_⟩:=h;cases hv) _ _ (by decide) ?_
      go_wp2_with (first
        | ((with_reducible show Sl 27);go_must (refine j4 rfl 91 (.tmp 4) rfl gC rfl _ (pcC q) _ HKC8.out Try.underlying91 rfl (by rw [H17.out];exact jC) ?_)))
      refine J2 (.tmp 25) [.tmp 26,.tmp 27] #[3,91] rfl rfl (y:=y) (vs:=[.int .i64 (i : Int),pcA q]) rfl rfl (HY.out i w8 q hi HJ8.out (by omega) HMq8.out HCq.out H16.out) ?_
      rintro e w9 ⟨h,hheld⟩
      have HHd:=kp hheld;have hs9:=hheld.size
      clear hheld
      rcases h with ⟨rfl,hj9⟩ | ⟨rfl,hx9⟩
      · have HJ9:=kp hj9;have HK9:=kp (HK8.out.held HHd.out ⟨by have:=HG8.out;omega,HK8.out.lt⟩);have HKC9:=kp (HKC8.out.held HHd.out ⟨HGC.out,HKC8.out.lt⟩);have HM9:=kp (HM8.out.heldB11 HHd.out)
        clear hj9
        refine ⟨_,rfl,?_⟩
        refine xK (r:=none) (pre:=[_]) (rest:=[]) (by rintro ⟨_,_,h⟩;obtain ⟨⟨v,hv⟩,_⟩:=h;cases hv) _ _ (by decide) ?_
        go_wp2
        show Exit.then _ _ Exit.normal _ _
        go_wp2_with (first
          | ((with_reducible show Sl 30);go_must (refine j4 rfl 91 (.tmp 8) rfl g8 rfl _ (pcC q') _ HK9.out Try.underlying91 rfl (by rw [H17'.out];exact jC) ?_))
          | ((with_reducible show Sn);(refine j5 rfl 91 (.tmp 4) (.tmp 30) rfl gC (pcC q') rfl rfl _ _ HKC9.out (by rw [H17'.out];exact jC) (by rw [H17'.out,H17.out]) (jX q') ?_);intro w10 hk10 hg10 hz10
             have HK10:=kp hk10;have HM10:=kp (Mine.typed HM9.out HKC9.out hg10);have HJ10:=kp (HJs.out (i + 1) w9 w10 gC _ HJ9.out HGC.out HKC9.out hg10)
             have HZ10 : Kept (W.heap.size ≤ w10.heap.size):=kp (by omega)
             clear hk10 hg10 hz10))
        go_roundw
        case rel => exact ⟨i + 1,q',by omega,by go_num,HJ10.out,HZ10.out,HM10.out,HCf6.out,H16'.out,HK10.out⟩
        case measure => simp [intOf];omega
      · have HX9:=kp hx9
        clear hx9
        refine ⟨_,rfl,?_⟩
        refine xK (r:=none) (pre:=[_]) (rest:=[]) (by rintro ⟨_,_,h⟩;obtain ⟨⟨v,hv⟩,_⟩:=h;cases hv) _ _ (by decide) ?_
        go_wp2
        show Exit.then _ _ Exit.normal _ _
        go_wp2
        refine bodyPost_ret (results_none rfl _ _ _) rfl ?_
        exact ⟨⟨_,rfl⟩,.inr ⟨i,hi,HX9.out⟩⟩
    · have hge : n ≤ i:=by omega
      have hin : i = n:=by omega
      clear hlt
      go_wp2
      rw [← HC8.out]
      refine (wpIn_wide (n:=1)).1 (wpIn_region_lit ?_)
      refine xK (r:=none) (pre:=[_,_,_,_]) (rest:=[_]) (by rintro ⟨_,_,h⟩;obtain ⟨⟨v,hv⟩,_⟩:=h;cases hv) _ _ (by decide) ?_
      have hl3:=HSr2.out.lb.cell 0
      go_wp2_with (first
        | ((with_reducible show Sl 35);go_must (refine j4 rfl 91 (.tmp 4) rfl gC rfl _ (pcC q) _ HKC.out Try.underlying91 rfl (by rw [H17.out];exact jC) ?_)))
      clear hl3
      refine J2 (.tmp 32) [.tmp 34,.tmp 35] #[3,91] rfl rfl (y:=y) (vs:=[.int .i64 (n : Int),pcA q]) rfl rfl (HY.out n wr q (by omega) (by rw [← hin];exact HJ.out) hsz HMq.out (by rw [← hin];exact HCq.out) H16.out) ?_
      rintro e w9 ⟨h,hheld⟩
      have HEnd : Kept (J (n + 1) w9 ∨ ∃ i,i ≤ n ∧ Jx i w9):=kp (by
        rcases h with ⟨_,h⟩ | ⟨_,h⟩
        · exact .inl h
        · exact .inr ⟨n,by omega,h⟩)
      have hret : ∃ v,e = Ending.returned v:=by
        rcases h with ⟨rfl,_⟩ | ⟨rfl,_⟩
        · exact ⟨_,rfl⟩
        · exact ⟨_,rfl⟩
      obtain ⟨v,rfl⟩:=hret
      clear h hheld
      refine ⟨_,rfl,?_⟩
      refine wpListIn_nil ?_
      exact ⟨rfl,_,results_none rfl _ _ _,⟨_,rfl⟩,HEnd.out⟩
end Go.Proofs.Ytcbfghcdbmlneaa
