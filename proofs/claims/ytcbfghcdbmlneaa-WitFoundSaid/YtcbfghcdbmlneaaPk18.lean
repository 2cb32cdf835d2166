/- SemPa, RowsApp, SemPc, SemPd, SemPe, SemStart, SemStart2. -/
import Derived.Test.YtcbfghcdbmlneaaPk17
import Derived.Test.YtcbfghcdbmlneaaPk14
import Derived.Test.YtcbfghcdbmlneaaPk4
import Derived.Great.BuildSlice
import Derived.Test.YtcbfghcdbmlneaaPk8
import Derived.Lib.SliceRun
import Derived.Test.YtcbfghcdbmlneaaPk16
namespace Go.Proofs.Ytcbfghcdbmlneaa
open Go.RowKit
theorem frame_one : (Try.prog.info? 175).map (fun i => (i.zero.map (·.cells.size),i.size)) = some (some 2,2):=by kernel_rfl
theorem YL (A : Option Addr) (n c : Nat) : ∀ u ∈ Value.slice A n c :: zeros 8,u.oneCell' = true:=by
  intro u hu
  rcases List.mem_cons.1 hu with rfl | hu
  · rfl
  · rw [List.eq_of_mem_replicate hu];rfl
set_option maxRecDepth 100000 in
set_option maxHeartbeats 1600000 in
theorem JB (f : Nat) (w : World) :
    Calls Try.prog 76 #[.int .i64 (f : Int)] w fun e w' => ∃ g,e = .returned (.agg (Value.slice (some ⟨g,0,none⟩) 1 1 :: zeros 8).toArray) ∧ OwnR 2 frV w' w.heap.size 175 (.slice (some ⟨g,0,none⟩) 1 1) [(f,0)] ∧ w.heap.size ≤ g ∧ Below w.heap.size w w':=by
  go_enter Try.func76,Try.ntmps76
  go_wp2_with (first
    | ((with_reducible show Sl 2);go_must (refine j7 rfl 155 rfl _ JR ?_);intro g1 w1 hg1 hk1 hw1;have HK1:=kp hk1;have HW1:=kp hw1;have hs1:=hw1.size;have hl1:=hk1.lt;clear hk1 hw1)
    | ((with_reducible show Sl 5);go_must (refine jI rfl 153 175 (.tmp 4) rfl 2 Try.underlying153 frame_one (by omega) (by omega) _ [.int .i64 (f : Int),.int .i64 0] rfl rfl rfl ?_);intro g2 w2 hg2 hk2 hw2
       have HK2:=kp hk2;have HK12:=kp (HK1.out.below hw2 hl1);have HW2:=kp (HW1.out.trans (hw2.mono hs1));have hs2:=HW2.out.size;have hl2:=hk2.lt;clear hk2 hw2)
    | ((with_reducible show Sl 6);go_must (refine xY rfl 155 0 (.tmp 5) rfl (.slice (some ⟨g2,0,none⟩) 1 1) rfl (Value.slice (some ⟨g2,0,none⟩) 1 1 :: zeros 8) (YC (some ⟨g2,0,none⟩) 1 1) ?_))
    | ((with_reducible show Sn);go_must (refine j5 rfl 155 (.tmp 2) (.tmp 6) rfl g1 (Value.slice (some ⟨g2,0,none⟩) 1 1 :: zeros 8) rfl rfl _ _ HK12.out yH rfl (YL _ _ _) ?_);intro w3 hk3 hg3 hs3
       have HK3:=kp hk3;have HK23:=kp (HK2.out.grown hg3 (fun e => by cases e;omega));have HW3:=kp (HW2.out.grown hg3 hs2 (fun k e => by cases e;omega));clear hk3 hg3)
    | ((with_reducible show bodyPost _ _ _ _ _ _);exact bodyPost_ret (jP (P:=Try.prog) (fn:=Try.f76) rfl _ _ g1 155 _ _ rfl HK3.out Try.underlying155 rfl yH) rfl ⟨g2,rfl,OwnR.of_blk HK23.out (by omega) rfl (Nat.le_refl _) (by unfold maxLen;omega) rfl rfl,by omega,HW3.out⟩))
theorem zF : (Try.prog.info? 153).map (·.size) = some 1:=by kernel_rfl
set_option maxRecDepth 100000 in
set_option maxHeartbeats 1600000 in
theorem sem_call (B gN gU k : Nat) (q : Pc) (x : Nd) (way : Bool) (th : Tv) (w : World) (hst : St w B gN gU q) (hu : Blk w gU 185 (turnC gN k way x)) (hkl : k < q.len) (hth : q.tvs[k]? = some th) (hs0 : 0 < th.sv.len) (hlen16 : th.sv.len ≤ 1000) (h8 : q.len ≤ 8) (nx : Nat) (hnx : x.next = (nx : Int)) (a : Nat) (ha : x.arg = (a : Int)) (hk7 : x.kind = 7) :
    Calls Try.prog 110 #[.pointer (some ⟨gU,0,none⟩)] w fun e w' => e = .returned (.tuple #[]) ∧ ∃ q',St w' B gN gU q' ∧ q'.cf = M.act q.cf k x way ∧ Below B w w':=by
  go_enter Try.func110,Try.ntmps110
  go_wp2_with fail
  refine (yT B gN gU k q x way th w hst hu hkl hth hs0 hlen16 h8 nx hnx).mono ?_
  rintro e w1 ⟨rfl,hst1,hu1,hb1⟩
  have hw1s:=hb1.size
  have hth1 : (q.put k (tvGo th nx)).tvs[k]? = some (tvGo th nx):=by
    show (q.tvs.set k (tvGo th nx))[k]? = _
    rw [List.getElem?_set,if_pos rfl,if_pos (List.getElem?_eq_some_iff.1 hth).1]
  have hcf1 : M.th q.cf k = tvT th:=Pc.th_of hth
  have HCf:=kp (Pc.put_cf q k (tvGo th nx))
  have HCf0:=kp hcf1
  have hs01 : 0 < (tvGo th nx).sv.len:=hs0
  have hlen161 : (tvGo th nx).sv.len ≤ 1000:=hlen16
  have hkl1 : k < (q.put k (tvGo th nx)).len:=hkl
  have h81 : (q.put k (tvGo th nx)).len ≤ 8:=h8
  have how1 : (q.put k (tvGo th nx)).ow = q.ow:=rfl
  have HQlen : Kept ((q.put k (tvGo th nx)).len = q.len):=kp rfl
  have HTvs : Kept ((q.put k (tvGo th nx)).tvs = q.tvs.set k (tvGo th nx)):=kp rfl
  have HTh1 : Kept (tvT (tvGo th nx) = ⟨M.goOn th.sv.stack nx,th.slots⟩):=kp rfl
  obtain ⟨q1,hq1⟩ : ∃ q1,q.put k (tvGo th nx) = q1:=⟨_,rfl⟩
  obtain ⟨th1,ht1⟩ : ∃ th1,tvGo th nx = th1:=⟨_,rfl⟩
  rw [ht1] at hq1 hth1 hs01 hlen161 HCf HTh1 HTvs hst1 hkl1 h81 how1 HQlen
  rw [hq1] at hst1 hth1 hkl1 h81 how1 HCf HQlen HTvs
  clear hst hu hq1 ht1 hcf1 hs0 hlen16
  obtain ⟨gT,curT,thx,hA,hbT,hthx,hcT0,hcTj,hTN,hTU,hBT,hsl,hthc,hcTl⟩:=hst1.thread hkl1
  rw [hth1] at hthx
  cases hthx
  obtain ⟨gS,cur,hSA,hbS,hlen,hSN,hSU,hBS,hput⟩:=hst1.goes hth1 hs01
  have hbound:=hst1.ok
  have hqc:=hbound.lc;have hqm:=hbound.cm
  unfold maxLen at hqm
  have HE : Kept (pcC q1 = .slice (some ⟨gT,0,none⟩) q1.len q1.cap :: q1.ow.map natV):=kp (by unfold pcC;rw [hA])
  have hgN:=hst1.conf.lt;have hgU:=hu1.lt;have hgT:=hbT.lt;have hgS:=hbS.lt
  have HSt:=kp hst1;have HK:=kp hu1;have HT:=kp hbT;have HS:=kp hbS;have HPut:=kp hput
  have hxc:=hbound.svs th1 (List.mem_of_getElem? hth1)
  have hxc2:=hxc.lc;have hxm:=hxc.cm
  unfold maxLen at hxm
  rw [hSA] at hcT0
  have HC0:=kp hcT0
  have hlow:=hst1.low.1
  have hBw : B ≤ w1.heap.size:=by omega
  have HLow:=kp hst1.low
  obtain ⟨n,hn⟩ : ∃ n,th1.sv.len = n:=⟨_,rfl⟩
  obtain ⟨cp,hcp⟩ : ∃ cp,th1.sv.cap = cp:=⟨_,rfl⟩
  have HThl:=kp hn
  rw [hn] at HC0 hs01 hlen161 hxc2 hlen HPut
  rw [hcp] at HC0 hxc2 hxm
  have HA:=kp hA;have HTh:=kp hth1
  have HOwn : Kept (∀ W,St W B gN gU q1 → OwnR 2 frV W B 175 (.slice (some ⟨gS,0,none⟩) n cp) th1.sv.stack):=kp (fun W hW => by
    have h:=hW.fam.own k th1.sv (by rw [List.getElem?_map,hth1];rfl)
    unfold svV at h
    rw [hSA,hn,hcp] at h
    exact h)
  have HLen : Kept (th1.sv.stack.length = n):=kp (by rw [hsl,hn])
  have HBk1 : Kept ((svV th1.sv).ownBlock = some gS):=kp (by unfold svV;rw [hSA];rfl)
  have HGoal : Kept (∀ A' c',(q1.put k ⟨⟨A',n + 1,c',th1.sv.stack ++ [(a,0)]⟩,th1.slots⟩).cf = M.act q.cf k x way):=kp (fun A' c' => by
    unfold M.act
    rw [Pc.put_cf,HCf.out,how1,HCf0.out,if_neg (show ¬ x.kind = 9 by omega),if_neg (show ¬ x.kind = 3 by omega),if_neg (show ¬ x.kind = 4 by omega),if_neg (show ¬ x.kind = 5 by omega),if_pos hk7,hnx,ha,Int.toNat_natCast,Int.toNat_natCast,List.set_set]
    have h1 : th1.sv.stack = M.goOn th.sv.stack nx:=congrArg M.Th.stack HTh1.out
    have h2 : th1.slots = th.slots:=congrArg M.Th.slots HTh1.out
    have e : tvT ⟨⟨A',n + 1,c',th1.sv.stack ++ [(a,0)]⟩,th1.slots⟩ = ⟨M.goOn th.sv.stack nx ++ [(a,0)],th.slots⟩:=by
      show (⟨th1.sv.stack ++ [(a,0)],th1.slots⟩ : M.Th) = _
      rw [h1,h2]
    rw [e];rfl)
  have hTlen : k * 9 < curT.length:=by omega
  have hTS : gT ≠ gS:=by
    have h:=hst1.fam.out k th1.sv gS (by rw [List.getElem?_map,hth1];rfl) HBk1.out
    intro e
    exact h (.inr (.inr (by rw [hA,← e];rfl)))
  have HB1:=kp hb1
  have hCu:=hu1
  have hCn:=hst1.conf.cell 0
  rw [HE.out,List.getElem?_cons_zero] at hCn
  have HC:=kp (y6 gU gN gT k q1.len q1.cap way x w1 hCu hCn hkl1)
  clear hst1 hu1 hth1 hput hbT hbS hcT0 hcTj hthc hcTl hsl hbound hxc hn hcp hSA hA hCu hCn hb1
  go_wp2_with fail
  refine HC.out.mono ?_
  rintro e w9 ⟨rfl,m,rfl⟩
  obtain ⟨w2,hw2⟩ : ∃ y,w1.drewN m = y:=⟨_,rfl⟩
  have HT2 : Kept (Blk w2 gT 155 curT):=kp (by rw [← hw2];exact HT.out.drewN m)
  have HK2 : Kept (Blk w2 gU 185 (turnC gN k way x)):=kp (by rw [← hw2];exact HK.out.drewN m)
  have HSt2 : Kept (St w2 B gN gU q1):=kp (by rw [← hw2];exact HSt.out.drewN m)
  have HB2 : Kept (Below B w w2):=kp (by rw [← hw2];exact below_drewN HB1.out m)
  have hBw2 : B ≤ w2.heap.size:=by rw [← hw2];exact hBw
  have hgT2:=HT2.out.lt;have hgU2:=HK2.out.lt
  have hgS2 : gS < w2.heap.size:=by rw [← hw2];exact hgS
  rw [hw2]
  clear hw2
  go_wp2
  by_cases hroom : n + 1 ≤ cp
  · have hx1:=hroom
    apply q7 (fun k => k = gS ∨ k = gT) [12,15] [1,2,3,4,5,6,7,8,9,10,11] (phs ([fun W => Below w2.heap.size w2 W,fun W => ∃ W0,Below w2.heap.size w2 W0 ∧ W0.grownBy W (some gS) ∧ OwnR 2 frV W B 175 (.slice (some ⟨gS,0,none⟩) (n + 1) cp) (th1.sv.stack ++ [(a,0)]),fun W => St W B gN gU (q1.put k ⟨⟨some ⟨gS,0,none⟩,n + 1,cp,th1.sv.stack ++ [(a,0)]⟩,th1.slots⟩)] : List (World → Prop))) (.is _ :: .is _ :: .is _ :: .is _ :: .is _ :: .is _ :: .is _ :: .is _ :: .is _ :: .is _ :: .is (.agg #[.int .i64 (a : Int),.int .i64 0]) :: GFact.elem _ 175 [.int .i64 (a : Int),.int .i64 0] w2.heap.size :: .is _ :: .is _ :: .is _ :: .any _ :: [])
      [[],[],[(1,8)],[(2,9)],[(3,10)],[],[(5,12)],[(6,13)],[(7,14)],[(8,15)],[(9,16)],[(10,17)],[(4,11),(11,18)],[(0,7)],[(13,20)],[(14,21),(12,19)]]
      [(0,7),(1,8),(2,9),(3,10),(4,11),(5,12),(6,13),(7,14),(8,15),(9,16),(10,17),(11,18),(12,19),(13,20),(14,21)] (by kernel_rfl) (by kernel_rfl) (by kernel_rfl) (by kernel_rfl) (by decide)
    case h0 => exact (⟨rfl,rfl,rfl,Nat.le_refl _,fun _ _ => rfl⟩ : Below w2.heap.size w2 w2.drew)
    case hob =>
      refine lI rfl rfl ?o0 (jB rfl rfl ?o1 (jB rfl rfl ?o2 (jB rfl rfl ?o3 (jB rfl rfl ?o4 (jB rfl rfl ?o5 (jB rfl rfl ?o6 (jB rfl rfl ?o7 (jB rfl rfl ?o8 (jB rfl rfl ?o9 (jB rfl rfl ?o10 (jB rfl rfl ?o11 (lQ 0 rfl rfl ?o12 (lI rfl rfl ?o13 (lI rfl rfl ?o14 (lQ 1 rfl rfl ?o15 (xJ))))))))))))))))
      case o0 => intro p W hO hJ;change wpList _ _ _ _ _ _;go_wp2;exact j8 rfl rfl rfl hJ
      case o1 => intro W hO hJ;change wpList _ _ _ _ _ _;go_wp2;exact j8 rfl rfl rfl hJ
      case o2 => intro W hO hJ;rintro _ rfl;change wpList _ _ _ _ _ _;go_wp2;exact j8 rfl rfl rfl hJ
      case o3 => intro W hO hJ;rintro _ rfl;change wpList _ _ _ _ _ _;go_wp2;exact j8 rfl rfl rfl hJ
      case o4 =>
        intro W hO hJ;rintro _ rfl;change wpList _ _ _ _ _ _
        have hb : Below w2.heap.size w2 W:=hJ
        have hc:=(HT2.out.below hb hgT2).cell (k * 9)
        rw [HC0.out] at hc
        clear hb
        go_wp2;exact j8 rfl rfl rfl hJ
      case o5 => intro W hO hJ;change wpList _ _ _ _ _ _;go_wp2;exact j8 rfl rfl rfl hJ
      case o6 => intro W hO hJ;rintro _ rfl;change wpList _ _ _ _ _ _;go_wp2;exact j8 rfl rfl rfl hJ
      case o7 => intro W hO hJ;rintro _ rfl;change wpList _ _ _ _ _ _;go_wp2;exact j8 rfl rfl rfl hJ
      case o8 => intro W hO hJ;rintro _ rfl;change wpList _ _ _ _ _ _;go_wp2;exact j8 rfl rfl rfl hJ
      case o9 =>
        intro W hO hJ;rintro _ rfl;change wpList _ _ _ _ _ _
        have hb : Below w2.heap.size w2 W:=hJ
        have hc:=(HK2.out.below hb hgU2).cell 4
        simp only [turnC,List.getElem?_cons_zero,List.getElem?_cons_succ] at hc
        rw [ha] at hc
        clear hb
        go_wp2;exact j8 rfl rfl rfl hJ
      case o10 => intro W hO hJ;rintro _ rfl;change wpList _ _ _ _ _ _;go_wp2;exact j8 rfl rfl rfl hJ
      case o11 =>
        intro W hO hJ;rintro _ rfl;change wpList _ _ _ _ _ _
        have hb : Below w2.heap.size w2 W:=hJ
        have HBw:=kp hb
        have hbs:=hb.size
        clear hJ hb hO
        have HB5:=kp ((Below.refl W.heap.size W).alloc (Nat.le_refl _) (.cells #[Value.int .i64 (a : Int),.int .i64 0] 175))
        go_wp2
        exact lP rfl rfl rfl (Only.of_below HB5.out) (HBw.out.trans (HB5.out.mono hbs)) ⟨W.heap.size,rfl,Blk.newA W _ _ [.int .i64 (a : Int),.int .i64 0] rfl,by omega,by omega⟩
      case o12 =>
        intro W hO hJ;rintro _ rfl;rintro _ ⟨gn,rfl,hbk,hng,hgk⟩;change wpList _ _ _ _ _ _
        have hb : Below w2.heap.size w2 W:=hJ
        have HBw:=kp hb;have HBk:=kp hbk
        have hOw:=HOwn.out W (HSt2.out.below hb (Nat.le_refl _))
        clear hJ hO hb hbk
        go_wp2_with (at_builtin;go_must (refine jZ rfl (.tmp 11) (.tmp 18) 153 rfl B 175 2 _ 16 Try.underlying153 uF rfl (by omega) frV yL gS cp n th1.sv.stack HLen.out (a,0) rfl hOw hroom gn 1 rfl HBk.out (by omega) ?_);intro w6 hown6 hgr6)
        exact lP rfl rfl rfl (Only.of_grown hgr6 (.inl rfl)) ⟨W,HBw.out,hgr6,hown6⟩ rfl
      case o13 => intro p W hO hJ;rintro _ rfl;change wpList _ _ _ _ _ _;go_wp2;exact j8 rfl rfl rfl hJ
      case o14 => intro p W hO hJ;rintro _ rfl;change wpList _ _ _ _ _ _;go_wp2;exact j8 rfl rfl rfl hJ
      case o15 =>
        intro W hO hJ;rintro _ rfl;rintro _ rfl;change wpList _ _ _ _ _ _
        have hJ1 : ∃ W0,Below w2.heap.size w2 W0 ∧ W0.grownBy W (some gS) ∧ OwnR 2 frV W B 175 (.slice (some ⟨gS,0,none⟩) (n + 1) cp) (th1.sv.stack ++ [(a,0)]):=hJ
        obtain ⟨W0,hb0,hg0,hown0⟩:=hJ1
        have HT0:=kp (HT2.out.below hb0 hgT2)
        have HKw:=kp (HT0.out.grown hg0 (fun e => hTS (by cases e;rfl)))
        have HSt0:=kp (HSt2.out.below hb0 (Nat.le_refl _))
        have HG0:=kp hg0;have HOw0:=kp hown0
        clear hJ hO hb0 hg0 hown0
        go_wp2_with ((with_reducible show Sn);go_must (refine j9 rfl 153 (.tmp 21) (.tmp 19) rfl gT (k * 9) (.slice (some ⟨gS,0,none⟩) (n + 1) cp) rfl rfl rfl rfl _ _ HKw.out hTlen zF ?_);intro w7 hk7 hg7 hs7;have HFin:=kp (HSt0.out.stack (sv:=⟨some ⟨gS,0,none⟩,n + 1,cp,th1.sv.stack ++ [(a,0)]⟩) HA.out HT0.out HTh.out (by rw [HBk1.out];exact HG0.out) HOw0.out (.inl (by rw [HBk1.out];rfl)) hk7 hg7 hs7);have HOn:=kp (Only.of_grown (G:=fun k => k = gS ∨ k = gT) hg7 (.inr rfl));clear hk7 hg7)
        exact l8 rfl HOn.out HFin.out
    case hend =>
      intro W hO hJ;rintro _ rfl;rintro _ rfl;rintro _ rfl;rintro _ rfl;rintro _ rfl;rintro _ rfl;rintro _ rfl;rintro _ rfl;rintro _ rfl;rintro _ rfl;rintro _ rfl;rintro _ ⟨gn,rfl,hbk,hng,hgk⟩;rintro _ rfl;rintro _ rfl;rintro _ rfl
      simp only [ggiven,jJ,List.set]
      have hJ2 : St W B gN gU (q1.put k ⟨⟨some ⟨gS,0,none⟩,n + 1,cp,th1.sv.stack ++ [(a,0)]⟩,th1.slots⟩):=hJ
      have HFin:=kp hJ2
      have HBe:=kp (HB2.out.trans (hO.below (B:=B) hBw2 (fun k hk => by rcases hk with rfl | rfl <;> omega)))
      clear hJ hJ2 hO hbk
      go_wp2
      go_end0
      exact ⟨rfl,_,HFin.out,HGoal.out _ _,HBe.out⟩
  · have HFull : Kept (cp = n):=kp (by omega)
    clear hroom
    apply jH 15 (.is _ :: .is _ :: .is _ :: .is _ :: .is _ :: .is _ :: .is _ :: .is _ :: .is _ :: .is _ :: .is (.agg #[.int .i64 (a : Int),.int .i64 0]) :: Fact.elem 175 [.int .i64 (a : Int),.int .i64 0] :: Fact.ownR 2 frV B 175 w2.heap.size (n + 1) (th1.sv.stack ++ [(a,0)]) :: .is _ :: .is _ :: [])
      [[],[],[(1,8)],[(2,9)],[(3,10)],[],[(5,12)],[(6,13)],[(7,14)],[(8,15)],[(9,16)],[(10,17)],[(4,11),(11,18)],[(0,7)],[(13,20)],[(14,21),(12,19)]]
      [(0,7),(1,8),(2,9),(3,10),(4,11),(5,12),(6,13),(7,14),(8,15),(9,16),(10,17),(11,18),(12,19),(13,20),(14,21)] (by kernel_rfl) (by kernel_rfl) (by kernel_rfl) (by kernel_rfl) (by kernel_rfl)
    case hob =>
      refine ⟨?o0,?o1,?o2,?o3,?o4,?o5,?o6,?o7,?o8,?o9,?o10,?o11,?o12,?o13,?o14,trivial⟩
      case o0 => intro W hW;change wpList _ _ _ _ _ _;go_wp2;exact j0 rfl rfl rfl
      case o1 => intro W hW;change wpList _ _ _ _ _ _;go_wp2;exact j0 rfl rfl rfl
      case o2 => intro W hW;rintro _ rfl;change wpList _ _ _ _ _ _;go_wp2;exact j0 rfl rfl rfl
      case o3 => intro W hW;rintro _ rfl;change wpList _ _ _ _ _ _;go_wp2;exact j0 rfl rfl rfl
      case o4 =>
        intro W hW;rintro _ rfl;change wpList _ _ _ _ _ _
        have hc:=(HT2.out.below hW hgT2).cell (k * 9)
        rw [HC0.out] at hc
        go_wp2;exact j0 rfl rfl rfl
      case o5 => intro W hW;change wpList _ _ _ _ _ _;go_wp2;exact j0 rfl rfl rfl
      case o6 => intro W hW;rintro _ rfl;change wpList _ _ _ _ _ _;go_wp2;exact j0 rfl rfl rfl
      case o7 => intro W hW;rintro _ rfl;change wpList _ _ _ _ _ _;go_wp2;exact j0 rfl rfl rfl
      case o8 => intro W hW;rintro _ rfl;change wpList _ _ _ _ _ _;go_wp2;exact j0 rfl rfl rfl
      case o9 =>
        intro W hW;rintro _ rfl;change wpList _ _ _ _ _ _
        have hc:=(HK2.out.below hW hgU2).cell 4
        simp only [turnC,List.getElem?_cons_zero,List.getElem?_cons_succ] at hc
        rw [ha] at hc
        go_wp2;exact j0 rfl rfl rfl
      case o10 => intro W hW;rintro _ rfl;change wpList _ _ _ _ _ _;go_wp2;exact j0 rfl rfl rfl
      case o11 =>
        intro W hW;rintro _ rfl;change wpList _ _ _ _ _ _
        clear hW
        have HB5:=kp ((Below.refl W.heap.size W).alloc (Nat.le_refl _) (.cells #[Value.int .i64 (a : Int),.int .i64 0] 175))
        go_wp2
        exact jG rfl rfl rfl HB5.out ⟨W.heap.size,rfl,Blk.newA W _ _ [.int .i64 (a : Int),.int .i64 0] rfl⟩
      case o12 =>
        intro W hW;rintro _ rfl;rintro _ ⟨gn,rfl,hbk⟩;change wpList _ _ _ _ _ _
        have HBk:=kp hbk
        have hOw:=HOwn.out W (HSt2.out.below hW (Nat.le_refl _))
        have hWs:=hW.size
        clear hW hbk
        go_wp2_with (at_builtin;go_must (refine qC rfl (.tmp 11) (.tmp 18) 153 rfl B 175 2 _ 16 Try.underlying153 uF rfl (by omega) frV yL gS cp n th1.sv.stack HLen.out (a,0) rfl hOw HFull.out gn 1 rfl HBk.out (by unfold maxLen;omega) (by omega) (by omega) ?_);intro g6 c6 w6 hown6 hb6 hg6)
        exact jG rfl rfl rfl hb6 ⟨g6,c6,rfl,hown6,by omega⟩
      case o13 => intro W hW;rintro _ rfl;change wpList _ _ _ _ _ _;go_wp2;exact j0 rfl rfl rfl
      case o14 => intro W hW;rintro _ rfl;change wpList _ _ _ _ _ _;go_wp2;exact j0 rfl rfl rfl
    case hend =>
      intro W hW;rintro _ rfl;rintro _ rfl;rintro _ rfl;rintro _ rfl;rintro _ rfl;rintro _ rfl;rintro _ rfl;rintro _ rfl;rintro _ rfl;rintro _ rfl;rintro _ rfl;rintro _ ⟨gn,rfl,hbk⟩;rintro _ ⟨g6,c6,rfl,hown6,hg6⟩;rintro _ rfl;rintro _ rfl
      simp only [given,jJ,List.set,List.drop]
      have HKw:=kp (HT2.out.below hW hgT2)
      have HStw:=kp (HSt2.out.below hW (Nat.le_refl _))
      have HBw:=kp (HB2.out.trans (hW.mono hBw2))
      have HOw6:=kp hown6
      have hWs:=hW.size
      have HGr:=kp (jT hW (svV th1.sv).ownBlock)
      have hW2:=HB2.out.size
      clear hW hbk hown6
      go_wp2_with ((with_reducible show Sn);go_must (refine j9 rfl 153 (.tmp 21) (.tmp 19) rfl gT (k * 9) (.slice (some ⟨g6,0,none⟩) (n + 1) c6) rfl rfl rfl rfl _ _ HKw.out hTlen zF ?_);intro w7 hk7 hg7 hs7;have HFin:=kp (HSt2.out.stack (sv:=⟨some ⟨g6,0,none⟩,n + 1,c6,th1.sv.stack ++ [(a,0)]⟩) HA.out HT2.out HTh.out HGr.out HOw6.out (.inr (fun b e => by cases e;exact hg6)) hk7 hg7 hs7);have HB7:=kp (HBw.out.grown hg7 (by omega) (fun k e => by cases e;exact hBT));clear hk7 hg7)
      go_end0
      exact ⟨rfl,_,HFin.out,HGoal.out _ _,HB7.out⟩
theorem OwnR.empty {α : Type} (sz : Nat) (f : α → Nat → Value) (w : World) (B : Nat) (e : TypeId) (hB : B ≤ w.heap.size) : OwnR sz f (w.alloc (.cells #[] e)) B e (.slice (some ⟨w.heap.size,0,none⟩) 0 0) [] :=
  ⟨by simp [cellsR],.inr ⟨w.heap.size,0,#[],rfl,hB,heap_alloc_new w _,Nat.le_refl _,by simp [maxLen],by simp,by simp [cellsR]⟩⟩
theorem LC {P : Program} (t ty : TypeId) (B : Nat) (e : TypeId) (sz : Nat) (z : Value) (bytes : Nat) (ht : P.underlying t = some (.slice e)) (hi : (P.info? e).map (fun i => (i.zero,i.size,i.bytes)) = some (some z,sz,bytes)) (hzs : z.cells.size = sz) (hsz : 0 < sz)
    {α : Type} (f : α → Nat → Value) (hone : ∀ x j,(f x j).oneCell' = true) (w : World) (v : Value) (l : List α) (hown : OwnR sz f w B e v l) (A : Option Addr) (m c C : Nat) (news : List α) (hr : Recs sz f w C A m news)
    (h63 : l.length + m ≤ maxLen) (hbytes : (l.length + m) * bytes ≤ 140737488355328) (hB : B ≤ w.heap.size) :
    ∃ v' w',(Builtin.append_ #[t,t] ty #[v,.slice A m c]).run P w = .ok v' w' ∧ OwnR sz f w' B e v' (l ++ news) ∧ Grew w w' v v':=by
  obtain ⟨i,hi0,hzz⟩:=Option.map_eq_some_iff.1 hi
  simp only [Prod.mk.injEq] at hzz
  obtain ⟨hz,hsize,hby⟩:=hzz
  rcases A with _ | ad
  · have h0 : m = 0:=by
      rcases Nat.eq_zero_or_pos m with h0 | h0
      · exact h0
      · obtain ⟨_,h,_⟩:=hr.cells h0;cases h
    subst h0
    have hn : news = []:=List.eq_nil_of_length_eq_zero hr.len
    subst hn
    rcases hown.2 with ⟨rfl,hl0⟩ | ⟨g,cap,cur,rfl,_,_,hnc,_⟩
    · exact ⟨_,w,by simp [Builtin.append_,run_underlying ht,sizeOf,typeInfo,hi0,Builtin.lenOf,Builtin.firstCells],by simpa using hown,Grew.refl _ _⟩
    · exact ⟨_,w,by simp [Builtin.append_,run_underlying ht,sizeOf,typeInfo,hi0,Builtin.lenOf,Builtin.firstCells,hnc,storeCells],by simpa using hown,Grew.refl _ _⟩
  · have hcl : (cellsR sz f news).length = m * sz:=by rw [qJ,hr.len]
    have hcells : ∀ j u,(cellsR sz f news)[j]? = some u → w.cell? (ad.add j) = some u:=by
      intro j u hu
      have hj : j < m * sz:=by
        have:=(List.getElem?_eq_some_iff.1 hu).1
        rw [hcl] at this;exact this
      have h0 : 0 < m:=by
        rcases Nat.eq_zero_or_pos m with h0 | h0
        · rw [h0] at hj;omega
        · exact h0
      obtain ⟨ad',e1,_,hc⟩:=hr.cells h0
      cases e1
      have hd : j / sz < m:=by
        rcases Nat.lt_or_ge (j / sz) m with h | h
        · exact h
        · have h1:=Nat.mul_le_mul_right sz h
          have h2:=Nat.div_mul_le_self j sz
          omega
      have hr2 : j % sz < sz:=Nat.mod_lt _ hsz
      have hq : j = j / sz * sz + j % sz:=by have:=Nat.div_add_mod j sz;rw [Nat.mul_comm] at this;omega
      have hx : news[j / sz]? = some (news[j / sz]'(by rw [hr.len];exact hd)):=List.getElem?_eq_getElem _
      have h1:=hc _ _ hx _ hr2
      have h2:=lZ sz f news _ _ _ hx hr2
      rw [← hq] at h1 h2
      rw [h2] at hu
      rw [h1,Option.some.inj hu]
    have hone' : ∀ u ∈ cellsR sz f news,u.oneCell' = true:=fun u hu => by
      unfold cellsR at hu
      obtain ⟨x,_,hu⟩:=List.mem_flatMap.1 hu
      obtain ⟨j,_,rfl⟩:=List.mem_map.1 hu
      exact hone x j
    obtain ⟨v',w',hrun,h2,h3,_,h5⟩:=run_append_own_at (P:=P) w B t ty e i z sz bytes ht hi0 hz hsize hby hzs hsz v l.length (cellsR sz f l) hown ad m c (cellsR sz f news) hcl hcells hone' h63 hbytes hB
    refine ⟨v',w',hrun,?_,h3,?_⟩
    · unfold OwnR;rw [List.length_append,hr.len,yC];exact h2
    · rcases h5 with h5 | h5
      · exact .inl h5
      · refine .inr fun g hg => ?_
        rw [h5] at hg;cases hg;exact Nat.le_refl _
theorem q9 {P : Program} {ops : Array Oper} {rest : List Oper} {o : Oper} {a : Act} {Q : Exit → Act → World → Prop} (hgd : o.guard = none) (s x : Operand) (t : TypeId)
    (ho : o.op = .call { callee:=.builtin .append,args:=#[s,x],argTypes:=#[t,t] })
    (B : Nat) (e : TypeId) (sz : Nat) (z : Value) (bytes : Nat) (ht : P.underlying t = some (.slice e)) (hi : (P.info? e).map (fun i => (i.zero,i.size,i.bytes)) = some (some z,sz,bytes)) (hzs : z.cells.size = sz) (hsz : 0 < sz)
    {α : Type} (f : α → Nat → Value) (hone : ∀ x j,(f x j).oneCell' = true) (w : World) (v : Value) (l : List α) (hs : a.eval s = v) (hown : OwnR sz f w B e v l) (A : Option Addr) (m c C : Nat) (news : List α) (hx : a.eval x = .slice A m c) (hr : Recs sz f w C A m news)
    (h63 : l.length + m ≤ maxLen) (hbytes : (l.length + m) * bytes ≤ 140737488355328) (hB : B ≤ w.heap.size)
    (h : ∀ v' w',OwnR sz f w' B e v' (l ++ news) → Grew w w' v v' → wpList P ops Q rest (a.put o.dst v') w') : wpList P ops Q (o :: rest) a w:=by
  refine wpList_plain hgd fun K hK => ?_
  obtain ⟨v',w',hr,h2,h3⟩:=LC (P:=P) t o.type B e sz z bytes ht hi hzs hsz f hone w v l hown A m c C news hr h63 hbytes hB
  unfold Oper.wp execOp
  simp only [ho,resolve,invoke,builtin,Sem.run_bind,Sem.run_pure,Result.andThen_ok,List.map_toArray,List.map_cons,List.map_nil,hs,hx,hr]
  exact hK _ _ (h v' w' h2 h3)
set_option maxRecDepth 100000 in
set_option maxHeartbeats 1600000 in
theorem sem_cloneF (A : Option Addr) (n c : Nat) (l : List (Nat × Nat)) (w : World) (hr : Recs 2 frV w w.heap.size A n l) (hn : n ≤ 1000) :
    Calls Try.prog 105 #[.slice A n c] w fun e w' => ∃ v,e = .returned v ∧ OwnR 2 frV w' w.heap.size 175 v l ∧ Below w.heap.size w w':=by
  have HR:=kp hr
  have hlen:=hr.len
  have HLen:=kp hlen
  clear hr hlen
  cases A with
  | none =>
    have hl : l = []:=by
      have h0 : n = 0:=by
        rcases Nat.eq_zero_or_pos n with h0 | h0
        · exact h0
        · obtain ⟨_,h,_⟩:=HR.out.cells h0;cases h
      exact List.eq_nil_of_length_eq_zero (by rw [HLen.out];exact h0)
    subst hl
    have hnil : (binOp .eql 153 (.slice none n c) (.slice none 0 0)).run Try.prog w = .ok (.bool true) w:=Lib.run_eql_slice_nil w _ _ none n c 0 0 Try.underlying153
    go_enter Try.func105,Try.ntmps105
    go_wp2
    go_ret
    exact ⟨_,rfl,OwnR.nil _ _ _ _ _,Below.refl _ _⟩
  | some ad =>
    have hnil : (binOp .eql 153 (.slice (some ad) n c) (.slice none 0 0)).run Try.prog w = .ok (.bool false) w:=Lib.run_eql_slice_nil w _ _ (some ad) n c 0 0 Try.underlying153
    go_enter Try.func105,Try.ntmps105
    have HB : Kept (Below w.heap.size w (w.alloc (.cells #[] 175))):=kp ((Below.refl _ _).alloc (Nat.le_refl _) _)
    have HE : Kept (OwnR 2 frV (w.alloc (.cells #[] 175)) w.heap.size 175 (.slice (some ⟨w.heap.size,0,none⟩) 0 0) []):=kp (OwnR.empty _ _ _ _ _ (Nat.le_refl _))
    have HS : Kept (w.heap.size ≤ (w.alloc (.cells #[] 175)).heap.size):=kp HB.out.size
    go_wp2_with (at_builtin;go_must (refine q9 rfl (.tmp 5) (.tmp 6) 153 rfl w.heap.size 175 2 _ 16 Try.underlying153 uF rfl (by omega) frV yL _ _ [] rfl HE.out (some ad) n c w.heap.size l rfl (HR.out.below HB.out) (by unfold maxLen;simp;omega) (by simp;omega) HS.out ?_);intro v' w' hown hgr;rw [List.nil_append] at hown;have HOw:=kp hown;have HBe:=kp (HB.out.grown hgr.1 HS.out (fun k e => by cases e;exact Nat.le_refl _));clear hown hgr)
    go_ret
    exact ⟨_,rfl,HOw.out,HBe.out⟩
set_option maxRecDepth 100000 in
set_option maxHeartbeats 1600000 in
theorem sem_cloneT (A : Option Addr) (n c : Nat) (l : List Tv) (w : World) (hr : Recs 9 tvV w w.heap.size A n l) (hn : n ≤ 1000) :
    Calls Try.prog 104 #[.slice A n c] w fun e w' => ∃ v,e = .returned v ∧ OwnR 9 tvV w' w.heap.size 155 v l ∧ Below w.heap.size w w':=by
  have HR:=kp hr
  have hlen:=hr.len
  have HLen:=kp hlen
  clear hr hlen
  cases A with
  | none =>
    have hl : l = []:=by
      have h0 : n = 0:=by
        rcases Nat.eq_zero_or_pos n with h0 | h0
        · exact h0
        · obtain ⟨_,h,_⟩:=HR.out.cells h0;cases h
      exact List.eq_nil_of_length_eq_zero (by rw [HLen.out];exact h0)
    subst hl
    have hnil : (binOp .eql 89 (.slice none n c) (.slice none 0 0)).run Try.prog w = .ok (.bool true) w:=Lib.run_eql_slice_nil w _ _ none n c 0 0 Try.underlying89
    go_enter Try.func104,Try.ntmps104
    go_wp2
    go_ret
    exact ⟨_,rfl,OwnR.nil _ _ _ _ _,Below.refl _ _⟩
  | some ad =>
    have hnil : (binOp .eql 89 (.slice (some ad) n c) (.slice none 0 0)).run Try.prog w = .ok (.bool false) w:=Lib.run_eql_slice_nil w _ _ (some ad) n c 0 0 Try.underlying89
    go_enter Try.func104,Try.ntmps104
    have HB : Kept (Below w.heap.size w (w.alloc (.cells #[] 155))):=kp ((Below.refl _ _).alloc (Nat.le_refl _) _)
    have HE : Kept (OwnR 9 tvV (w.alloc (.cells #[] 155)) w.heap.size 155 (.slice (some ⟨w.heap.size,0,none⟩) 0 0) []):=kp (OwnR.empty _ _ _ _ _ (Nat.le_refl _))
    have HS : Kept (w.heap.size ≤ (w.alloc (.cells #[] 155)).heap.size):=kp HB.out.size
    go_wp2_with (at_builtin;go_must (refine q9 rfl (.tmp 5) (.tmp 6) 89 rfl w.heap.size 155 9 _ 88 Try.underlying89 zK rfl (by omega) tvV XP _ _ [] rfl HE.out (some ad) n c w.heap.size l rfl (HR.out.below HB.out) (by unfold maxLen;simp;omega) (by simp;omega) HS.out ?_);intro v' w' hown hgr;rw [List.nil_append] at hown;have HOw:=kp hown;have HBe:=kp (HB.out.grown hgr.1 HS.out (fun k e => by cases e;exact Nat.le_refl _));clear hown hgr)
    go_ret
    exact ⟨_,rfl,HOw.out,HBe.out⟩
theorem QU : (Try.prog.info? 89).map (·.size) = some 1:=by kernel_rfl
def Fact.ownN {α : Type} (sz : Nat) (f : α → Nat → Value) (B : Nat) (e : TypeId) (K : Nat) (l : List α) : Fact :=
  ⟨fun v W => OwnR sz f W B e v l ∧ ∀ b,v.ownBlock = some b → K ≤ b,fun _ _ _ hb ⟨h1,h2⟩ => ⟨h1.below hb (Nat.le_refl _),h2⟩⟩
structure Mine (w : World) (B : Nat) (q : Pc) : Prop where
  row : OwnR 9 tvV w B 155 (.slice q.A q.len q.cap) q.tvs
  fam : Fam 175 w B (fun b => (Value.slice q.A q.len q.cap).ownBlock = some b) (q.tvs.map (·.sv))
theorem Mine.st {w1 w : World} {B gN gU : Nat} {q : Pc} (h : Mine w1 B q) (hw : Below w1.heap.size w1 w) (hc : Blk w gN 91 (pcC q)) (hN : w1.heap.size ≤ gN) (hU : w1.heap.size ≤ gU) (hl : gU < w.heap.size) (hB : B ≤ gN) : St w B gN gU q :=
  ⟨hc,h.row.below hw (Nat.le_refl _),(h.fam.less fun b hb => by
    rcases hb with rfl | rfl | hb
    · exact .inr hN
    · exact .inr hU
    · exact .inl hb).below hw (Nat.le_refl _),fun b hb => by
    have:=(h.row.block b hb).2
    constructor <;> omega,hB,hl⟩
theorem Mine.far {w w' : World} {B g : Nat} {q : Pc} (h : Mine w B q) (hg : w.grownBy w' (some g)) (hr : ∀ b,(Value.slice q.A q.len q.cap).ownBlock = some b → b ≠ g) (hf : ∀ (k : Nat) (y : Sv) (b : Nat),(q.tvs.map (·.sv))[k]? = some y → (svV y).ownBlock = some b → b ≠ g) : Mine w' B q :=
  ⟨h.row.far hg (by
    cases hv : (Value.slice q.A q.len q.cap).ownBlock with
    | none => exact .inl rfl
    | some b => exact .inr fun e => hr b hv (by cases e;rfl)),⟨fun k x hx => (h.fam.own k x hx).far hg (by
    cases hv : (svV x).ownBlock with
    | none => exact .inl rfl
    | some b => exact .inr fun e => hf k x b hx hv (by cases e;rfl)),h.fam.out,h.fam.apart⟩⟩
theorem cp_row {W w7 : World} {B0 gT n cap i : Nat} {tvs tvs1 : List Tv} {x : Tv} {A5 : Option Addr} {c5 : Nat} {cur : List Value} (hr : OwnR 9 tvV W B0 155 (.slice (some ⟨gT,0,none⟩) n cap) (tvs1 ++ tvs.drop i)) (hx : tvs[i]? = some x) (hl : tvs1.length = i) (_h9 : True)
    (hb : Blk W gT 155 cur) (hb7 : Blk w7 gT 155 (cur.set (i * 9) (.slice A5 x.sv.len c5))) : OwnR 9 tvV w7 B0 155 (.slice (some ⟨gT,0,none⟩) n cap) ((tvs1 ++ [⟨⟨A5,x.sv.len,c5,x.sv.stack⟩,x.slots⟩]) ++ tvs.drop (i + 1)):=by
  have hi : i < tvs.length:=(List.getElem?_eq_some_iff.1 hx).1
  have hd : tvs.drop i = x :: tvs.drop (i + 1):=by
    rw [List.drop_eq_getElem_cons hi]
    have : tvs[i] = x:=by rw [List.getElem?_eq_getElem hi] at hx;exact Option.some.inj hx
    rw [this]
  have hk : (tvs1 ++ tvs.drop i)[i]? = some x:=by
    rw [List.getElem?_append_right (by omega),hl,Nat.sub_self,hd];rfl
  have h:=hr.set (k:=i) (j:=0) (x':=⟨⟨A5,x.sv.len,c5,x.sv.stack⟩,x.slots⟩) (v:=.slice A5 x.sv.len c5) hk (by omega) (fun j hj => by
    match j,hj with
    | 0,_ => rfl
    | j + 1,_ => rfl) hb rfl hb7
  have e : (tvs1 ++ tvs.drop i).set i ⟨⟨A5,x.sv.len,c5,x.sv.stack⟩,x.slots⟩ = (tvs1 ++ [⟨⟨A5,x.sv.len,c5,x.sv.stack⟩,x.slots⟩]) ++ tvs.drop (i + 1):=by
    rw [hd,List.set_append_right _ _ (by omega),hl,Nat.sub_self,List.set_cons_zero,List.append_assoc];rfl
  rw [e] at h
  exact h
theorem cp_fam {W w7 : World} {B0 gN g2 gT K n5 c5 : Nat} {tvs1 : List Tv} {A5 : Option Addr} {l : List (Nat × Nat)} {sl : List Nat} (hf : Fam 175 W B0 (fun b => b = gN ∨ b = g2 ∨ b = gT) (tvs1.map (·.sv))) (ho : OwnR 2 frV W B0 175 (.slice A5 n5 c5) l) (hk : ∀ b,(Value.slice A5 n5 c5).ownBlock = some b → K ≤ b)
    (hS : ∀ b,(b = gN ∨ b = g2 ∨ b = gT) → b < K) (hb : ∀ (k : Nat) (y : Sv) (b : Nat),(tvs1.map (·.sv))[k]? = some y → (svV y).ownBlock = some b → B0 ≤ b ∧ b < K) (hg : W.grownBy w7 (some gT)) :
    Fam 175 w7 B0 (fun b => b = gN ∨ b = g2 ∨ b = gT) ((tvs1 ++ [(⟨⟨A5,n5,c5,l⟩,sl⟩ : Tv)]).map (·.sv)):=by
  rw [List.map_append]
  refine (hf.add (x:=⟨A5,n5,c5,l⟩) ho (fun b h1 h2 => ?_) fun k y b hy h1 h2 => ?_).turn hg fun b e => by cases e;exact .inr (.inr rfl)
  · have:=hk b h1;have:=hS b h2;omega
  · have:=hk b h1;have:=(hb k y b hy h2).2;omega
set_option maxRecDepth 100000 in
set_option maxHeartbeats 1600000 in
theorem LX (q : Pc) (w : World) (hq : q.Ok w w.heap.size) (h8 : q.len ≤ 8) (h0 : 0 < q.len) (h16 : q.ow.length = 16) (hst : ∀ x ∈ q.tvs,x.sv.len ≤ 1000) :
    Calls Try.prog 95 #[pcA q] w fun e w' => ∃ q',e = .returned (pcA q') ∧ Mine w' w.heap.size q' ∧ q'.cf = q.cf ∧ q'.len = q.len ∧ q'.ow = q.ow ∧ Below w.heap.size w w':=by
  have HQ:=kp hq
  have hlen:=hq.row.len
  have HQl:=kp hlen
  have HQ17:=kp (jW h16)
  have HSt:=kp hst
  obtain ⟨tvs,htv⟩ : ∃ tvs,q.tvs = tvs:=⟨_,rfl⟩
  obtain ⟨n,hn⟩ : ∃ n,q.len = n:=⟨_,rfl⟩
  have HTv0:=kp htv;have HN:=kp hn
  rw [htv,hn] at HQl;rw [htv] at HSt
  rw [hn] at h8 h0
  have HE0 : Kept (pcC q = .slice q.A n q.cap :: q.ow.map natV):=kp (by unfold pcC;rw [hn])
  have HRec : Kept (Recs 9 tvV w w.heap.size q.A n tvs):=kp (by rw [← htv,← hn];exact hq.row)
  have HSv : Kept (∀ x ∈ tvs,x.sv.Ok w w.heap.size):=kp (by rw [← htv];exact hq.svs)
  clear hq hlen hst htv hn
  rw [qS]
  go_enter Try.func95,Try.ntmps95
  go_wp2_with (first
    | ((with_reducible refine j6 rfl 91 (.tmp 0) rfl (pcC q) rfl ?_);intro gN w1 hgN0 hk1 hw1;have HK1:=kp hk1;have HW1:=kp hw1;have hs1:=hw1.size;have hl1:=hk1.lt;clear hk1 hw1)
    | ((with_reducible show Sl 2);go_must (refine j7 rfl 91 rfl _ l7 ?_);intro g2 w2 hg20 hk2 hw2
       have HK22:=kp hk2;have HK12:=kp (HK1.out.below hw2 hl1);have HW2:=kp (HW1.out.trans (hw2.mono hs1));have hs2:=HW2.out.size;have hl12:=HK12.out.lt;have hl2:=hk2.lt
       have hc0:=HK12.out.cell 0
       rw [HE0.out,List.getElem?_cons_zero] at hc0
       have HRec2:=kp ((HRec.out.below HW2.out).more hs2)
       clear hk2 hw2)
    | (go_at_call 104;go_must (refine (sem_cloneT q.A n q.cap tvs w2 HRec2.out (by omega)).mono ?_);rintro e w3 ⟨v3,rfl,hown3,hb3⟩
       obtain ⟨A3,c3,rfl,hl3,hm3,_⟩:=hown3.form
       rw [HQl.out] at hown3 hl3 ⊢
       obtain ⟨gT,curT0,hA3,hbT3,hcT3,_,hgT3,_,_,_⟩:=hown3.blk h0
       subst hA3
       have HOw3:=kp (hown3.less (show w.heap.size ≤ w2.heap.size by omega));have HbT3:=kp hbT3;have hTl3:=hbT3.lt
       unfold maxLen at hm3
       have HNe : Kept (gT ≠ gN ∧ g2 ≠ gN ∧ gT ≠ g2 ∧ w.heap.size ≤ gN ∧ w.heap.size ≤ g2 ∧ w.heap.size ≤ gT):=kp (by omega)
       have HK13:=kp (HK12.out.below hb3 hl12);have HK23:=kp (HK22.out.below hb3 hl2);have HW3:=kp (HW2.out.trans (hb3.mono hs2));have hs3:=HW3.out.size;have hs23:=hb3.size;clear hown3 hb3 hc0 hbT3)
    | ((with_reducible show Sn);go_must (refine j9 rfl 89 (.tmp 7) (.tmp 6) rfl gN 0 (.slice (some ⟨gT,0,none⟩) n c3) rfl rfl rfl rfl _ _ HK13.out (by rw [HQ17.out];omega) QU ?_);intro w4 hk4 hg4 hs4
       have HK4 : Kept (Blk w4 gN 91 (.slice (some ⟨gT,0,none⟩) n c3 :: q.ow.map natV)):=kp (by rw [HE0.out] at hk4;exact hk4)
       have HRow4:=kp (HOw3.out.far hg4 (.inr (fun e => by cases e;exact HNe.out.1 rfl)))
       have HK24:=kp (HK23.out.grown hg4 (fun e => by cases e;exact HNe.out.2.1 rfl))
       have HW4:=kp (HW3.out.grown hg4 HW3.out.size (fun k e => by cases e;exact HNe.out.2.2.2.1));have hs4':=HW4.out.size
       have hc0:=HK4.out.cell 0
       rw [List.getElem?_cons_zero] at hc0
       clear hk4 hg4 hs4))
  go_loopw [11] (fun v11 wr => ∃ (i : Nat) (tvs1 : List Tv),i ≤ n ∧ v11 = .int .i64 i ∧ tvs1.length = i ∧ tvs1.map tvT = (tvs.take i).map tvT ∧ OwnR 9 tvV wr w.heap.size 155 (.slice (some ⟨gT,0,none⟩) n c3) (tvs1 ++ tvs.drop i) ∧
      Fam 175 wr w.heap.size (fun b => b = gN ∨ b = g2 ∨ b = gT) (tvs1.map (·.sv)) ∧ Blk wr gN 91 (.slice (some ⟨gT,0,none⟩) n c3 :: q.ow.map natV) ∧ Blk wr g2 91 (Value.slice none 0 0 :: zeros 16) ∧ Below w.heap.size w wr) (fun v11 _ => n - (intOf v11).toNat)
  case atStart => exact ⟨0,[],by omega,rfl,rfl,rfl,by simpa using HRow4.out,Fam.nil _ _ _ _,HK4.out,HK24.out,HW4.out⟩
  case round =>
    obtain ⟨i,tvs1,hi,rfl,htl,htt,hrow,hfam,hkN,hk2,hbl⟩:=hrel
    have HTl:=kp htl;have HTt:=kp htt;have HRow:=kp hrow;have HFam:=kp hfam;have HK:=kp hkN;have HK2:=kp hk2;have HB:=kp hbl
    have hBs:=hbl.size
    have hgN:=hkN.lt;have hg2:=hk2.lt
    have hcN:=hkN.cell 0
    rw [List.getElem?_cons_zero] at hcN
    clear htl htt hrow hfam hkN hk2 hbl
    by_cases hlt : i < n
    · have hxi : tvs[i]? = some (tvs[i]'(by rw [HQl.out];exact hlt)):=List.getElem?_eq_getElem _
      obtain ⟨x,hx⟩ : ∃ x,tvs[i]'(by rw [HQl.out];exact hlt) = x:=⟨_,rfl⟩
      rw [hx] at hxi
      have hxm:=List.mem_of_getElem? hxi
      have HX:=kp (HSv.out x hxm)
      have hx1000:=HSt.out x hxm
      have HTv:=kp hxi
      obtain ⟨gT2,curT,hAT,hbT,hcTl,hcTt,hBT,hnc,hcm,_⟩:=HRow.out.blk h0
      have eT : gT = gT2:=by injection hAT with e;injection e
      subst eT
      have hk : (tvs1 ++ tvs.drop i)[i]? = some x:=by
        rw [List.getElem?_append_right (by rw [HTl.out];exact Nat.le_refl _),HTl.out,Nat.sub_self,List.getElem?_drop];exact hxi
      have hcx : curT[i * 9]? = some (.slice x.sv.A x.sv.len x.sv.cap):=by
        have h1:=lZ 9 tvV (tvs1 ++ tvs.drop i) i 0 _ hk (by omega)
        rw [← hcTt,List.getElem?_take] at h1
        split at h1
        · exact h1
        · cases h1
      have HC0:=kp hcx;have HT:=kp hbT
      have hgT:=hbT.lt
      have hTlen : i * 9 < curT.length:=by rw [hcTl];omega
      have hTN : gT ≠ gN:=HNe.out.1
      have hT2 : gT ≠ g2:=HNe.out.2.2.1
      have HX9 : Kept True:=kp trivial
      have HTw : Kept (∀ (A5 : Option Addr) (c5 : Nat),(tvs1 ++ [(⟨⟨A5,x.sv.len,c5,x.sv.stack⟩,x.slots⟩ : Tv)]).map tvT = (tvs.take (i + 1)).map tvT):=kp (fun A5 c5 => by
        rw [List.map_append,HTt.out,List.take_add_one,hxi,List.map_append];rfl)
      have hxlc:=HX.out.lc;have hxcm:=HX.out.cm
      unfold maxLen at hxcm hcm
      clear hxi hx hxm hk hcx hbT hcTt hAT hcTl
      go_wp2
      apply jH 12 (.is _ :: .is _ :: .is _ :: .is _ :: .is _ :: .is _ :: .is _ :: .is _ :: .is _ :: Fact.ownN 2 frV w.heap.size 175 wr.heap.size x.sv.stack :: .is _ :: .is _ :: [])
        [[],[(0,14)],[],[],[(3,17)],[],[(4,18),(5,19)],[(6,20)],[(7,21)],[(8,22)],[(1,15),(2,16)],[(10,24)],[(11,25),(9,23)]]
        [(0,14),(1,15),(2,16),(3,17),(4,18),(5,19),(6,20),(7,21),(8,22),(9,23),(10,24),(11,25)] (by kernel_rfl) (by kernel_rfl) (by kernel_rfl) (by kernel_rfl) (by kernel_rfl)
      case hob =>
        refine ⟨?o0,?o1,?o2,?o3,?o4,?o5,?o6,?o7,?o8,?o9,?o10,?o11,trivial⟩
        case o0 => intro W hW;change wpList _ _ _ _ _ _;go_wp2;exact j0 rfl rfl rfl
        case o1 =>
          intro W hW;rintro _ rfl;change wpList _ _ _ _ _ _
          have hc:=((HK.out.below hW hgN).cell 0)
          rw [List.getElem?_cons_zero] at hc
          go_wp2;exact j0 rfl rfl rfl
        case o2 => intro W hW;change wpList _ _ _ _ _ _;go_wp2;exact j0 rfl rfl rfl
        case o3 => intro W hW;change wpList _ _ _ _ _ _;go_wp2;exact j0 rfl rfl rfl
        case o4 =>
          intro W hW;rintro _ rfl;change wpList _ _ _ _ _ _
          have hc:=((HK.out.below hW hgN).cell 0)
          rw [List.getElem?_cons_zero] at hc
          go_wp2;exact j0 rfl rfl rfl
        case o5 => intro W hW;change wpList _ _ _ _ _ _;go_wp2;exact j0 rfl rfl rfl
        case o6 => intro W hW;rintro _ rfl;rintro _ rfl;change wpList _ _ _ _ _ _;go_wp2;exact j0 rfl rfl rfl
        case o7 => intro W hW;rintro _ rfl;change wpList _ _ _ _ _ _;go_wp2;exact j0 rfl rfl rfl
        case o8 =>
          intro W hW;rintro _ rfl;change wpList _ _ _ _ _ _
          have hc:=(HT.out.below hW hgT).cell (i * 9)
          rw [HC0.out] at hc
          go_wp2;exact j0 rfl rfl rfl
        case o9 =>
          intro W hW;rintro _ rfl;change wpList _ _ _ _ _ _
          have HRw:=kp ((HX.out.row.below (HB.out.trans (hW.mono hBs))).more (show w.heap.size ≤ W.heap.size by have:=hW.size;omega))
          have hWs:=hW.size
          clear hW
          go_wp2_with fail
          refine (sem_cloneF x.sv.A x.sv.len x.sv.cap x.sv.stack W HRw.out hx1000).mono ?_
          rintro e w2 ⟨v5,rfl,hown5,hb5⟩
          have HOw5:=kp (hown5.less (show w.heap.size ≤ W.heap.size by omega));have HB5:=kp hb5;have HBk:=kp hown5.block
          clear hown5 hb5
          go_wp2
          exact jG rfl rfl rfl HB5.out ⟨HOw5.out,fun b hb => Nat.le_trans hWs (HBk.out b hb).1⟩
        case o10 => intro W hW;rintro _ rfl;rintro _ rfl;change wpList _ _ _ _ _ _;go_wp2;exact j0 rfl rfl rfl
        case o11 => intro W hW;rintro _ rfl;change wpList _ _ _ _ _ _;go_wp2;exact j0 rfl rfl rfl
      case hend =>
        intro W hW;rintro _ rfl;rintro _ rfl;rintro _ rfl;rintro _ rfl;rintro _ rfl;rintro _ rfl;rintro _ rfl;rintro _ rfl;rintro _ rfl;rintro v5 ⟨hown5,hk5⟩;rintro _ rfl;rintro _ rfl
        simp only [given,jJ,List.set,List.drop]
        obtain ⟨A5,c5,rfl,hl5,hm5,_⟩:=hown5.form
        rw [HX.out.row.len] at hown5 hk5 hl5
        have HOw5:=kp hown5;have HK5:=kp hk5
        have HKw:=kp (HT.out.below hW hgT)
        have HNw:=kp (HK.out.below hW hgN)
        have HRw:=kp (HRow.out.below hW (Nat.le_refl _))
        have HFw:=kp (HFam.out.below hW (Nat.le_refl _))
        have HK2w:=kp (HK2.out.below hW hg2)
        have HBw:=kp (HB.out.trans (hW.mono hBs))
        have hWs:=hW.size
        have HFb:=kp (fun (k : Nat) (y : Sv) (b : Nat) (hy : (tvs1.map (·.sv))[k]? = some y) (hb : (svV y).ownBlock = some b) => HFam.out.block hy hb)
        clear hW hown5 hk5 hl5
        rw [HX.out.row.len]
        go_wp2_with (first
          | ((with_reducible show Sn);go_must (refine j9 rfl 153 (.tmp 25) (.tmp 23) rfl gT (i * 9) (.slice A5 x.sv.len c5) rfl rfl rfl rfl _ _ HKw.out hTlen zF ?_);intro w7 hk7 hg7 hs7
             have HRow7:=kp (cp_row HRw.out HTv.out HTl.out HX9.out HKw.out hk7 (A5:=A5) (c5:=c5))
             have HFam7:=kp (cp_fam (sl:=x.slots) HFw.out HOw5.out HK5.out (fun b hb => by rcases hb with rfl | rfl | rfl <;> omega) HFb.out hg7)
             have HK7:=kp (HNw.out.grown hg7 (fun e => hTN (by cases e;rfl)))
             have HK27:=kp (HK2w.out.grown hg7 (fun e => hT2 (by cases e;rfl)))
             have HB7:=kp (HBw.out.grown hg7 (by omega) (fun k e => by cases e;exact hBT))
             have hbt7:=hk7
             clear hk7 hg7 hs7))
        go_roundw
        case rel => exact ⟨i + 1,tvs1 ++ [⟨⟨A5,x.sv.len,c5,x.sv.stack⟩,x.slots⟩],by omega,by go_num,by rw [List.length_append,HTl.out];rfl,HTw.out _ _,HRow7.out,HFam7.out,HK7.out,HK27.out,HB7.out⟩
        case measure => simp [intOf];omega
    · have hie : i = n:=by omega
      have hkN:=HK.out
      have HM : Kept (Mine wr w.heap.size ⟨some ⟨gT,0,none⟩,n,c3,tvs1,q.ow⟩ ∧ (⟨some ⟨gT,0,none⟩,n,c3,tvs1,q.ow⟩ : Pc).cf = q.cf):=kp (by
        have hd : tvs.drop i = []:=List.drop_of_length_le (by rw [HQl.out,hie];exact Nat.le_refl _)
        have h1:=HRow.out
        rw [hd,List.append_nil] at h1
        refine ⟨⟨h1,HFam.out.less fun b hb => ?_⟩,?_⟩
        · cases hb;exact .inl (.inr (.inr rfl))
        · have h2:=HTt.out
          rw [List.take_of_length_le (by rw [HQl.out,hie];exact Nat.le_refl _)] at h2
          show (⟨tvs1.map tvT,q.ow⟩ : M.Cf) = ⟨q.tvs.map tvT,q.ow⟩
          rw [h2,HTv0.out])
      have HC17 : Kept ((.slice (some ⟨gT,0,none⟩) n c3 :: q.ow.map natV : List Value).length = 17):=kp (by simp [h16])
      have hge : n ≤ i:=by omega
      clear hlt hie hkN
      go_wp2_with (first
        | ((with_reducible show Sl 27);go_must (refine j4 rfl 91 (.tmp 1) rfl gN rfl _ (.slice (some ⟨gT,0,none⟩) n c3 :: q.ow.map natV) _ HK.out Try.underlying91 rfl (by rw [HC17.out];exact jC) ?_))
        | ((with_reducible show Sn);go_must (refine j5 rfl 91 (.tmp 2) (.tmp 27) rfl g2 (.slice (some ⟨gT,0,none⟩) n c3 :: q.ow.map natV) rfl rfl _ _ HK2.out (by rw [HC17.out];exact jC) (by rw [HC17.out];rfl) (jX ⟨some ⟨gT,0,none⟩,n,c3,[],q.ow⟩) ?_);intro w8 hk8 hg8 hs8
           have HK8:=kp hk8
           have HM8 : Kept (Mine w8 w.heap.size ⟨some ⟨gT,0,none⟩,n,c3,tvs1,q.ow⟩):=kp (HM.out.1.far hg8 (fun b e => by cases e;exact HNe.out.2.2.1) (fun k y b hy hb => by have:=HFam.out.out k y b hy hb;intro e;exact this (.inr (.inl e))))
           have HB8:=kp (HB.out.grown hg8 HB.out.size (fun k e => by cases e;exact HNe.out.2.2.2.2.1))
           clear hk8 hg8 hs8)
        | ((with_reducible show bodyPost _ _ _ _ _ _);exact bodyPost_ret (jP (P:=Try.prog) (fn:=Try.f95) rfl _ _ g2 91 _ _ rfl HK8.out Try.underlying91 rfl (by rw [HC17.out];exact jC)) rfl ⟨⟨some ⟨gT,0,none⟩,n,c3,tvs1,q.ow⟩,rfl,HM8.out,HM.out.2,HN.out.symm,rfl,HB8.out⟩))
def fn9 (f : Nat) : Value:=.func (.func f) #[] #[]
def deedL : List Value:=[fn9 106,fn9 106,fn9 106,fn9 107,fn9 108,fn9 109,fn9 106,fn9 110,fn9 111,fn9 112]
theorem deeds_zero : (Try.prog.info? 180).map (·.zero) = some (some (.agg (List.replicate 10 Value.nilFunc).toArray)):=by kernel_rfl
theorem QP : (Try.prog.info? 180).map (·.size) = some 10:=by kernel_rfl
theorem deeds_built : Try.prog.built 180 [(0,fn9 106),(1,fn9 106),(2,fn9 106),(3,fn9 107),(4,fn9 108),(5,fn9 109),(6,fn9 106),(7,fn9 110),(8,fn9 111),(9,fn9 112)] = some deedL.toArray:=by kernel_rfl
theorem turn_size : (Try.prog.info? 179).map (·.size) = some 1:=by kernel_rfl
theorem deed_ones : ∀ u ∈ deedL,u.oneCell' = true:=by
  intro u hu
  simp only [deedL,List.mem_cons,List.not_mem_nil,or_false] at hu
  rcases hu with rfl | rfl | rfl | rfl | rfl | rfl | rfl | rfl | rfl | rfl <;> rfl
set_option maxRecDepth 100000 in
set_option maxHeartbeats 1600000 in
theorem sem_deeds (w : World) : Calls Try.prog 96 #[] w fun e w' => e = .returned (.agg deedL.toArray) ∧ Below w.heap.size w w':=by
  go_enter Try.func96,Try.ntmps96
  go_wp2_with (first
    | ((with_reducible show Sl 0);go_must (refine j7 rfl 180 rfl _ deeds_zero ?_);intro g1 w1 hg1 hk1 hw1;have HK1:=kp hk1;have HW1:=kp hw1;have hs1:=hw1.size;clear hk1 hw1)
    | ((with_reducible show Sl 1);go_must (refine qB rfl 180 _ rfl [(0,fn9 106),(1,fn9 106),(2,fn9 106),(3,fn9 107),(4,fn9 108),(5,fn9 109),(6,fn9 106),(7,fn9 110),(8,fn9 111),(9,fn9 112)] (by simp [Act.eval,fn9]) deedL deeds_built ?_))
    | ((with_reducible show Sn);go_must (refine j5 rfl 180 (.tmp 0) (.tmp 1) rfl g1 deedL rfl rfl _ _ HK1.out QP rfl deed_ones ?_);intro w3 hk3 hg3 hs3;have HK3:=kp hk3;have HW3:=kp (HW1.out.grown hg3 hs1 (fun k e => by cases e;omega));clear hk3 hg3)
    | ((with_reducible show bodyPost _ _ _ _ _ _);exact bodyPost_ret (jP (P:=Try.prog) (fn:=Try.f96) rfl _ _ g1 180 _ _ rfl HK3.out Try.underlying180 rfl QP) rfl ⟨rfl,HW3.out⟩))
theorem Mine.away2 {w w' : World} {B B' g : Nat} {q : Pc} (h : Mine w B q) (hg : w.grownBy w' (some g)) (hB : g < B) (hB' : B' ≤ B) : Mine w' B' q :=
  ⟨(h.row.far hg (by
    cases hv : (Value.slice q.A q.len q.cap).ownBlock with
    | none => exact .inl rfl
    | some b => exact .inr fun e => by have:=(h.row.block b hv).1;cases e;omega)).less hB',⟨fun k x hx => ((h.fam.own k x hx).far hg (by
    cases hv : (svV x).ownBlock with
    | none => exact .inl rfl
    | some b => exact .inr fun e => by have:=((h.fam.own k x hx).block b hv).1;cases e;omega)).less hB',h.fam.out,h.fam.apart⟩⟩
theorem Mine.ok {w : World} {B : Nat} {q : Pc} (h : Mine w B q) : q.Ok w w.heap.size :=
  ⟨h.row.recs,h.row.len_is.2.1,h.row.len_is.2.2,fun x hx => by
    obtain ⟨k,hk⟩:=List.mem_iff_getElem?.1 hx
    have ho:=h.fam.own k x.sv (by rw [List.getElem?_map,hk];rfl)
    exact ⟨ho.recs,ho.len_is.2.1,ho.len_is.2.2⟩⟩
theorem Mine.less {w : World} {B B' : Nat} {q : Pc} (h : Mine w B q) (hB : B' ≤ B) : Mine w B' q:=⟨h.row.less hB,⟨fun k x hx => (h.fam.own k x hx).less hB,h.fam.out,h.fam.apart⟩⟩
theorem Mine.below {w w' : World} {B C : Nat} {q : Pc} (h : Mine w B q) (hb : Below C w w') (hC : w.heap.size ≤ C) : Mine w' B q:=⟨h.row.below hb hC,h.fam.below hb hC⟩
theorem St.mine {w : World} {B gN gU : Nat} {q : Pc} (h : St w B gN gU q) : Mine w B q:=⟨h.row,h.fam.less fun _ hb => .inl (.inr (.inr hb))⟩
def Fact.turn (gN k : Nat) (way : Bool) (x : Nd) (K : Nat) : Fact :=
  ⟨fun v W => ∃ g,v = .pointer (some ⟨g,0,none⟩) ∧ Blk W g 185 [.pointer (some ⟨gN,0,none⟩),.int .i64 (k : Int),.bool way,.int .i64 x.kind,.int .i64 x.arg,.int .i64 x.next,.int .i64 x.alt] ∧ K ≤ g,fun _ _ _ hb ⟨g,h1,h2,h3⟩ => ⟨g,h1,h2.below hb h2.lt,h3⟩⟩
theorem built_conf0 : Try.prog.built 91 [] = some (Value.slice none 0 0 :: zeros 16).toArray:=by kernel_rfl
theorem QQ (A : Option Addr) (n c : Nat) : ∀ u ∈ Value.slice A n c :: zeros 16,u.oneCell' = true:=by
  intro u hu
  rcases List.mem_cons.1 hu with rfl | hu
  · rfl
  · rw [List.eq_of_mem_replicate hu];rfl
def pcNone : Pc:=⟨none,0,0,[],List.replicate 16 0⟩
theorem Y1 : pcC pcNone = Value.slice none 0 0 :: zeros 16:=by unfold pcC pcNone;rw [YF]
def StartPost2 (w : World) (c : Nat) : Ending → World → Prop:=fun e w' => ∃ q,e = .returned (.tuple #[pcA q,.int .i64 (c : Int)]) ∧ Mine w' w.heap.size q ∧ (c = 0 → q.cf = M.start) ∧ (c ≠ 0 → q.len = 0) ∧ q.ow.length = 16 ∧ Below w.heap.size w w'
set_option maxRecDepth 100000 in
set_option maxHeartbeats 1600000 in
theorem y7 (B : Nat) (p : Pg) (w : World) (hp : p.Ok w B) (hB : B ≤ w.heap.size) (a b : Int) (c : Nat) (hc : Q.check p = (a,b,c)) :
    Calls Try.prog 51 #[pgA p] w (StartPost2 w c):=by
  unfold StartPost2
  have HP:=kp hp;have HC:=kp hc
  clear hp hc
  rw [jL]
  by_cases hz : c = 0
  · have HZ : Kept ((c : Int) = 0):=kp (by omega)
    have hb0 : ((c : Int) != 0) = false:=by rw [HZ.out];rfl
    have HCz:=kp hz
    clear hz
    go_enter Try.func51,Try.ntmps51
    go_wp2_with (first
      | ((with_reducible refine j6 rfl 46 (.tmp 0) rfl (pgC p) rfl ?_);intro g1 w1 hg1 hk1 hw1;have HK1:=kp hk1;have HW1:=kp hw1;have hs1:=hw1.size;have hl1:=hk1.lt;clear hk1 hw1)
      | ((with_reducible show Sl 2);go_must (refine j7 rfl 91 rfl _ l7 ?_);intro g2 w2 hg2 hk2 hw2;have HK2:=kp hk2;have HK12:=kp (HK1.out.below hw2 hl1);have HW2:=kp (HW1.out.trans (hw2.mono hs1));have hs2:=HW2.out.size;have hl2:=hk2.lt;clear hk2 hw2)
      | ((with_reducible show Sl 8);go_must (refine j4 rfl 46 (.tmp 1) rfl g1 rfl _ (pgC p) _ HK12.out Try.underlying46 rfl jF ?_))
      | (go_at_call 75;go_must (refine (zQ B p w2 (HP.out.below (HW2.out.mono hB)) (by omega) a b c HC.out).mono ?_);rintro e w3 ⟨rfl,hb3⟩;have HW3:=kp (HW2.out.trans (hb3.mono hs2));have HK23:=kp (HK2.out.below hb3 hl2);have hs3:=HW3.out.size;have hl23:=HK23.out.lt;clear hb3)
      | (go_at_call 76;go_must (refine (JB 0 w3).mono ?_);rintro e w4 ⟨g4,rfl,hown4,hg4,hb4⟩;have HOw4:=kp hown4;have HW4:=kp (HW3.out.trans (hb4.mono hs3));have HK24:=kp (HK23.out.below hb4 hl23);have hs4:=HW4.out.size;have hs34:=hb4.size;have hl24:=HK24.out.lt;have hl44:=(hown4.block g4 rfl).2;have HNe : Kept (g4 ≠ g2 ∧ w.heap.size ≤ g2 ∧ g2 < w4.heap.size ∧ w.heap.size ≤ w3.heap.size):=kp (by omega);clear hown4 hb4)
      | ((with_reducible show Sl 18);go_must (refine jI rfl 89 155 (.tmp 17) rfl 9 Try.underlying89 vV (by omega) (by omega) _ (Value.slice (some ⟨g4,0,none⟩) 1 1 :: zeros 8) rfl rfl rfl ?_);intro g5 w5 hg5 hk5 hb5;have HK5:=kp hk5;have HW5:=kp (HW4.out.trans (hb5.mono hs4));have HK25:=kp (HK24.out.below hb5 hl24);have HOw5:=kp (HOw4.out.below hb5 (Nat.le_refl _));have hs5:=HW5.out.size;have HNe5 : Kept (g5 ≠ g2 ∧ w.heap.size ≤ g5 ∧ g5 ≠ g4):=kp (by have:=HNe.out.2.2;omega);clear hk5 hb5)
      | ((with_reducible show Sl 19);go_must (refine xY rfl 91 0 (.tmp 18) rfl (.slice (some ⟨g5,0,none⟩) 1 1) rfl (Value.slice (some ⟨g5,0,none⟩) 1 1 :: zeros 16) (built_conf (some ⟨g5,0,none⟩) 1 1) ?_))
      | ((with_reducible show Sn);go_must (refine j5 rfl 91 (.tmp 2) (.tmp 19) rfl g2 (Value.slice (some ⟨g5,0,none⟩) 1 1 :: zeros 16) rfl rfl _ _ HK25.out jC rfl (QQ _ _ _) ?_);intro w6 hk6 hg6 hs6
         have HK6:=kp hk6;have HK56:=kp (HK5.out.grown hg6 (fun e => by cases e;exact HNe5.out.1 rfl));have HOw6:=kp (HOw5.out.far hg6 (.inr (fun e => by cases e;exact HNe.out.1 rfl)));have HW6:=kp (HW5.out.grown hg6 HW5.out.size (fun k e => by cases e;exact HNe.out.2.1));clear hk6 hg6 hs6))
    have HRow : Kept (OwnR 9 tvV w6 w.heap.size 155 (.slice (some ⟨g5,0,none⟩) 1 1) [newT 0 g4]):=kp (OwnR.of_blk HK56.out HNe5.out.2.1 rfl (Nat.le_refl _) (by unfold maxLen;omega) rfl rfl)
    have HOk : Kept (Mine w6 w.heap.size ⟨some ⟨g5,0,none⟩,1,1,[newT 0 g4],List.replicate 16 0⟩):=kp ⟨HRow.out,(Fam.nil _ _ _ _).add (HOw6.out.less HNe.out.2.2.2) (fun b hb h => by
      have e1 : g4 = b:=by have h2 : some g4 = some b:=hb;injection h2
      have e2 : g5 = b:=by have h2 : some g5 = some b:=h;injection h2
      exact HNe5.out.2.2 (e2.trans e1.symm)) (fun _ _ _ h => by simp at h)⟩
    have HKf : Kept (Blk w6 g2 91 (pcC ⟨some ⟨g5,0,none⟩,1,1,[newT 0 g4],List.replicate 16 0⟩)):=kp (by unfold pcC;rw [← YF];exact HK6.out)
    go_wp2_with ((with_reducible show bodyPost _ _ _ _ _ _);exact bodyPost_ret (lJ (P:=Try.prog) (fn:=Try.f51) rfl _ _ g2 91 _ _ _ rfl rfl HKf.out Try.underlying91 rfl jC) rfl ⟨⟨some ⟨g5,0,none⟩,1,1,[newT 0 g4],List.replicate 16 0⟩,by rw [HZ.out];rfl,HOk.out,fun _ => rfl,fun h => absurd HCz.out h,rfl,HW6.out⟩)
  · have hb0 : ((c : Int) != 0) = true:=by simpa using hz
    have HZ:=kp hz
    clear hz
    go_enter Try.func51,Try.ntmps51
    go_wp2_with (first
      | ((with_reducible refine j6 rfl 46 (.tmp 0) rfl (pgC p) rfl ?_);intro g1 w1 hg1 hk1 hw1;have HK1:=kp hk1;have HW1:=kp hw1;have hs1:=hw1.size;have hl1:=hk1.lt;clear hk1 hw1)
      | ((with_reducible show Sl 2);go_must (refine j7 rfl 91 rfl _ l7 ?_);intro g2 w2 hg2 hk2 hw2;have HK2:=kp hk2;have HK12:=kp (HK1.out.below hw2 hl1);have HW2:=kp (HW1.out.trans (hw2.mono hs1));have hs2:=HW2.out.size;have hl2:=hk2.lt;clear hk2 hw2)
      | ((with_reducible show Sl 8);go_must (refine j4 rfl 46 (.tmp 1) rfl g1 rfl _ (pgC p) _ HK12.out Try.underlying46 rfl jF ?_))
      | (go_at_call 75;go_must (refine (zQ B p w2 (HP.out.below (HW2.out.mono hB)) (by omega) a b c HC.out).mono ?_);rintro e w3 ⟨rfl,hb3⟩;have HW3:=kp (HW2.out.trans (hb3.mono hs2));have HK23:=kp (HK2.out.below hb3 hl2);have hs3:=HW3.out.size;have hl23:=HK23.out.lt;clear hb3)
      | ((with_reducible show Sl 15);go_must (refine qB rfl 91 #[] rfl [] (by simp) (Value.slice none 0 0 :: zeros 16) built_conf0 ?_))
      | ((with_reducible show Sn);go_must (refine j5 rfl 91 (.tmp 2) (.tmp 15) rfl g2 (Value.slice none 0 0 :: zeros 16) rfl rfl _ _ HK23.out jC rfl (QQ _ _ _) ?_);intro w6 hk6 hg6 hs6
         have HK6:=kp hk6;have HW6:=kp (HW3.out.grown hg6 hs3 (fun k e => by cases e;omega));clear hk6 hg6 hs6))
    have HKf : Kept (Blk w6 g2 91 (pcC pcNone)):=kp (by rw [Y1];exact HK6.out)
    have HOk : Kept (Mine w6 w.heap.size pcNone):=kp ⟨OwnR.nil _ _ _ _ _,Fam.nil _ _ _ _⟩
    go_wp2_with ((with_reducible show bodyPost _ _ _ _ _ _);exact bodyPost_ret (lJ (P:=Try.prog) (fn:=Try.f51) rfl _ _ g2 91 _ _ _ rfl rfl HKf.out Try.underlying91 rfl jC) rfl ⟨pcNone,rfl,HOk.out,fun h => absurd h HZ.out,fun _ => rfl,rfl,HW6.out⟩)
end Go.Proofs.Ytcbfghcdbmlneaa
