/- The program's interpreter, walked: Call. -/
import Derived.Test.YtnaomfmmkhgbhaaPk7
namespace Go.Proofs.Ytnaomfmmkhgbhaa
open Go.RowKit
theorem frame_one : (Try.prog.info? 133).map (fun i => (i.zero.map (·.cells.size),i.size)) = some (some 2,2):=by kernel_rfl
theorem X8 (A : Option Addr) (n c : Nat) : ∀ u ∈ Value.slice A n c :: zeros 8,u.oneCell' = true:=by
  intro u hu
  rcases List.mem_cons.1 hu with rfl | hu
  · rfl
  · rw [List.eq_of_mem_replicate hu];rfl
set_option maxRecDepth 100000 in
set_option maxHeartbeats 1600000 in
theorem uG (f : Nat) (w : World) :
    Calls Try.prog 34 #[.int .i64 (f : Int)] w fun e w' => ∃ g,e = .returned (.agg (Value.slice (some ⟨g,0,none⟩) 1 1 :: zeros 8).toArray) ∧ OwnR 2 frV w' w.heap.size 133 (.slice (some ⟨g,0,none⟩) 1 1) [(f,0)] ∧ w.heap.size ≤ g ∧ Below w.heap.size w w':=by
  go_enter Try.func34,Try.ntmps34
  go_wp2_with (first
    | ((with_reducible show Sl 2);go_must (refine j3 rfl 94 rfl _ xY ?_);intro g1 w1 hg1 hk1 hw1;have HK1:=kp hk1;have HW1:=kp hw1;have hs1:=hw1.size;have hl1:=hk1.lt;clear hk1 hw1)
    | ((with_reducible show Sl 5);go_must (refine j8 rfl 91 133 (.tmp 4) rfl 2 Try.underlying91 frame_one (by omega) (by omega) _ [.int .i64 (f : Int),.int .i64 0] rfl rfl rfl ?_);intro g2 w2 hg2 hk2 hw2
       have HK2:=kp hk2;have HK12:=kp (HK1.out.below hw2 hl1);have HW2:=kp (HW1.out.trans (hw2.mono hs1));have hs2:=HW2.out.size;have hl2:=hk2.lt;clear hk2 hw2)
    | ((with_reducible show Sl 6);go_must (refine xI rfl 94 0 (.tmp 5) rfl (.slice (some ⟨g2,0,none⟩) 1 1) rfl (Value.slice (some ⟨g2,0,none⟩) 1 1 :: zeros 8) (QZ (some ⟨g2,0,none⟩) 1 1) ?_))
    | ((with_reducible show Sn);go_must (refine j4 rfl 94 (.tmp 2) (.tmp 6) rfl g1 (Value.slice (some ⟨g2,0,none⟩) 1 1 :: zeros 8) rfl rfl _ _ HK12.out lI rfl (X8 _ _ _) ?_);intro w3 hk3 hg3 hs3
       have HK3:=kp hk3;have HK23:=kp (HK2.out.grown hg3 (fun e => by cases e;omega));have HW3:=kp (HW2.out.grown hg3 hs2 (fun k e => by cases e;omega));clear hk3 hg3)
    | ((with_reducible show bodyPost _ _ _ _ _ _);exact bodyPost_ret (jK (P:=Try.prog) (fn:=Try.f34) rfl _ _ g1 94 _ _ rfl HK3.out Try.underlying94 rfl lI) rfl ⟨g2,rfl,OwnR.of_blk HK23.out (by omega) rfl (Nat.le_refl _) (by unfold maxLen;omega) rfl rfl,by omega,HW3.out⟩))
theorem yT : (Try.prog.info? 91).map (·.size) = some 1:=by kernel_rfl
set_option maxRecDepth 100000 in
set_option maxHeartbeats 1600000 in
theorem sem_call (B gN gU k : Nat) (q : Pc) (x : Nd) (way : Bool) (th : Tv) (w : World) (hst : St w B gN gU q) (hu : Blk w gU 106 (turnC gN k way x)) (hkl : k < q.len) (hth : q.tvs[k]? = some th) (hs0 : 0 < th.sv.len) (hlen16 : th.sv.len ≤ 1000) (h8 : q.len ≤ 8) (nx : Nat) (hnx : x.next = (nx : Int)) (a : Nat) (ha : x.arg = (a : Int)) (hk7 : x.kind = 7) :
    Calls Try.prog 68 #[.pointer (some ⟨gU,0,none⟩)] w fun e w' => e = .returned (.tuple #[]) ∧ ∃ q',St w' B gN gU q' ∧ q'.cf = M.act q.cf k x way ∧ Below B w w':=by
  go_enter Try.func68,Try.ntmps68
  go_wp2_with fail
  refine (yF B gN gU k q x way th w hst hu hkl hth hs0 hlen16 h8 nx hnx).mono ?_
  rintro e w1 ⟨rfl,hst1,hu1,hb1⟩
  have hw1s:=hb1.size
  have hth1 : (q.put k (tvGo th nx)).tvs[k]? = some (tvGo th nx):=by
    show (q.tvs.set k (tvGo th nx))[k]? = _
    rw [List.getElem?_set,if_pos rfl,if_pos (List.getElem?_eq_some_iff.1 hth).1]
  have hcf1 : M.th q.cf k = tvT th:=Pc.th_of hth
  have HCf:=kp (Pc.put_cf q k (tvGo th nx))
  have HCf0:=kp hcf1
  have hs01 : 0 < (tvGo th nx).sv.len:=hs0
  have hlen161 : (tvGo th nx).sv.len ≤ 1000:=hlen16
  have hkl1 : k < (q.put k (tvGo th nx)).len:=hkl
  have h81 : (q.put k (tvGo th nx)).len ≤ 8:=h8
  have how1 : (q.put k (tvGo th nx)).ow = q.ow:=rfl
  have HQlen : Kept ((q.put k (tvGo th nx)).len = q.len):=kp rfl
  have HTvs : Kept ((q.put k (tvGo th nx)).tvs = q.tvs.set k (tvGo th nx)):=kp rfl
  have HTh1 : Kept (tvT (tvGo th nx) = ⟨M.goOn th.sv.stack nx,th.slots⟩):=kp rfl
  obtain ⟨q1,hq1⟩ : ∃ q1,q.put k (tvGo th nx) = q1:=⟨_,rfl⟩
  obtain ⟨th1,ht1⟩ : ∃ th1,tvGo th nx = th1:=⟨_,rfl⟩
  rw [ht1] at hq1 hth1 hs01 hlen161 HCf HTh1 HTvs hst1 hkl1 h81 how1 HQlen
  rw [hq1] at hst1 hth1 hkl1 h81 how1 HCf HQlen HTvs
  clear hst hu hq1 ht1 hcf1 hs0 hlen16
  obtain ⟨gT,curT,thx,hA,hbT,hthx,hcT0,hcTj,hTN,hTU,hBT,hsl,hthc,hcTl⟩:=hst1.thread hkl1
  rw [hth1] at hthx
  cases hthx
  obtain ⟨gS,cur,hSA,hbS,hlen,hSN,hSU,hBS,hput⟩:=hst1.goes hth1 hs01
  have hbound:=hst1.ok
  have hqc:=hbound.lc;have hqm:=hbound.cm
  unfold maxLen at hqm
  have HE : Kept (pcC q1 = .slice (some ⟨gT,0,none⟩) q1.len q1.cap :: q1.ow.map natV):=kp (by unfold pcC;rw [hA])
  have hgN:=hst1.conf.lt;have hgU:=hu1.lt;have hgT:=hbT.lt;have hgS:=hbS.lt
  have HSt:=kp hst1;have HK:=kp hu1;have HT:=kp hbT;have HS:=kp hbS;have HPut:=kp hput
  have hxc:=hbound.svs th1 (List.mem_of_getElem? hth1)
  have hxc2:=hxc.lc;have hxm:=hxc.cm
  unfold maxLen at hxm
  rw [hSA] at hcT0
  have HC0:=kp hcT0
  have hlow:=hst1.low.1
  have hBw : B ≤ w1.heap.size:=by omega
  have HLow:=kp hst1.low
  obtain ⟨n,hn⟩ : ∃ n,th1.sv.len = n:=⟨_,rfl⟩
  obtain ⟨cp,hcp⟩ : ∃ cp,th1.sv.cap = cp:=⟨_,rfl⟩
  have HThl:=kp hn
  rw [hn] at HC0 hs01 hlen161 hxc2 hlen HPut
  rw [hcp] at HC0 hxc2 hxm
  have HA:=kp hA;have HTh:=kp hth1
  have HOwn : Kept (∀ W,St W B gN gU q1 → OwnR 2 frV W B 133 (.slice (some ⟨gS,0,none⟩) n cp) th1.sv.stack):=kp (fun W hW => by
    have h:=hW.fam.own k th1.sv (by rw [List.getElem?_map,hth1];rfl)
    unfold svV at h
    rw [hSA,hn,hcp] at h
    exact h)
  have HLen : Kept (th1.sv.stack.length = n):=kp (by rw [hsl,hn])
  have HBk1 : Kept ((svV th1.sv).ownBlock = some gS):=kp (by unfold svV;rw [hSA];rfl)
  have HGoal : Kept (∀ A' c',(q1.put k ⟨⟨A',n + 1,c',th1.sv.stack ++ [(a,0)]⟩,th1.slots⟩).cf = M.act q.cf k x way):=kp (fun A' c' => by
    unfold M.act
    rw [Pc.put_cf,HCf.out,how1,HCf0.out,if_neg (show ¬ x.kind = 9 by omega),if_neg (show ¬ x.kind = 3 by omega),if_neg (show ¬ x.kind = 4 by omega),if_neg (show ¬ x.kind = 5 by omega),if_pos hk7,hnx,ha,Int.toNat_natCast,Int.toNat_natCast,List.set_set]
    have h1 : th1.sv.stack = M.goOn th.sv.stack nx:=congrArg M.Th.stack HTh1.out
    have h2 : th1.slots = th.slots:=congrArg M.Th.slots HTh1.out
    have e : tvT ⟨⟨A',n + 1,c',th1.sv.stack ++ [(a,0)]⟩,th1.slots⟩ = ⟨M.goOn th.sv.stack nx ++ [(a,0)],th.slots⟩:=by
      show (⟨th1.sv.stack ++ [(a,0)],th1.slots⟩ : M.Th) = _
      rw [h1,h2]
    rw [e];rfl)
  have hTlen : k * 9 < curT.length:=by omega
  have hTS : gT ≠ gS:=by
    have h:=hst1.fam.out k th1.sv gS (by rw [List.getElem?_map,hth1];rfl) HBk1.out
    intro e
    exact h (.inr (.inr (by rw [hA,← e];rfl)))
  have HB1:=kp hb1
  have hCu:=hu1
  have hCn:=hst1.conf.cell 0
  rw [HE.out,List.getElem?_cons_zero] at hCn
  have HC:=kp (xL gU gN gT k q1.len q1.cap way x w1 hCu hCn hkl1)
  clear hst1 hu1 hth1 hput hbT hbS hcT0 hcTj hthc hcTl hsl hbound hxc hn hcp hSA hA hCu hCn hb1
  go_wp2_with fail
  refine HC.out.mono ?_
  rintro e w9 ⟨rfl,m,rfl⟩
  obtain ⟨w2,hw2⟩ : ∃ y,w1.drewN m = y:=⟨_,rfl⟩
  have HT2 : Kept (Blk w2 gT 94 curT):=kp (by rw [← hw2];exact HT.out.drewN m)
  have HK2 : Kept (Blk w2 gU 106 (turnC gN k way x)):=kp (by rw [← hw2];exact HK.out.drewN m)
  have HSt2 : Kept (St w2 B gN gU q1):=kp (by rw [← hw2];exact HSt.out.drewN m)
  have HB2 : Kept (Below B w w2):=kp (by rw [← hw2];exact below_drewN HB1.out m)
  have hBw2 : B ≤ w2.heap.size:=by rw [← hw2];exact hBw
  have hgT2:=HT2.out.lt;have hgU2:=HK2.out.lt
  have hgS2 : gS < w2.heap.size:=by rw [← hw2];exact hgS
  rw [hw2]
  clear hw2
  go_wp2
  by_cases hroom : n + 1 ≤ cp
  · have hx1:=hroom
    apply lY (fun k => k = gS ∨ k = gT) [12,15] [1,2,3,4,5,6,7,8,9,10,11] (phs ([fun W => Below w2.heap.size w2 W,fun W => ∃ W0,Below w2.heap.size w2 W0 ∧ W0.grownBy W (some gS) ∧ OwnR 2 frV W B 133 (.slice (some ⟨gS,0,none⟩) (n + 1) cp) (th1.sv.stack ++ [(a,0)]),fun W => St W B gN gU (q1.put k ⟨⟨some ⟨gS,0,none⟩,n + 1,cp,th1.sv.stack ++ [(a,0)]⟩,th1.slots⟩)] : List (World → Prop))) (.is _ :: .is _ :: .is _ :: .is _ :: .is _ :: .is _ :: .is _ :: .is _ :: .is _ :: .is _ :: .is (.agg #[.int .i64 (a : Int),.int .i64 0]) :: GFact.elem _ 133 [.int .i64 (a : Int),.int .i64 0] w2.heap.size :: .is _ :: .is _ :: .is _ :: .any _ :: [])
      [[],[],[(1,8)],[(2,9)],[(3,10)],[],[(5,12)],[(6,13)],[(7,14)],[(8,15)],[(9,16)],[(10,17)],[(4,11),(11,18)],[(0,7)],[(13,20)],[(14,21),(12,19)]]
      [(0,7),(1,8),(2,9),(3,10),(4,11),(5,12),(6,13),(7,14),(8,15),(9,16),(10,17),(11,18),(12,19),(13,20),(14,21)] (by kernel_rfl) (by kernel_rfl) (by kernel_rfl) (by kernel_rfl) (by decide)
    case h0 => exact (⟨rfl,rfl,rfl,Nat.le_refl _,fun _ _ => rfl⟩ : Below w2.heap.size w2 w2.drew)
    case hob =>
      refine lA rfl rfl ?o0 (j7 rfl rfl ?o1 (j7 rfl rfl ?o2 (j7 rfl rfl ?o3 (j7 rfl rfl ?o4 (j7 rfl rfl ?o5 (j7 rfl rfl ?o6 (j7 rfl rfl ?o7 (j7 rfl rfl ?o8 (j7 rfl rfl ?o9 (j7 rfl rfl ?o10 (j7 rfl rfl ?o11 (lR 0 rfl rfl ?o12 (lA rfl rfl ?o13 (lA rfl rfl ?o14 (lR 1 rfl rfl ?o15 (xS))))))))))))))))
      case o0 => intro p W hO hJ;change wpList _ _ _ _ _ _;go_wp2;exact j9 rfl rfl rfl hJ
      case o1 => intro W hO hJ;change wpList _ _ _ _ _ _;go_wp2;exact j9 rfl rfl rfl hJ
      case o2 => intro W hO hJ;rintro _ rfl;change wpList _ _ _ _ _ _;go_wp2;exact j9 rfl rfl rfl hJ
      case o3 => intro W hO hJ;rintro _ rfl;change wpList _ _ _ _ _ _;go_wp2;exact j9 rfl rfl rfl hJ
      case o4 =>
        intro W hO hJ;rintro _ rfl;change wpList _ _ _ _ _ _
        have hb : Below w2.heap.size w2 W:=hJ
        have hc:=(HT2.out.below hb hgT2).cell (k * 9)
        rw [HC0.out] at hc
        clear hb
        go_wp2;exact j9 rfl rfl rfl hJ
      case o5 => intro W hO hJ;change wpList _ _ _ _ _ _;go_wp2;exact j9 rfl rfl rfl hJ
      case o6 => intro W hO hJ;rintro _ rfl;change wpList _ _ _ _ _ _;go_wp2;exact j9 rfl rfl rfl hJ
      case o7 => intro W hO hJ;rintro _ rfl;change wpList _ _ _ _ _ _;go_wp2;exact j9 rfl rfl rfl hJ
      case o8 => intro W hO hJ;rintro _ rfl;change wpList _ _ _ _ _ _;go_wp2;exact j9 rfl rfl rfl hJ
      case o9 =>
        intro W hO hJ;rintro _ rfl;change wpList _ _ _ _ _ _
        have hb : Below w2.heap.size w2 W:=hJ
        have hc:=(HK2.out.below hb hgU2).cell 4
        simp only [turnC,List.getElem?_cons_zero,List.getElem?_cons_succ] at hc
        rw [ha] at hc
        clear hb
        go_wp2;exact j9 rfl rfl rfl hJ
      case o10 => intro W hO hJ;rintro _ rfl;change wpList _ _ _ _ _ _;go_wp2;exact j9 rfl rfl rfl hJ
      case o11 =>
        intro W hO hJ;rintro _ rfl;change wpList _ _ _ _ _ _
        have hb : Below w2.heap.size w2 W:=hJ
        have HBw:=kp hb
        have hbs:=hb.size
        clear hJ hb hO
        have HB5:=kp ((Below.refl W.heap.size W).alloc (Nat.le_refl _) (.cells #[Value.int .i64 (a : Int),.int .i64 0] 133))
        go_wp2
        exact lK rfl rfl rfl (Only.of_below HB5.out) (HBw.out.trans (HB5.out.mono hbs)) ⟨W.heap.size,rfl,Blk.newA W _ _ [.int .i64 (a : Int),.int .i64 0] rfl,by omega,by omega⟩
      case o12 =>
        intro W hO hJ;rintro _ rfl;rintro _ ⟨gn,rfl,hbk,hng,hgk⟩;change wpList _ _ _ _ _ _
        have hb : Below w2.heap.size w2 W:=hJ
        have HBw:=kp hb;have HBk:=kp hbk
        have hOw:=HOwn.out W (HSt2.out.below hb (Nat.le_refl _))
        clear hJ hO hb hbk
        go_wp2_with (at_builtin;go_must (refine jV rfl (.tmp 11) (.tmp 18) 91 rfl B 133 2 _ 16 Try.underlying91 vI rfl (by omega) frV y8 gS cp n th1.sv.stack HLen.out (a,0) rfl hOw hroom gn 1 rfl HBk.out (by omega) ?_);intro w6 hown6 hgr6)
        exact lK rfl rfl rfl (Only.of_grown hgr6 (.inl rfl)) ⟨W,HBw.out,hgr6,hown6⟩ rfl
      case o13 => intro p W hO hJ;rintro _ rfl;change wpList _ _ _ _ _ _;go_wp2;exact j9 rfl rfl rfl hJ
      case o14 => intro p W hO hJ;rintro _ rfl;change wpList _ _ _ _ _ _;go_wp2;exact j9 rfl rfl rfl hJ
      case o15 =>
        intro W hO hJ;rintro _ rfl;rintro _ rfl;change wpList _ _ _ _ _ _
        have hJ1 : ∃ W0,Below w2.heap.size w2 W0 ∧ W0.grownBy W (some gS) ∧ OwnR 2 frV W B 133 (.slice (some ⟨gS,0,none⟩) (n + 1) cp) (th1.sv.stack ++ [(a,0)]):=hJ
        obtain ⟨W0,hb0,hg0,hown0⟩:=hJ1
        have HT0:=kp (HT2.out.below hb0 hgT2)
        have HKw:=kp (HT0.out.grown hg0 (fun e => hTS (by cases e;rfl)))
        have HSt0:=kp (HSt2.out.below hb0 (Nat.le_refl _))
        have HG0:=kp hg0;have HOw0:=kp hown0
        clear hJ hO hb0 hg0 hown0
        go_wp2_with ((with_reducible show Sn);go_must (refine j6 rfl 91 (.tmp 21) (.tmp 19) rfl gT (k * 9) (.slice (some ⟨gS,0,none⟩) (n + 1) cp) rfl rfl rfl rfl _ _ HKw.out hTlen yT ?_);intro w7 hk7 hg7 hs7;have HFin:=kp (HSt0.out.stack (sv:=⟨some ⟨gS,0,none⟩,n + 1,cp,th1.sv.stack ++ [(a,0)]⟩) HA.out HT0.out HTh.out (by rw [HBk1.out];exact HG0.out) HOw0.out (.inl (by rw [HBk1.out];rfl)) hk7 hg7 hs7);have HOn:=kp (Only.of_grown (G:=fun k => k = gS ∨ k = gT) hg7 (.inr rfl));clear hk7 hg7)
        exact qL rfl HOn.out HFin.out
    case hend =>
      intro W hO hJ;rintro _ rfl;rintro _ rfl;rintro _ rfl;rintro _ rfl;rintro _ rfl;rintro _ rfl;rintro _ rfl;rintro _ rfl;rintro _ rfl;rintro _ rfl;rintro _ rfl;rintro _ ⟨gn,rfl,hbk,hng,hgk⟩;rintro _ rfl;rintro _ rfl;rintro _ rfl
      simp only [ggiven,jF,List.set]
      have hJ2 : St W B gN gU (q1.put k ⟨⟨some ⟨gS,0,none⟩,n + 1,cp,th1.sv.stack ++ [(a,0)]⟩,th1.slots⟩):=hJ
      have HFin:=kp hJ2
      have HBe:=kp (HB2.out.trans (hO.below (B:=B) hBw2 (fun k hk => by rcases hk with rfl | rfl <;> omega)))
      clear hJ hJ2 hO hbk
      go_wp2
      go_end0
      exact ⟨rfl,_,HFin.out,HGoal.out _ _,HBe.out⟩
  · have HFull : Kept (cp = n):=kp (by omega)
    clear hroom
    apply jC 15 (.is _ :: .is _ :: .is _ :: .is _ :: .is _ :: .is _ :: .is _ :: .is _ :: .is _ :: .is _ :: .is (.agg #[.int .i64 (a : Int),.int .i64 0]) :: Fact.elem 133 [.int .i64 (a : Int),.int .i64 0] :: Fact.ownR 2 frV B 133 w2.heap.size (n + 1) (th1.sv.stack ++ [(a,0)]) :: .is _ :: .is _ :: [])
      [[],[],[(1,8)],[(2,9)],[(3,10)],[],[(5,12)],[(6,13)],[(7,14)],[(8,15)],[(9,16)],[(10,17)],[(4,11),(11,18)],[(0,7)],[(13,20)],[(14,21),(12,19)]]
      [(0,7),(1,8),(2,9),(3,10),(4,11),(5,12),(6,13),(7,14),(8,15),(9,16),(10,17),(11,18),(12,19),(13,20),(14,21)] (by kernel_rfl) (by kernel_rfl) (by kernel_rfl) (by kernel_rfl) (by kernel_rfl)
    case hob =>
      refine ⟨?o0,?o1,?o2,?o3,?o4,?o5,?o6,?o7,?o8,?o9,?o10,?o11,?o12,?o13,?o14,trivial⟩
      case o0 => intro W hW;change wpList _ _ _ _ _ _;go_wp2;exact j0 rfl rfl rfl
      case o1 => intro W hW;change wpList _ _ _ _ _ _;go_wp2;exact j0 rfl rfl rfl
      case o2 => intro W hW;rintro _ rfl;change wpList _ _ _ _ _ _;go_wp2;exact j0 rfl rfl rfl
      case o3 => intro W hW;rintro _ rfl;change wpList _ _ _ _ _ _;go_wp2;exact j0 rfl rfl rfl
      case o4 =>
        intro W hW;rintro _ rfl;change wpList _ _ _ _ _ _
        have hc:=(HT2.out.below hW hgT2).cell (k * 9)
        rw [HC0.out] at hc
        go_wp2;exact j0 rfl rfl rfl
      case o5 => intro W hW;change wpList _ _ _ _ _ _;go_wp2;exact j0 rfl rfl rfl
      case o6 => intro W hW;rintro _ rfl;change wpList _ _ _ _ _ _;go_wp2;exact j0 rfl rfl rfl
      case o7 => intro W hW;rintro _ rfl;change wpList _ _ _ _ _ _;go_wp2;exact j0 rfl rfl rfl
      case o8 => intro W hW;rintro _ rfl;change wpList _ _ _ _ _ _;go_wp2;exact j0 rfl rfl rfl
      case o9 =>
        intro W hW;rintro _ rfl;change wpList _ _ _ _ _ _
        have hc:=(HK2.out.below hW hgU2).cell 4
        simp only [turnC,List.getElem?_cons_zero,List.getElem?_cons_succ] at hc
        rw [ha] at hc
        go_wp2;exact j0 rfl rfl rfl
      case o10 => intro W hW;rintro _ rfl;change wpList _ _ _ _ _ _;go_wp2;exact j0 rfl rfl rfl
      case o11 =>
        intro W hW;rintro _ rfl;change wpList _ _ _ _ _ _
        clear hW
        have HB5:=kp ((Below.refl W.heap.size W).alloc (Nat.le_refl _) (.cells #[Value.int .i64 (a : Int),.int .i64 0] 133))
        go_wp2
        exact jB rfl rfl rfl HB5.out ⟨W.heap.size,rfl,Blk.newA W _ _ [.int .i64 (a : Int),.int .i64 0] rfl⟩
      case o12 =>
        intro W hW;rintro _ rfl;rintro _ ⟨gn,rfl,hbk⟩;change wpList _ _ _ _ _ _
        have HBk:=kp hbk
        have hOw:=HOwn.out W (HSt2.out.below hW (Nat.le_refl _))
        have hWs:=hW.size
        clear hW hbk
        go_wp2_with (at_builtin;go_must (refine x0 rfl (.tmp 11) (.tmp 18) 91 rfl B 133 2 _ 16 Try.underlying91 vI rfl (by omega) frV y8 gS cp n th1.sv.stack HLen.out (a,0) rfl hOw HFull.out gn 1 rfl HBk.out (by unfold maxLen;omega) (by omega) (by omega) ?_);intro g6 c6 w6 hown6 hb6 hg6)
        exact jB rfl rfl rfl hb6 ⟨g6,c6,rfl,hown6,by omega⟩
      case o13 => intro W hW;rintro _ rfl;change wpList _ _ _ _ _ _;go_wp2;exact j0 rfl rfl rfl
      case o14 => intro W hW;rintro _ rfl;change wpList _ _ _ _ _ _;go_wp2;exact j0 rfl rfl rfl
    case hend =>
      intro W hW;rintro _ rfl;rintro _ rfl;rintro _ rfl;rintro _ rfl;rintro _ rfl;rintro _ rfl;rintro _ rfl;rintro _ rfl;rintro _ rfl;rintro _ rfl;rintro _ rfl;rintro _ ⟨gn,rfl,hbk⟩;rintro _ ⟨g6,c6,rfl,hown6,hg6⟩;rintro _ rfl;rintro _ rfl
      simp only [given,jF,List.set,List.drop]
      have HKw:=kp (HT2.out.below hW hgT2)
      have HStw:=kp (HSt2.out.below hW (Nat.le_refl _))
      have HBw:=kp (HB2.out.trans (hW.mono hBw2))
      have HOw6:=kp hown6
      have hWs:=hW.size
      have HGr:=kp (jN hW (svV th1.sv).ownBlock)
      have hW2:=HB2.out.size
      clear hW hbk hown6
      go_wp2_with ((with_reducible show Sn);go_must (refine j6 rfl 91 (.tmp 21) (.tmp 19) rfl gT (k * 9) (.slice (some ⟨g6,0,none⟩) (n + 1) c6) rfl rfl rfl rfl _ _ HKw.out hTlen yT ?_);intro w7 hk7 hg7 hs7;have HFin:=kp (HSt2.out.stack (sv:=⟨some ⟨g6,0,none⟩,n + 1,c6,th1.sv.stack ++ [(a,0)]⟩) HA.out HT2.out HTh.out HGr.out HOw6.out (.inr (fun b e => by cases e;exact hg6)) hk7 hg7 hs7);have HB7:=kp (HBw.out.grown hg7 (by omega) (fun k e => by cases e;exact hBT));clear hk7 hg7)
      go_end0
      exact ⟨rfl,_,HFin.out,HGoal.out _ _,HB7.out⟩
end Go.Proofs.Ytnaomfmmkhgbhaa
