/- The document's interpreter, walked: Copy. -/
import Derived.Test.YtcbfghcdbmlneaaPk23
import Derived.Test.YtcbfghcdbmlneaaSemR3
namespace Go.Proofs.Ytcbfghcdbmlneaa
open Go.RowKit
theorem zip_maps {q : Rc} {svs : List Sv} {sls : List (List Nat)} {A A2 : Option Addr} {cap cap2 n : Nat} (h1 : svs.map (·.stack) = q.svs.map (·.stack)) (h2 : sls = q.sls) : (⟨A,cap,svs,A2,cap2,sls,n,q.ow⟩ : Rc).cf = q.cf:=by
  have e : ∀ (l : List Sv) (s : List (List Nat)),List.zipWith (fun (s : Sv) l => (⟨s.stack,l⟩ : M.Th)) l s = List.zipWith (fun (s : List (Nat × Nat)) l => ⟨s,l⟩) (l.map (·.stack)) s:=fun l s => by
    rw [List.zipWith_map_left]
  unfold Rc.cf
  rw [e,e,h1,h2]
theorem rown_ones (A A2 : Option Addr) (n c n2 c2 : Nat) (ow : List Nat) : ∀ u ∈ Value.slice A n c :: .slice A2 n2 c2 :: ow.map natV,u.oneCell' = true:=by
  intro u hu
  rcases List.mem_cons.1 hu with rfl | hu
  · rfl
  rcases List.mem_cons.1 hu with rfl | hu
  · rfl
  · obtain ⟨y,_,rfl⟩:=List.mem_map.1 hu
    rfl
theorem YQ {A A2 : Option Addr} {n c n2 c2 : Nat} {ow : List Nat} (h : ow.length = 16) : (Value.slice A n c :: .slice A2 n2 c2 :: ow.map natV).length = 18:=by simp [h]
set_option maxRecDepth 100000 in
set_option maxHeartbeats 8000000 in
theorem xM (q : Rc) (w : World) (hq : q.Ok w w.heap.size) (h8 : q.len ≤ 8) (h16 : q.ow.length = 16) (hst : ∀ x ∈ q.svs,x.len ≤ 1000) (hsl : ∀ l ∈ q.sls,l.length = 8) :
    Calls Try.prog 73 #[rcA q] w fun e w' => ∃ q',e = .returned (rcA q') ∧ RMine w' w.heap.size q' ∧ q'.cf = q.cf ∧ q'.len = q.len ∧ q'.ow = q.ow ∧ q'.sls = q.sls ∧ Below w.heap.size w w':=by
  have HQ:=kp hq
  have HQ18:=kp (l9 h16)
  have HStk:=kp hst;have HSl:=kp hsl;have H16:=kp h16
  obtain ⟨n,hn⟩ : ∃ n,q.len = n:=⟨_,rfl⟩
  have HN:=kp hn
  have HSvl : Kept (q.svs.length = n):=kp (by rw [← hn];exact hq.row.len)
  have HSll : Kept (q.sls.length = n):=kp (by rw [← hn];exact hq.slr.len)
  have HRow : Kept (Row svV w w.heap.size q.A n q.svs):=kp (by rw [← hn];exact hq.row)
  have HSlr : Kept (Recs 8 slV w w.heap.size q.A2 n q.sls):=kp (by rw [← hn];exact hq.slr)
  have hqc:=hq.lc.1;have hqm:=hq.lc.2;have hqc2:=hq.lc2.1;have hqm2:=hq.lc2.2
  unfold maxLen at hqm hqm2
  rw [hn] at h8 hqc hqc2
  have HE0 : Kept (rcC q = .slice q.A n q.cap :: .slice q.A2 n q.cap2 :: q.ow.map natV):=kp (by unfold rcC;rw [hn])
  have HBo:=kp (YE q.ow h16)
  clear hq hst hsl hn h16
  rw [q8]
  go_enter Try.func73,Try.ntmps73
  go_wp2_with (first
    | ((with_reducible refine j6 rfl 63 (.tmp 0) rfl (rcC q) rfl ?_);intro g1 w1 hg1 hk1 hw1;have HK1:=kp hk1;have HW1:=kp hw1;have hs1:=hw1.size;have hl1:=hk1.lt;clear hk1 hw1)
    | ((with_reducible show Sl 2);go_must (refine j7 rfl 63 rfl _ lB ?_);intro gR w2 hgR hk2 hw2
       have HKR2:=kp hk2;have HK12:=kp (HK1.out.below hw2 hl1);have HW2:=kp (HW1.out.trans (hw2.mono hs1));have hs2:=HW2.out.size;have hl12:=HK12.out.lt;have hlR2:=hk2.lt
       have HR1 : Kept (w2.rangeAt g1 2 (q.ow.map natV)):=kp (by have h:=HK12.out.range 2 16;unfold rcC at h;rw [List.drop_succ_cons,List.drop_succ_cons,List.drop_zero,List.take_of_length_le (by rw [List.length_map,H16.out];exact Nat.le_refl _)] at h;exact h)
       clear hk2 hw2)
    | ((with_reducible show Sl 6);go_must (refine wpList_load_mid rfl 61 (.tmp 5) rfl g1 2 rfl (q.ow.map natV) _ HR1.out Try.underlying61 rfl (by rw [List.length_map,H16.out];exact owners_size) ?_))
    | ((with_reducible show Sl 7);go_must (refine xY rfl 63 2 (.tmp 6) rfl (.agg (q.ow.map natV).toArray) rfl (Value.slice none 0 0 :: .slice none 0 0 :: q.ow.map natV) HBo.out ?_))
    | ((with_reducible show Sl 3);go_must (refine j7 rfl 63 rfl _ lB ?_);intro gO w3 hgO hk3 hw3;have HKO:=kp hk3;have HW3:=kp hw3;have hs3:=hw3.size;have HNeO:=kp hgO;clear hk3 hw3)
    | ((with_reducible show Sn);go_must (refine j5 rfl 63 (.tmp 3) (.tmp 7) rfl gO (Value.slice none 0 0 :: .slice none 0 0 :: q.ow.map natV) rfl rfl _ _ HKO.out (by rw [YQ H16.out];exact jA) (by rw [YQ H16.out];rfl) (rown_ones _ _ _ _ _ _ _) ?_);intro w4 hk4 hg4 hs4
       have HKO4:=kp hk4;have HW4:=kp (HW3.out.grown hg4 hs3 (fun k e => by cases e;exact HNeO.out));have hcO:=hk4.cell 0;have hsw4:=HW4.out.size;clear hk4 hg4 hs4))
  have HRB0 : Kept (RB w4 w2.heap.size gO gR none 0 0 [] none 0 0 [] q.ow):=kp ⟨HKO4.out,OwnR.nil _ _ _ _ _,OwnR.nil _ _ _ _ _,Fam.nil _ _ _ _,(fun _ h => by cases h),(fun _ h => by cases h),⟨HNeO.out,by omega⟩⟩
  have hc1:=(HK12.out.below HW4.out hl12).cell 0
  rw [HE0.out,List.getElem?_cons_zero] at hc1
  go_loopw [4] (fun v4 wr => ∃ (i : Nat) (A : Option Addr) (cap : Nat) (svs : List Sv) (A2 : Option Addr) (cap2 : Nat) (sls : List (List Nat)),i ≤ n ∧ v4 = .int .i64 i ∧ RB wr w2.heap.size gO gR A i cap svs A2 i cap2 sls q.ow ∧ svs.map (·.stack) = (q.svs.take i).map (·.stack) ∧ sls = q.sls.take i ∧ Below w2.heap.size w2 wr) (fun v4 _ => n - (intOf v4).toNat)
  case atStart => exact ⟨0,none,0,[],none,0,[],by omega,rfl,HRB0.out,rfl,rfl,HW4.out⟩
  case round =>
    obtain ⟨i,A,cap,svs,A2,cap2,sls,hi,rfl,hrb,hsv,hsl,hbl⟩:=hrel
    have HRB:=kp hrb;have HSt:=kp hsv;have HSls:=kp hsl;have HB:=kp hbl
    have hBs:=hbl.size
    have HK1r:=kp (HK12.out.below hbl hl12)
    have hc1r:=HK1r.out.cell 0
    rw [HE0.out,List.getElem?_cons_zero] at hc1r
    clear hrb hsv hsl hbl
    by_cases hlt : i < n
    · obtain ⟨ad,x,hA0,hadb,hx,hcx⟩:=HRow.out.get hlt
      obtain ⟨ad2,sl,hA20,had2b,hslx,hcs⟩:=HSlr.out.get hlt
      have HX0:=HQ.out.svs x (List.mem_of_getElem? hx)
      have HX : Kept (x.Ok w2 w2.heap.size):=kp ((HX0.keep fun _ hp => HW2.out.cell hp).more hs2)
      have hx1000:=HStk.out x (List.mem_of_getElem? hx)
      have HSl8:=kp (HSl.out sl (List.mem_of_getElem? hslx))
      have HSvi:=kp hx;have HSli:=kp hslx
      have HC0 : Kept (w2.cell? (ad.add i) = some (svV x)):=kp ((HW2.out.cell (by rw [add_block];exact hadb)).trans hcx)
      have HSlc : Kept (∀ j,j < 8 → w2.cell? (ad2.add (i * 8 + j)) = some (.int .i64 ((sl.getD j 0 : Nat) : Int))):=kp (fun j hj => (HW2.out.cell (by rw [add_block];exact had2b)).trans (hcs j hj))
      have HE : Kept (rcC q = .slice (some ad) n q.cap :: .slice (some ad2) n q.cap2 :: q.ow.map natV):=kp (by rw [HE0.out,hA0,hA20])
      have HK1:=HK1r
      have hg1:=HK1r.out.lt;have hgO:=HRB.out.conf.lt
      have hBs0:=hs2
      have HLn:=kp HRB.out.len
      have hxc:=HX.out.lc;have hxm:=HX.out.cm
      unfold maxLen at hxm
      rw [hA0] at hc1r
      clear hx hcx hslx hcs HX0 hA0 hA20
      go_wp2
      clear hc1r
      rcases HRB.out.row.room_or with ⟨gA,hAA,hroom⟩ | hfull
      · subst hAA
        have hAO : gA ≠ gO:=(HRB.out.ne gA rfl).1
        have hAb:=HRB.out.row.block gA rfl
        apply q7 (fun k => k = gA ∨ k = gO) [10,12] [0,1,2,3,4,5,6,7,8,9] (phs ([fun W => Below wr.heap.size wr W,fun W => StkIn wr W w2.heap.size gA i cap svs x,fun W => StkDone W w2.heap.size gO gR (i + 1) (svs.map (·.stack) ++ [x.stack]) A2 i cap2 sls q.ow] : List (World → Prop))) (.is _ :: .is _ :: GFact.empty _ w2.heap.size wr.heap.size :: .is _ :: .is _ :: .is _ :: .is _ :: .is _ :: GFact.stk _ w2.heap.size wr.heap.size x :: GFact.one1 _ w2.heap.size wr.heap.size x :: .is _ :: .is _ :: .any _ :: [])
          [[],[(0,15)],[],[],[(3,18)],[],[(4,19),(5,20)],[(6,21)],[(2,17),(7,22)],[(8,23)],[(1,16),(9,24)],[],[(11,26),(10,25)]]
          [(0,15),(1,16),(2,17),(3,18),(4,19),(5,20),(6,21),(7,22),(8,23),(9,24),(10,25),(11,26)] (by kernel_rfl) (by kernel_rfl) (by kernel_rfl) (by kernel_rfl) (by decide)
        case h0 => exact (⟨rfl,rfl,rfl,Nat.le_refl _,fun _ _ => rfl⟩ : Below wr.heap.size wr wr.drew)
        case hob =>
          refine jB rfl rfl ?o0 (jB rfl rfl ?o1 (jB rfl rfl ?o2 (jB rfl rfl ?o3 (jB rfl rfl ?o4 (jB rfl rfl ?o5 (jB rfl rfl ?o6 (jB rfl rfl ?o7 (jB rfl rfl ?o8 (jB rfl rfl ?o9 (lQ 0 rfl rfl ?o10 (lI rfl rfl ?o11 (lQ 1 rfl rfl ?o12 (xJ)))))))))))))
          case o0 => intro W hO hJ;change wpList _ _ _ _ _ _;go_wp2;exact j8 rfl rfl rfl hJ
          case o1 =>
            intro W hO hJ;rintro _ rfl;change wpList _ _ _ _ _ _
            have hb : Below wr.heap.size wr W:=hJ
            have hc:=(HRB.out.conf.below hb hgO).cell 0
            rw [List.getElem?_cons_zero] at hc
            clear hb
            go_wp2;exact j8 rfl rfl rfl hJ
          case o2 =>
            intro W hO hJ;change wpList _ _ _ _ _ _
            have hb : Below wr.heap.size wr W:=hJ
            have HBw:=kp hb
            have hbs:=hb.size
            clear hJ hb hO
            have HB5:=kp ((Below.refl W.heap.size W).alloc (Nat.le_refl _) (.cells #[] 147))
            go_wp2
            exact lP rfl rfl rfl (Only.of_below HB5.out) (HBw.out.trans (HB5.out.mono hbs)) ⟨W.heap.size,rfl,OwnR.empty _ _ _ _ _ (by omega),hbs,by omega⟩
          case o3 => intro W hO hJ;change wpList _ _ _ _ _ _;go_wp2;exact j8 rfl rfl rfl hJ
          case o4 =>
            intro W hO hJ;rintro _ rfl;change wpList _ _ _ _ _ _
            have hb : Below wr.heap.size wr W:=hJ
            have hc:=(HK1.out.below hb hg1).cell 0
            rw [HE.out,List.getElem?_cons_zero] at hc
            clear hb
            go_wp2;exact j8 rfl rfl rfl hJ
          case o5 => intro W hO hJ;change wpList _ _ _ _ _ _;go_wp2;exact j8 rfl rfl rfl hJ
          case o6 => intro W hO hJ;rintro _ rfl;rintro _ rfl;change wpList _ _ _ _ _ _;go_wp2;exact j8 rfl rfl rfl hJ
          case o7 =>
            intro W hO hJ;rintro _ rfl;change wpList _ _ _ _ _ _
            have hb : Below wr.heap.size wr W:=hJ
            have hc:=((HB.out.trans (hb.mono hBs)).cell (p:=ad.add i) (by rw [add_block];omega)).trans HC0.out
            clear hb
            go_wp2;exact j8 rfl rfl rfl hJ
          case o8 =>
            intro W hO hJ;rintro _ ⟨g2,rfl,hown2,hgk2,hng2⟩;rintro _ rfl;change wpList _ _ _ _ _ _
            have hb : Below wr.heap.size wr W:=hJ
            have HBw:=kp hb;have HOw2:=kp hown2
            have HRw:=kp (HX.out.row.below (HB.out.trans (hb.mono hBs)))
            have hbs:=hb.size
            clear hJ hb hO hown2
            go_wp2_with (at_builtin;go_must (refine xE rfl (.tmp 17) (.tmp 22) 148 rfl w2.heap.size 147 2 _ 16 Try.underlying148 xP rfl (by omega) frV yL g2 rfl HOw2.out x.A x.len x.cap w2.heap.size x.stack rfl HRw.out (by unfold maxLen;omega) (by omega) (by omega) ?_);intro g6 c6 w6 hown6 hb6 hg6;have HOw6:=kp hown6;have HB6:=kp hb6;clear hown6 hb6)
            exact lP rfl rfl rfl (Only.of_below HB6.out) (HBw.out.trans (HB6.out.mono hbs)) ⟨g6,c6,rfl,HOw6.out,by omega,by rcases hg6 with hg6 | hg6 <;> omega⟩
          case o9 =>
            intro W hO hJ;rintro _ ⟨g8,c8,rfl,hown8,hgk8,hng8⟩;change wpList _ _ _ _ _ _
            have hb : Below wr.heap.size wr W:=hJ
            have HBw:=kp hb;have HOw8:=kp hown8
            have hbs:=hb.size
            clear hJ hb hO hown8
            have HB5:=kp ((Below.refl W.heap.size W).alloc (Nat.le_refl _) (.cells #[Value.slice (some ⟨g8,0,none⟩) x.len c8] 148))
            go_wp2
            exact lP rfl rfl rfl (Only.of_below HB5.out) (HBw.out.trans (HB5.out.mono hbs)) ⟨W.heap.size,g8,c8,rfl,Blk.newA W _ _ [.slice (some ⟨g8,0,none⟩) x.len c8] rfl,by omega,HOw8.out.below HB5.out (Nat.le_refl _),hgk8,hng8⟩
          case o10 =>
            intro W hO hJ;rintro _ rfl;rintro _ ⟨gn,g8,c8,rfl,hbk,hng,hown8,hgk8,hng8⟩;change wpList _ _ _ _ _ _
            have hb : Below wr.heap.size wr W:=hJ
            have HBw:=kp hb;have HBk:=kp hbk;have HOw8:=kp hown8
            have HOw:=kp (HRB.out.below hb (Nat.le_refl _)).row
            clear hJ hO hb hbk hown8
            go_wp2_with (at_builtin;go_must (refine jZ rfl (.tmp 16) (.tmp 24) 59 rfl w2.heap.size 148 1 _ 24 Try.underlying59 zA rfl (by omega) svR XQ gA cap i svs HLn.out.1 ⟨some ⟨g8,0,none⟩,x.len,c8,x.stack⟩ rfl HOw.out hroom gn 1 rfl HBk.out (by omega) ?_);intro w6 hown6 hgr6)
            exact lP rfl rfl rfl (Only.of_grown hgr6 (.inl rfl)) ⟨g8,c8,lE (jT HBw.out _) hgr6,hown6,HOw8.out.far hgr6 (.inr (fun e => hng8 (.inl (by cases e;rfl)))),hgk8,fun e => hng8 (.inl e.symm)⟩ rfl
          case o11 => intro p W hO hJ;change wpList _ _ _ _ _ _;go_wp2;exact j8 rfl rfl rfl hJ
          case o12 =>
            intro W hO hJ;rintro _ rfl;rintro _ rfl;change wpList _ _ _ _ _ _
            have hJ1 : StkIn wr W w2.heap.size gA i cap svs x:=hJ
            obtain ⟨g,c,hg0,hrow0,hown0,hgk,hne⟩:=hJ1
            have HKw:=kp (HRB.out.conf.grown hg0 (fun e => hAO (by cases e;rfl)))
            have HG0:=kp hg0;have HRow0:=kp hrow0;have HOw0:=kp hown0
            clear hJ hO hg0 hrow0 hown0
            go_wp2_with ((with_reducible show Sn);go_must (refine j9 rfl 59 (.tmp 26) (.tmp 25) rfl gO 0 (.slice (some ⟨gA,0,none⟩) (i + 1) cap) rfl rfl rfl rfl _ _ HKw.out (by simp) JC ?_);intro w7 hk7 hg7 hs7;have HFin:=kp (HRB.out.row_push (sv:=⟨some ⟨g,0,none⟩,x.len,c,x.stack⟩) HG0.out HRow0.out (.inl rfl) HOw0.out (fun b e => by cases e;exact ⟨hgk,fun e2 => hne e2.symm⟩) hk7 hg7 (by omega));have HOn:=kp (Only.of_grown (G:=fun k => k = gA ∨ k = gO) hg7 (.inr rfl));clear hk7 hg7 hs7)
            exact l8 rfl HOn.out ⟨_,_,_,HFin.out,by rw [List.map_append];rfl⟩
        case hend =>
          intro W hO hJ;rintro _ rfl;rintro _ rfl;rintro _ ⟨g2,rfl,hown2,_,_⟩;rintro _ rfl;rintro _ rfl;rintro _ rfl;rintro _ rfl;rintro _ rfl;rintro _ ⟨g8,c8,rfl,hown8,_,_⟩;rintro _ ⟨gn,g8b,c8b,rfl,hbk,_,hown8b,_,_⟩;rintro _ rfl;rintro _ rfl
          simp only [ggiven,jJ,List.set]
          have hJ2 : StkDone W w2.heap.size gO gR (i + 1) (svs.map (·.stack) ++ [x.stack]) A2 i cap2 sls q.ow:=hJ
          obtain ⟨A5,cap5,svs5,h5,hst5⟩:=hJ2
          have HRB5:=kp h5;have HSt5:=kp hst5
          have HBe:=kp (HB.out.trans (hO.below (B:=w2.heap.size) hBs (fun k hk => by have:=HNeO.out;rcases hk with rfl | rfl <;> omega)))
          have HK15:=kp (HK12.out.below HBe.out hl12)
          clear hJ hO hbk hown2 hown8 hown8b h5 hst5
          obtain ⟨w5,rfl⟩ : ∃ x,x = W:=⟨_,rfl⟩
          go_wp2
          have HCs5 : Kept (∀ W,Below w5.heap.size w5 W → ∀ j v,(sl.map natV)[j]? = some v → W.cell? ((ad2.add (i * 8)).add j) = some v):=kp (fun W hW j v hj => by
            have h8:=HSl8.out
            have hj8 : j < 8:=by have:=(List.getElem?_eq_some_iff.1 hj).1;rw [List.length_map] at this;omega
            have hv : v = .int .i64 ((sl.getD j 0 : Nat) : Int):=by
              rw [List.getElem?_map,List.getElem?_eq_getElem (by omega)] at hj
              rw [List.getD_eq_getElem?_getD,List.getElem?_eq_getElem (by omega)]
              exact (Option.some.inj hj).symm
            rw [add_add,hv]
            exact ((HBe.out.trans (hW.mono HBe.out.size)).cell (by rw [add_block];omega)).trans (HSlc.out j hj8))
          have hgO5:=HRB5.out.conf.lt;have hg15:=HK15.out.lt
          have hBs5:=HBe.out.size
          rcases HRB5.out.slr.room_or with ⟨gL,hL,hroom2⟩ | hfull2
          · subst hL
            have hLO : gL ≠ gO:=(HRB5.out.ne2 gL rfl).1
            have hLb:=HRB5.out.slr.block gL rfl
            have hgO2:=HNeO.out
            apply q7 (fun k => k = gL ∨ k = gO) [8,10] [0,1,2,3,4,5,6,7] (phs ([fun W => Below w5.heap.size w5 W,fun W => SlIn w5 W w2.heap.size gL i cap2 (sls ++ [sl]),fun W => SlDone W w2.heap.size gO gR A5 (i + 1) cap5 svs5 (sls ++ [sl]) q.ow] : List (World → Prop))) (.is _ :: .is _ :: .is _ :: .is _ :: .is _ :: .is _ :: .is (.agg (sl.map natV).toArray) :: GFact.elem _ 149 (sl.map natV) w5.heap.size :: .is _ :: .is _ :: .any _ :: [])
              [[],[(0,27)],[],[(2,29)],[],[(3,30),(4,31)],[(5,32)],[(6,33)],[(1,28),(7,34)],[],[(9,36),(8,35)]]
              [(0,27),(1,28),(2,29),(3,30),(4,31),(5,32),(6,33),(7,34),(8,35),(9,36)] (by kernel_rfl) (by kernel_rfl) (by kernel_rfl) (by kernel_rfl) (by decide)
            case h0 => exact (⟨rfl,rfl,rfl,Nat.le_refl _,fun _ _ => rfl⟩ : Below w5.heap.size w5 w5.drew)
            case hob =>
              refine jB rfl rfl ?o0 (jB rfl rfl ?o1 (jB rfl rfl ?o2 (jB rfl rfl ?o3 (jB rfl rfl ?o4 (jB rfl rfl ?o5 (jB rfl rfl ?o6 (jB rfl rfl ?o7 (lQ 0 rfl rfl ?o8 (lI rfl rfl ?o9 (lQ 1 rfl rfl ?o10 (xJ)))))))))))
              case o0 => intro W hO hJ;change wpList _ _ _ _ _ _;go_wp2;exact j8 rfl rfl rfl hJ
              case o1 =>
                intro W hO hJ;rintro _ rfl;change wpList _ _ _ _ _ _
                have hb : Below w5.heap.size w5 W:=hJ
                have hc:=(HRB5.out.conf.below hb hgO5).cell 1
                simp only [List.getElem?_cons_zero,List.getElem?_cons_succ] at hc
                clear hb
                go_wp2;exact j8 rfl rfl rfl hJ
              case o2 => intro W hO hJ;change wpList _ _ _ _ _ _;go_wp2;exact j8 rfl rfl rfl hJ
              case o3 =>
                intro W hO hJ;rintro _ rfl;change wpList _ _ _ _ _ _
                have hb : Below w5.heap.size w5 W:=hJ
                have hc:=(HK15.out.below hb hg15).cell 1
                rw [HE.out] at hc
                simp only [List.getElem?_cons_zero,List.getElem?_cons_succ] at hc
                clear hb
                go_wp2;exact j8 rfl rfl rfl hJ
              case o4 => intro W hO hJ;change wpList _ _ _ _ _ _;go_wp2;exact j8 rfl rfl rfl hJ
              case o5 => intro W hO hJ;rintro _ rfl;rintro _ rfl;change wpList _ _ _ _ _ _;go_wp2;exact j8 rfl rfl rfl hJ
              case o6 =>
                intro W hO hJ;rintro _ rfl;change wpList _ _ _ _ _ _
                have hb : Below w5.heap.size w5 W:=hJ
                have HCs:=kp (HCs5.out W hb)
                clear hb
                go_wp2_with ((with_reducible show Sl 33);go_must (refine qY rfl 149 (.tmp 32) rfl (ad2.add (i * 8)) rfl (sl.map natV) _ HCs.out Try.underlying149 rfl (by rw [List.length_map,HSl8.out];exact yZ) ?_))
                exact j8 rfl rfl rfl hJ
              case o7 =>
                intro W hO hJ;rintro _ rfl;change wpList _ _ _ _ _ _
                have hb : Below w5.heap.size w5 W:=hJ
                have HBw:=kp hb
                have hbs:=hb.size
                clear hJ hb hO
                go_wp2_with ((with_reducible show Sl 34);go_must (refine jI rfl 60 149 (.tmp 33) rfl 8 Try.underlying60 xV (by omega) (by omega) _ (sl.map natV) rfl rfl (by rw [List.length_map];exact HSl8.out) ?_);intro g6 w6 hg6 hk6 hb6;have HK6:=kp hk6;have HB6:=kp hb6;clear hk6 hb6)
                exact lP rfl rfl rfl (Only.of_below HB6.out) (HBw.out.trans (HB6.out.mono hbs)) ⟨g6,rfl,HK6.out,by omega,by omega⟩
              case o8 =>
                intro W hO hJ;rintro _ rfl;rintro _ ⟨gn,rfl,hbk,hng,hgk⟩;change wpList _ _ _ _ _ _
                have hb : Below w5.heap.size w5 W:=hJ
                have HBw:=kp hb
                have HBk : Kept (Blk W gn 149 ((List.range 8).map (slV sl))):=kp (by rw [slC HSl8.out];exact hbk)
                have HOw:=kp (HRB5.out.below hb (Nat.le_refl _)).slr
                clear hJ hO hb hbk
                go_wp2_with (at_builtin;go_must (refine jZ rfl (.tmp 28) (.tmp 34) 60 rfl w2.heap.size 149 8 _ 64 Try.underlying60 xZ rfl (by omega) slV uR gL cap2 i sls HLn.out.2 sl rfl HOw.out hroom2 gn 1 rfl HBk.out (by omega) ?_);intro w6 hown6 hgr6)
                exact lP rfl rfl rfl (Only.of_grown hgr6 (.inl rfl)) ⟨lE (jT HBw.out _) hgr6,hown6⟩ rfl
              case o9 => intro p W hO hJ;change wpList _ _ _ _ _ _;go_wp2;exact j8 rfl rfl rfl hJ
              case o10 =>
                intro W hO hJ;rintro _ rfl;rintro _ rfl;change wpList _ _ _ _ _ _
                have hJ1 : SlIn w5 W w2.heap.size gL i cap2 (sls ++ [sl]):=hJ
                obtain ⟨hg0,hrow0⟩:=hJ1
                have HKw:=kp (HRB5.out.conf.grown hg0 (fun e => hLO (by cases e;rfl)))
                have HG0:=kp hg0;have HRow0:=kp hrow0
                clear hJ hO hg0 hrow0
                go_wp2_with ((with_reducible show Sn);go_must (refine j9 rfl 60 (.tmp 36) (.tmp 35) rfl gO 1 (.slice (some ⟨gL,0,none⟩) (i + 1) cap2) rfl rfl rfl rfl _ _ HKw.out (by simp) yU ?_);intro w7 hk7 hg7 hs7;have HFin:=kp (HRB5.out.slr_push HG0.out HRow0.out (.inl rfl) hk7 hg7 (by omega));have HOn:=kp (Only.of_grown (G:=fun k => k = gL ∨ k = gO) hg7 (.inr rfl));clear hk7 hg7 hs7)
                exact l8 rfl HOn.out ⟨_,_,HFin.out⟩
            case hend =>
              intro W hO hJ;rintro _ rfl;rintro _ rfl;rintro _ rfl;rintro _ rfl;rintro _ rfl;rintro _ rfl;rintro _ rfl;rintro _ ⟨gn,rfl,hbk,hng,hgk⟩;rintro _ rfl;rintro _ rfl
              simp only [ggiven,jJ,List.set]
              have hJ2 : SlDone W w2.heap.size gO gR A5 (i + 1) cap5 svs5 (sls ++ [sl]) q.ow:=hJ
              obtain ⟨A6,cap6,h6⟩:=hJ2
              have HRB6:=kp h6
              have HB6:=kp (HBe.out.trans (hO.below (B:=w2.heap.size) HBe.out.size (fun k hk => by have:=HNeO.out;rcases hk with rfl | rfl <;> omega)))
              clear hJ hO hbk h6
              go_wp2
              go_roundw
              case rel => exact ⟨i + 1,_,_,_,_,_,_,by omega,by go_num,HRB6.out,by rw [HSt5.out,HSt.out,List.take_add_one,HSvi.out,List.map_append];rfl,by rw [HSls.out,List.take_add_one,HSli.out];rfl,HB6.out⟩
              case measure => simp [intOf];omega
          · have HFull2:=kp hfull2
            clear hfull2
            apply jH 10 (.is _ :: .is _ :: .is _ :: .is _ :: .is _ :: .is _ :: .is (.agg (sl.map natV).toArray) :: Fact.elem 149 (sl.map natV) :: Fact.ownR 8 slV w2.heap.size 149 w5.heap.size (i + 1) (sls ++ [sl]) :: .is _ :: [])
              [[],[(0,27)],[],[(2,29)],[],[(3,30),(4,31)],[(5,32)],[(6,33)],[(1,28),(7,34)],[],[(9,36),(8,35)]]
              [(0,27),(1,28),(2,29),(3,30),(4,31),(5,32),(6,33),(7,34),(8,35),(9,36)] (by kernel_rfl) (by kernel_rfl) (by kernel_rfl) (by kernel_rfl) (by kernel_rfl)
            case hob =>
              refine ⟨?o0,?o1,?o2,?o3,?o4,?o5,?o6,?o7,?o8,?o9,trivial⟩
              case o0 => intro W hW;change wpList _ _ _ _ _ _;go_wp2;exact j0 rfl rfl rfl
              case o1 =>
                intro W hW;rintro _ rfl;change wpList _ _ _ _ _ _
                have hc:=(HRB5.out.conf.below hW hgO5).cell 1
                simp only [List.getElem?_cons_zero,List.getElem?_cons_succ] at hc
                go_wp2;exact j0 rfl rfl rfl
              case o2 => intro W hW;change wpList _ _ _ _ _ _;go_wp2;exact j0 rfl rfl rfl
              case o3 =>
                intro W hW;rintro _ rfl;change wpList _ _ _ _ _ _
                have hc:=(HK15.out.below hW hg15).cell 1
                rw [HE.out] at hc
                simp only [List.getElem?_cons_zero,List.getElem?_cons_succ] at hc
                go_wp2;exact j0 rfl rfl rfl
              case o4 => intro W hW;change wpList _ _ _ _ _ _;go_wp2;exact j0 rfl rfl rfl
              case o5 => intro W hW;rintro _ rfl;rintro _ rfl;change wpList _ _ _ _ _ _;go_wp2;exact j0 rfl rfl rfl
              case o6 =>
                intro W hW;rintro _ rfl;change wpList _ _ _ _ _ _
                have HCs:=kp (HCs5.out W hW)
                clear hW
                go_wp2_with ((with_reducible show Sl 33);go_must (refine qY rfl 149 (.tmp 32) rfl (ad2.add (i * 8)) rfl (sl.map natV) _ HCs.out Try.underlying149 rfl (by rw [List.length_map,HSl8.out];exact yZ) ?_))
                exact j0 rfl rfl rfl
              case o7 =>
                intro W hW;rintro _ rfl;change wpList _ _ _ _ _ _
                clear hW
                go_wp2_with ((with_reducible show Sl 34);go_must (refine jI rfl 60 149 (.tmp 33) rfl 8 Try.underlying60 xV (by omega) (by omega) _ (sl.map natV) rfl rfl (by rw [List.length_map];exact HSl8.out) ?_);intro g6 w6 hg6 hk6 hb6;have HK6:=kp hk6;have HB6:=kp hb6;clear hk6 hb6)
                exact jG rfl rfl rfl HB6.out ⟨g6,rfl,HK6.out⟩
              case o8 =>
                intro W hW;rintro _ rfl;rintro _ ⟨gn,rfl,hbk⟩;change wpList _ _ _ _ _ _
                have HBk : Kept (Blk W gn 149 ((List.range 8).map (slV sl))):=kp (by rw [slC HSl8.out];exact hbk)
                have HOw:=kp (HRB5.out.below hW (Nat.le_refl _)).slr
                have hWs:=hW.size
                clear hW hbk
                go_wp2_with (at_builtin;go_must (refine lU rfl (.tmp 28) (.tmp 34) 60 rfl w2.heap.size 149 8 _ 64 Try.underlying60 xZ rfl (by omega) slV uR A2 cap2 i sls HLn.out.2 sl rfl HOw.out HFull2.out gn 1 rfl HBk.out (by unfold maxLen;omega) (by omega) (by omega) ?_);intro g6 c6 w6 hown6 hb6 hg6)
                exact jG rfl rfl rfl hb6 ⟨g6,c6,rfl,hown6,by omega⟩
              case o9 => intro W hW;change wpList _ _ _ _ _ _;go_wp2;exact j0 rfl rfl rfl
            case hend =>
              intro W hW;rintro _ rfl;rintro _ rfl;rintro _ rfl;rintro _ rfl;rintro _ rfl;rintro _ rfl;rintro _ rfl;rintro _ ⟨gn,rfl,hbk⟩;rintro _ ⟨gV,cV,rfl,hrow6,hgV⟩;rintro _ rfl
              simp only [given,jJ,List.set,List.drop]
              have HKw:=kp (HRB5.out.conf.below hW hgO5)
              have HBw:=kp (HBe.out.trans (hW.mono HBe.out.size))
              have HRow6:=kp hrow6
              have hWs:=hW.size
              have HGr:=kp (jT hW (Value.slice A2 i cap2).ownBlock)
              clear hW hbk hrow6
              go_wp2_with (first
                | ((with_reducible show Sn);go_must (refine j9 rfl 60 (.tmp 36) (.tmp 35) rfl gO 1 (.slice (some ⟨gV,0,none⟩) (i + 1) cV) rfl rfl rfl rfl _ _ HKw.out (by simp) yU ?_);intro w9 hk9 hg9 hs9
                   have HRB6:=kp (HRB5.out.slr_push HGr.out HRow6.out (.inr hgV) hk9 hg9 (by omega));have HB6:=kp (HBw.out.grown hg9 HBw.out.size (fun k e => by cases e;exact HNeO.out))
                   clear hk9 hg9 hs9))
              go_wp2
              go_roundw
              case rel => exact ⟨i + 1,_,_,_,_,_,_,by omega,by go_num,HRB6.out,by rw [HSt5.out,HSt.out,List.take_add_one,HSvi.out,List.map_append];rfl,by rw [HSls.out,List.take_add_one,HSli.out];rfl,HB6.out⟩
              case measure => simp [intOf];omega
      · have HFull:=kp hfull
        clear hfull
        apply jH 12 (.is _ :: .is _ :: Fact.empty w2.heap.size wr.heap.size :: .is _ :: .is _ :: .is _ :: .is _ :: .is _ :: Fact.stk w2.heap.size wr.heap.size x :: Fact.one1 w2.heap.size wr.heap.size x :: Fact.stks w2.heap.size wr.heap.size i svs x :: .is _ :: [])
          [[],[(0,15)],[],[],[(3,18)],[],[(4,19),(5,20)],[(6,21)],[(2,17),(7,22)],[(8,23)],[(1,16),(9,24)],[],[(11,26),(10,25)]]
          [(0,15),(1,16),(2,17),(3,18),(4,19),(5,20),(6,21),(7,22),(8,23),(9,24),(10,25),(11,26)] (by kernel_rfl) (by kernel_rfl) (by kernel_rfl) (by kernel_rfl) (by kernel_rfl)
        case hob =>
          refine ⟨?o0,?o1,?o2,?o3,?o4,?o5,?o6,?o7,?o8,?o9,?o10,?o11,trivial⟩
          case o0 => intro W hW;change wpList _ _ _ _ _ _;go_wp2;exact j0 rfl rfl rfl
          case o1 =>
            intro W hW;rintro _ rfl;change wpList _ _ _ _ _ _
            have hc:=(HRB.out.conf.below hW hgO).cell 0
            rw [List.getElem?_cons_zero] at hc
            go_wp2;exact j0 rfl rfl rfl
          case o2 =>
            intro W hW;change wpList _ _ _ _ _ _
            have hbs:=hW.size
            clear hW
            have HB5:=kp ((Below.refl W.heap.size W).alloc (Nat.le_refl _) (.cells #[] 147))
            go_wp2
            exact jG rfl rfl rfl HB5.out ⟨W.heap.size,rfl,OwnR.empty _ _ _ _ _ (by omega),hbs⟩
          case o3 => intro W hW;change wpList _ _ _ _ _ _;go_wp2;exact j0 rfl rfl rfl
          case o4 =>
            intro W hW;rintro _ rfl;change wpList _ _ _ _ _ _
            have hc:=(HK1.out.below hW hg1).cell 0
            rw [HE.out,List.getElem?_cons_zero] at hc
            go_wp2;exact j0 rfl rfl rfl
          case o5 => intro W hW;change wpList _ _ _ _ _ _;go_wp2;exact j0 rfl rfl rfl
          case o6 => intro W hW;rintro _ rfl;rintro _ rfl;change wpList _ _ _ _ _ _;go_wp2;exact j0 rfl rfl rfl
          case o7 =>
            intro W hW;rintro _ rfl;change wpList _ _ _ _ _ _
            have hc:=((HB.out.trans (hW.mono hBs)).cell (p:=ad.add i) (by rw [add_block];omega)).trans HC0.out
            go_wp2;exact j0 rfl rfl rfl
          case o8 =>
            intro W hW;rintro _ ⟨g2,rfl,hown2,hgk2⟩;rintro _ rfl;change wpList _ _ _ _ _ _
            have HOw2:=kp hown2
            have HRw:=kp (HX.out.row.below (HB.out.trans (hW.mono hBs)))
            have hbs:=hW.size
            clear hW hown2
            go_wp2_with (at_builtin;go_must (refine xE rfl (.tmp 17) (.tmp 22) 148 rfl w2.heap.size 147 2 _ 16 Try.underlying148 xP rfl (by omega) frV yL g2 rfl HOw2.out x.A x.len x.cap w2.heap.size x.stack rfl HRw.out (by unfold maxLen;omega) (by omega) (by omega) ?_);intro g6 c6 w6 hown6 hb6 hg6;have HOw6:=kp hown6;have HB6:=kp hb6;clear hown6 hb6)
            exact jG rfl rfl rfl HB6.out ⟨g6,c6,rfl,HOw6.out,by omega⟩
          case o9 =>
            intro W hW;rintro _ ⟨g8,c8,rfl,hown8,hgk8⟩;change wpList _ _ _ _ _ _
            have HOw8:=kp hown8
            clear hW hown8
            have HB5:=kp ((Below.refl W.heap.size W).alloc (Nat.le_refl _) (.cells #[Value.slice (some ⟨g8,0,none⟩) x.len c8] 148))
            go_wp2
            exact jG rfl rfl rfl HB5.out ⟨W.heap.size,g8,c8,rfl,Blk.newA W _ _ [.slice (some ⟨g8,0,none⟩) x.len c8] rfl,HOw8.out.below HB5.out (Nat.le_refl _),hgk8⟩
          case o10 =>
            intro W hW;rintro _ rfl;rintro _ ⟨gn,g8,c8,rfl,hbk,hown8,hgk8⟩;change wpList _ _ _ _ _ _
            have HBk:=kp hbk;have HOw8:=kp hown8;have hl8:=(hown8.block g8 rfl).2
            have HOw:=kp (HRB.out.below hW (Nat.le_refl _)).row
            have hWs:=hW.size
            clear hW hbk hown8
            go_wp2_with (at_builtin;go_must (refine lU rfl (.tmp 16) (.tmp 24) 59 rfl w2.heap.size 148 1 _ 24 Try.underlying59 zA rfl (by omega) svR XQ A cap i svs HLn.out.1 ⟨some ⟨g8,0,none⟩,x.len,c8,x.stack⟩ rfl HOw.out HFull.out gn 1 rfl HBk.out (by unfold maxLen;omega) (by omega) (by omega) ?_);intro g6 c6 w6 hown6 hb6 hg6)
            exact jG rfl rfl rfl hb6 ⟨g8,c8,g6,c6,rfl,hown6,HOw8.out.below hb6 (Nat.le_refl _),hgk8,by omega,by omega⟩
          case o11 => intro W hW;change wpList _ _ _ _ _ _;go_wp2;exact j0 rfl rfl rfl
        case hend =>
          intro W hW;rintro _ rfl;rintro _ rfl;rintro _ ⟨g2,rfl,hown2,_⟩;rintro _ rfl;rintro _ rfl;rintro _ rfl;rintro _ rfl;rintro _ rfl;rintro _ ⟨g8,c8,rfl,hown8,_⟩;rintro _ ⟨gn,g8b,c8b,rfl,hbk,hown8b,_⟩;rintro _ ⟨g,c,gV,cV,rfl,hrow6,hown6,hgk6,hgV,hne6⟩;rintro _ rfl
          simp only [given,jJ,List.set,List.drop]
          have HKw:=kp (HRB.out.conf.below hW hgO)
          have HBw:=kp (HB.out.trans (hW.mono hBs))
          have HRow6:=kp hrow6;have HOw6:=kp hown6
          have hWs:=hW.size
          have HGr:=kp (jT hW (Value.slice A i cap).ownBlock)
          clear hW hbk hown2 hown8 hown8b hown6 hrow6
          go_wp2_with (first
            | ((with_reducible show Sn);go_must (refine j9 rfl 59 (.tmp 26) (.tmp 25) rfl gO 0 (.slice (some ⟨gV,0,none⟩) (i + 1) cV) rfl rfl rfl rfl _ _ HKw.out (by simp) JC ?_);intro w7 hk7 hg7 hs7
               have HFin:=kp (HRB.out.row_push (sv:=⟨some ⟨g,0,none⟩,x.len,c,x.stack⟩) HGr.out HRow6.out (.inr hgV) HOw6.out (fun b e => by cases e;exact ⟨hgk6,fun e2 => hne6 e2.symm⟩) hk7 hg7 (by omega));have HBe:=kp (HBw.out.grown hg7 HBw.out.size (fun k e => by cases e;exact HNeO.out))
               have HK15:=kp (HK12.out.below HBe.out hl12)
               clear hk7 hg7 hs7))
          obtain ⟨A5,cap5,svs5,h5,hst5⟩ : StkDone w7 w2.heap.size gO gR (i + 1) (svs.map (·.stack) ++ [x.stack]) A2 i cap2 sls q.ow:=⟨_,_,_,HFin.out,by rw [List.map_append];rfl⟩
          have HRB5:=kp h5;have HSt5:=kp hst5
          clear h5 hst5
          simp only [xA]
          go_wp2
          have HCs5 : Kept (∀ W,Below w7.heap.size w7 W → ∀ j v,(sl.map natV)[j]? = some v → W.cell? ((ad2.add (i * 8)).add j) = some v):=kp (fun W hW j v hj => by
            have h8:=HSl8.out
            have hj8 : j < 8:=by have:=(List.getElem?_eq_some_iff.1 hj).1;rw [List.length_map] at this;omega
            have hv : v = .int .i64 ((sl.getD j 0 : Nat) : Int):=by
              rw [List.getElem?_map,List.getElem?_eq_getElem (by omega)] at hj
              rw [List.getD_eq_getElem?_getD,List.getElem?_eq_getElem (by omega)]
              exact (Option.some.inj hj).symm
            rw [add_add,hv]
            exact ((HBe.out.trans (hW.mono HBe.out.size)).cell (by rw [add_block];omega)).trans (HSlc.out j hj8))
          have hgO5:=HRB5.out.conf.lt;have hg15:=HK15.out.lt
          have hBs5:=HBe.out.size
          rcases HRB5.out.slr.room_or with ⟨gL,hL,hroom2⟩ | hfull2
          · subst hL
            have hLO : gL ≠ gO:=(HRB5.out.ne2 gL rfl).1
            have hLb:=HRB5.out.slr.block gL rfl
            have hgO2:=HNeO.out
            apply q7 (fun k => k = gL ∨ k = gO) [8,10] [0,1,2,3,4,5,6,7] (phs ([fun W => Below w7.heap.size w7 W,fun W => SlIn w7 W w2.heap.size gL i cap2 (sls ++ [sl]),fun W => SlDone W w2.heap.size gO gR A5 (i + 1) cap5 svs5 (sls ++ [sl]) q.ow] : List (World → Prop))) (.is _ :: .is _ :: .is _ :: .is _ :: .is _ :: .is _ :: .is (.agg (sl.map natV).toArray) :: GFact.elem _ 149 (sl.map natV) w7.heap.size :: .is _ :: .is _ :: .any _ :: [])
              [[],[(0,27)],[],[(2,29)],[],[(3,30),(4,31)],[(5,32)],[(6,33)],[(1,28),(7,34)],[],[(9,36),(8,35)]]
              [(0,27),(1,28),(2,29),(3,30),(4,31),(5,32),(6,33),(7,34),(8,35),(9,36)] (by kernel_rfl) (by kernel_rfl) (by kernel_rfl) (by kernel_rfl) (by decide)
            case h0 => exact (⟨rfl,rfl,rfl,Nat.le_refl _,fun _ _ => rfl⟩ : Below w7.heap.size w7 w7.drew)
            case hob =>
              refine jB rfl rfl ?o0 (jB rfl rfl ?o1 (jB rfl rfl ?o2 (jB rfl rfl ?o3 (jB rfl rfl ?o4 (jB rfl rfl ?o5 (jB rfl rfl ?o6 (jB rfl rfl ?o7 (lQ 0 rfl rfl ?o8 (lI rfl rfl ?o9 (lQ 1 rfl rfl ?o10 (xJ)))))))))))
              case o0 => intro W hO hJ;change wpList _ _ _ _ _ _;go_wp2;exact j8 rfl rfl rfl hJ
              case o1 =>
                intro W hO hJ;rintro _ rfl;change wpList _ _ _ _ _ _
                have hb : Below w7.heap.size w7 W:=hJ
                have hc:=(HRB5.out.conf.below hb hgO5).cell 1
                simp only [List.getElem?_cons_zero,List.getElem?_cons_succ] at hc
                clear hb
                go_wp2;exact j8 rfl rfl rfl hJ
              case o2 => intro W hO hJ;change wpList _ _ _ _ _ _;go_wp2;exact j8 rfl rfl rfl hJ
              case o3 =>
                intro W hO hJ;rintro _ rfl;change wpList _ _ _ _ _ _
                have hb : Below w7.heap.size w7 W:=hJ
                have hc:=(HK15.out.below hb hg15).cell 1
                rw [HE.out] at hc
                simp only [List.getElem?_cons_zero,List.getElem?_cons_succ] at hc
                clear hb
                go_wp2;exact j8 rfl rfl rfl hJ
              case o4 => intro W hO hJ;change wpList _ _ _ _ _ _;go_wp2;exact j8 rfl rfl rfl hJ
              case o5 => intro W hO hJ;rintro _ rfl;rintro _ rfl;change wpList _ _ _ _ _ _;go_wp2;exact j8 rfl rfl rfl hJ
              case o6 =>
                intro W hO hJ;rintro _ rfl;change wpList _ _ _ _ _ _
                have hb : Below w7.heap.size w7 W:=hJ
                have HCs:=kp (HCs5.out W hb)
                clear hb
                go_wp2_with ((with_reducible show Sl 33);go_must (refine qY rfl 149 (.tmp 32) rfl (ad2.add (i * 8)) rfl (sl.map natV) _ HCs.out Try.underlying149 rfl (by rw [List.length_map,HSl8.out];exact yZ) ?_))
                exact j8 rfl rfl rfl hJ
              case o7 =>
                intro W hO hJ;rintro _ rfl;change wpList _ _ _ _ _ _
                have hb : Below w7.heap.size w7 W:=hJ
                have HBw:=kp hb
                have hbs:=hb.size
                clear hJ hb hO
                go_wp2_with ((with_reducible show Sl 34);go_must (refine jI rfl 60 149 (.tmp 33) rfl 8 Try.underlying60 xV (by omega) (by omega) _ (sl.map natV) rfl rfl (by rw [List.length_map];exact HSl8.out) ?_);intro g6 w6 hg6 hk6 hb6;have HK6:=kp hk6;have HB6:=kp hb6;clear hk6 hb6)
                exact lP rfl rfl rfl (Only.of_below HB6.out) (HBw.out.trans (HB6.out.mono hbs)) ⟨g6,rfl,HK6.out,by omega,by omega⟩
              case o8 =>
                intro W hO hJ;rintro _ rfl;rintro _ ⟨gn,rfl,hbk,hng,hgk⟩;change wpList _ _ _ _ _ _
                have hb : Below w7.heap.size w7 W:=hJ
                have HBw:=kp hb
                have HBk : Kept (Blk W gn 149 ((List.range 8).map (slV sl))):=kp (by rw [slC HSl8.out];exact hbk)
                have HOw:=kp (HRB5.out.below hb (Nat.le_refl _)).slr
                clear hJ hO hb hbk
                go_wp2_with (at_builtin;go_must (refine jZ rfl (.tmp 28) (.tmp 34) 60 rfl w2.heap.size 149 8 _ 64 Try.underlying60 xZ rfl (by omega) slV uR gL cap2 i sls HLn.out.2 sl rfl HOw.out hroom2 gn 1 rfl HBk.out (by omega) ?_);intro w6 hown6 hgr6)
                exact lP rfl rfl rfl (Only.of_grown hgr6 (.inl rfl)) ⟨lE (jT HBw.out _) hgr6,hown6⟩ rfl
              case o9 => intro p W hO hJ;change wpList _ _ _ _ _ _;go_wp2;exact j8 rfl rfl rfl hJ
              case o10 =>
                intro W hO hJ;rintro _ rfl;rintro _ rfl;change wpList _ _ _ _ _ _
                have hJ1 : SlIn w7 W w2.heap.size gL i cap2 (sls ++ [sl]):=hJ
                obtain ⟨hg0,hrow0⟩:=hJ1
                have HKw:=kp (HRB5.out.conf.grown hg0 (fun e => hLO (by cases e;rfl)))
                have HG0:=kp hg0;have HRow0:=kp hrow0
                clear hJ hO hg0 hrow0
                go_wp2_with ((with_reducible show Sn);go_must (refine j9 rfl 60 (.tmp 36) (.tmp 35) rfl gO 1 (.slice (some ⟨gL,0,none⟩) (i + 1) cap2) rfl rfl rfl rfl _ _ HKw.out (by simp) yU ?_);intro w7 hk7 hg7 hs7;have HFin:=kp (HRB5.out.slr_push HG0.out HRow0.out (.inl rfl) hk7 hg7 (by omega));have HOn:=kp (Only.of_grown (G:=fun k => k = gL ∨ k = gO) hg7 (.inr rfl));clear hk7 hg7 hs7)
                exact l8 rfl HOn.out ⟨_,_,HFin.out⟩
            case hend =>
              intro W hO hJ;rintro _ rfl;rintro _ rfl;rintro _ rfl;rintro _ rfl;rintro _ rfl;rintro _ rfl;rintro _ rfl;rintro _ ⟨gn,rfl,hbk,hng,hgk⟩;rintro _ rfl;rintro _ rfl
              simp only [ggiven,jJ,List.set]
              have hJ2 : SlDone W w2.heap.size gO gR A5 (i + 1) cap5 svs5 (sls ++ [sl]) q.ow:=hJ
              obtain ⟨A6,cap6,h6⟩:=hJ2
              have HRB6:=kp h6
              have HB6:=kp (HBe.out.trans (hO.below (B:=w2.heap.size) HBe.out.size (fun k hk => by have:=HNeO.out;rcases hk with rfl | rfl <;> omega)))
              clear hJ hO hbk h6
              go_wp2
              go_roundw
              case rel => exact ⟨i + 1,_,_,_,_,_,_,by omega,by go_num,HRB6.out,by rw [HSt5.out,HSt.out,List.take_add_one,HSvi.out,List.map_append];rfl,by rw [HSls.out,List.take_add_one,HSli.out];rfl,HB6.out⟩
              case measure => simp [intOf];omega
          · have HFull2:=kp hfull2
            clear hfull2
            apply jH 10 (.is _ :: .is _ :: .is _ :: .is _ :: .is _ :: .is _ :: .is (.agg (sl.map natV).toArray) :: Fact.elem 149 (sl.map natV) :: Fact.ownR 8 slV w2.heap.size 149 w7.heap.size (i + 1) (sls ++ [sl]) :: .is _ :: [])
              [[],[(0,27)],[],[(2,29)],[],[(3,30),(4,31)],[(5,32)],[(6,33)],[(1,28),(7,34)],[],[(9,36),(8,35)]]
              [(0,27),(1,28),(2,29),(3,30),(4,31),(5,32),(6,33),(7,34),(8,35),(9,36)] (by kernel_rfl) (by kernel_rfl) (by kernel_rfl) (by kernel_rfl) (by kernel_rfl)
            case hob =>
              refine ⟨?o0,?o1,?o2,?o3,?o4,?o5,?o6,?o7,?o8,?o9,trivial⟩
              case o0 => intro W hW;change wpList _ _ _ _ _ _;go_wp2;exact j0 rfl rfl rfl
              case o1 =>
                intro W hW;rintro _ rfl;change wpList _ _ _ _ _ _
                have hc:=(HRB5.out.conf.below hW hgO5).cell 1
                simp only [List.getElem?_cons_zero,List.getElem?_cons_succ] at hc
                go_wp2;exact j0 rfl rfl rfl
              case o2 => intro W hW;change wpList _ _ _ _ _ _;go_wp2;exact j0 rfl rfl rfl
              case o3 =>
                intro W hW;rintro _ rfl;change wpList _ _ _ _ _ _
                have hc:=(HK15.out.below hW hg15).cell 1
                rw [HE.out] at hc
                simp only [List.getElem?_cons_zero,List.getElem?_cons_succ] at hc
                go_wp2;exact j0 rfl rfl rfl
              case o4 => intro W hW;change wpList _ _ _ _ _ _;go_wp2;exact j0 rfl rfl rfl
              case o5 => intro W hW;rintro _ rfl;rintro _ rfl;change wpList _ _ _ _ _ _;go_wp2;exact j0 rfl rfl rfl
              case o6 =>
                intro W hW;rintro _ rfl;change wpList _ _ _ _ _ _
                have HCs:=kp (HCs5.out W hW)
                clear hW
                go_wp2_with ((with_reducible show Sl 33);go_must (refine qY rfl 149 (.tmp 32) rfl (ad2.add (i * 8)) rfl (sl.map natV) _ HCs.out Try.underlying149 rfl (by rw [List.length_map,HSl8.out];exact yZ) ?_))
                exact j0 rfl rfl rfl
              case o7 =>
                intro W hW;rintro _ rfl;change wpList _ _ _ _ _ _
                clear hW
                go_wp2_with ((with_reducible show Sl 34);go_must (refine jI rfl 60 149 (.tmp 33) rfl 8 Try.underlying60 xV (by omega) (by omega) _ (sl.map natV) rfl rfl (by rw [List.length_map];exact HSl8.out) ?_);intro g6 w6 hg6 hk6 hb6;have HK6:=kp hk6;have HB6:=kp hb6;clear hk6 hb6)
                exact jG rfl rfl rfl HB6.out ⟨g6,rfl,HK6.out⟩
              case o8 =>
                intro W hW;rintro _ rfl;rintro _ ⟨gn,rfl,hbk⟩;change wpList _ _ _ _ _ _
                have HBk : Kept (Blk W gn 149 ((List.range 8).map (slV sl))):=kp (by rw [slC HSl8.out];exact hbk)
                have HOw:=kp (HRB5.out.below hW (Nat.le_refl _)).slr
                have hWs:=hW.size
                clear hW hbk
                go_wp2_with (at_builtin;go_must (refine lU rfl (.tmp 28) (.tmp 34) 60 rfl w2.heap.size 149 8 _ 64 Try.underlying60 xZ rfl (by omega) slV uR A2 cap2 i sls HLn.out.2 sl rfl HOw.out HFull2.out gn 1 rfl HBk.out (by unfold maxLen;omega) (by omega) (by omega) ?_);intro g6 c6 w6 hown6 hb6 hg6)
                exact jG rfl rfl rfl hb6 ⟨g6,c6,rfl,hown6,by omega⟩
              case o9 => intro W hW;change wpList _ _ _ _ _ _;go_wp2;exact j0 rfl rfl rfl
            case hend =>
              intro W hW;rintro _ rfl;rintro _ rfl;rintro _ rfl;rintro _ rfl;rintro _ rfl;rintro _ rfl;rintro _ rfl;rintro _ ⟨gn,rfl,hbk⟩;rintro _ ⟨gV,cV,rfl,hrow6,hgV⟩;rintro _ rfl
              simp only [given,jJ,List.set,List.drop]
              have HKw:=kp (HRB5.out.conf.below hW hgO5)
              have HBw:=kp (HBe.out.trans (hW.mono HBe.out.size))
              have HRow6:=kp hrow6
              have hWs:=hW.size
              have HGr:=kp (jT hW (Value.slice A2 i cap2).ownBlock)
              clear hW hbk hrow6
              go_wp2_with (first
                | ((with_reducible show Sn);go_must (refine j9 rfl 60 (.tmp 36) (.tmp 35) rfl gO 1 (.slice (some ⟨gV,0,none⟩) (i + 1) cV) rfl rfl rfl rfl _ _ HKw.out (by simp) yU ?_);intro w9 hk9 hg9 hs9
                   have HRB6:=kp (HRB5.out.slr_push HGr.out HRow6.out (.inr hgV) hk9 hg9 (by omega));have HB6:=kp (HBw.out.grown hg9 HBw.out.size (fun k e => by cases e;exact HNeO.out))
                   clear hk9 hg9 hs9))
              go_wp2
              go_roundw
              case rel => exact ⟨i + 1,_,_,_,_,_,_,by omega,by go_num,HRB6.out,by rw [HSt5.out,HSt.out,List.take_add_one,HSvi.out,List.map_append];rfl,by rw [HSls.out,List.take_add_one,HSli.out];rfl,HB6.out⟩
              case measure => simp [intOf];omega
    · have hge : n ≤ i:=by omega
      have hie : i = n:=by omega
      subst hie
      have HCf : Kept ((⟨A,cap,svs,A2,cap2,sls,i,q.ow⟩ : Rc).cf = q.cf ∧ sls = q.sls):=kp (by
        have h1 : sls = q.sls:=by rw [HSls.out,List.take_of_length_le (by rw [HSll.out];exact Nat.le_refl _)]
        exact ⟨zip_maps (by rw [HSt.out,List.take_of_length_le (by rw [HSvl.out];exact Nat.le_refl _)]) h1,h1⟩)
      have HKRr:=kp (HKR2.out.below HB.out hlR2)
      have HM:=kp HRB.out.mine
      have HKOr:=kp HRB.out.conf
      have HL18 : Kept ((rcC ⟨A,cap,svs,A2,cap2,sls,i,q.ow⟩).length = 18):=kp (l9 H16.out)
      clear hlt
      go_wp2_with (first
        | ((with_reducible show Sl 37);go_must (refine j4 rfl 63 (.tmp 3) rfl gO rfl _ (rcC ⟨A,cap,svs,A2,cap2,sls,i,q.ow⟩) _ HKOr.out Try.underlying63 rfl (by rw [HL18.out];exact jA) ?_))
        | ((with_reducible show Sn);go_must (refine j5 rfl 63 (.tmp 2) (.tmp 37) rfl gR (rcC ⟨A,cap,svs,A2,cap2,sls,i,q.ow⟩) rfl rfl _ _ HKRr.out (by rw [HL18.out];exact jA) (by rw [HL18.out];rfl) (lL _) ?_);intro w8 hk8 hg8 hs8
           have HK8:=kp hk8;have HM8:=kp (HM.out.far hg8 (.inl hlR2));have HB8:=kp ((HW2.out.trans (HB.out.mono hs2)).grown hg8 (by omega) (fun k e => by cases e;omega));clear hk8 hg8 hs8)
        | ((with_reducible show bodyPost _ _ _ _ _ _);exact bodyPost_ret (jP (P:=Try.prog) (fn:=Try.f73) rfl _ _ gR 63 _ _ rfl HK8.out Try.underlying63 rfl (by rw [HL18.out];exact jA)) rfl ⟨⟨A,cap,svs,A2,cap2,sls,i,q.ow⟩,rfl,⟨HM8.out.row.less hs2,HM8.out.slr.less hs2,⟨fun k x hx => (HM8.out.fam.own k x hx).less hs2,HM8.out.fam.out,HM8.out.fam.apart⟩,HM8.out.ne⟩,HCf.out.1,HN.out.symm,rfl,HCf.out.2,HB8.out⟩))
end Go.Proofs.Ytcbfghcdbmlneaa
