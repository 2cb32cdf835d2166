/- SemRk9, SemR7, SemR8, RaceRun. -/
import Derived.Test.YtcbfghcdbmlneaaPk24
import Derived.Test.YtcbfghcdbmlneaaPk25
import Derived.Test.YtcbfghcdbmlneaaSemRk5
import Derived.Test.YtcbfghcdbmlneaaSemRk7
import Derived.Test.YtcbfghcdbmlneaaSemRk8t
import Derived.Test.YtcbfghcdbmlneaaPk19
import Derived.Test.YtcbfghcdbmlneaaPk16
namespace Go.Proofs.Ytcbfghcdbmlneaa
open Go.RowKit
set_option maxRecDepth 100000 in
set_option maxHeartbeats 8000000 in
theorem rs_step_9 (B : Nat) (p : Pg) (hf : Fine p) (q : Rc) (w : World) (hp : p.Ok w B) (hq : q.Ok w B) (hg : M.Good p q.cf) (hB : B ≤ w.heap.size) (k : Nat) (way : Bool) (hlv : M.livesN q.cf k = true) (hen : M.enabled p q.cf (k : Int) = true) (x : Nd) (hx : M.node p q.cf k = x) (hk : x.kind = 9) :
    Calls Try.prog 50 #[rcA q,pgA p,.agg #[.int .i64 (k : Int),.bool way]] w (StepR w (M.act q.cf k x way)):=by
  obtain ⟨fn,hfn,_,_⟩:=M.node_is hg hlv
  have hfit:=M.node_fit hf hg hlv hfn
  rw [hx] at hfit
  obtain ⟨nx,hnx⟩ : ∃ nx : Nat,x.next = (nx : Int):=⟨x.next.toNat,by have:=hfit.next;omega⟩
  obtain ⟨ar,har⟩ : ∃ ar : Nat,x.arg = (ar : Int):=⟨x.arg.toNat,by have:=hfit.arg;omega⟩
  obtain ⟨al,hal⟩ : ∃ al : Nat,x.alt = (al : Int):=⟨x.alt.toNat,by have:=hfit.alt;omega⟩
  have HNx:=kp hnx;have HAr:=kp har;have HAl:=kp hal;have HFit:=kp hfit
  have hlv2:=hlv
  unfold M.livesN at hlv2
  rw [decide_eq_true_eq] at hlv2
  have HLv:=kp hlv;have HLv2:=kp hlv2;have HX:=kp hx;have HEn:=kp hen
  have hkl : k < q.len:=by rw [← hq.len];exact M.lives_lt hlv
  have HIk : Kept (I64 (k : Int)):=kp (by have h1:=hg.most;have h2:=hq.len;unfold I64;omega)
  clear hfn hfit hnx har hal hlv hlv2 hx hen
  have hb9 : (x.kind == 9) = true:=by rw [beq_iff_eq];exact hk
  have hb3 : (x.kind == 3) = false:=by rw [beq_eq_false_iff_ne];omega
  have hb4 : (x.kind == 4) = false:=by rw [beq_eq_false_iff_ne];omega
  have hb5 : (x.kind == 5) = false:=by rw [beq_eq_false_iff_ne];omega
  have hb7 : (x.kind == 7) = false:=by rw [beq_eq_false_iff_ne];omega
  have hb8 : (x.kind == 8) = false:=by rw [beq_eq_false_iff_ne];omega
  have HF:=kp hf;have HG:=kp hg
  have HPr:=kp hp;have HQ:=kp hq
  have hB2:=hB
  have h8 : q.len ≤ 8:=by rw [← hq.len];exact hg.most
  have HLow:=kp (qP hf hp.row.len hg hq);have HSl8:=kp (yO hg hq)
  have H16:=kp (show q.ow.length = 16 from hg.owns)
  have HQ18:=kp (l9 hg.owns)
  clear hf hg hp hq hB
  rw [q8,jL]
  unfold StepR
  go_enter Try.func50,Try.ntmps50
  go_wp2_with (first
    | ((with_reducible refine j6 rfl 63 (.tmp 0) rfl (rcC q) rfl ?_);intro g3 w1 hg3 hk1 hw1;have HK3a:=kp hk1;have HW1:=kp hw1;have hs1:=hw1.size;have hl3a:=hk1.lt;have HGa:=kp hg3;clear hk1 hw1 hg3)
    | ((with_reducible refine j6 rfl 46 (.tmp 1) rfl (pgC p) rfl ?_);intro g4 w2 hg4 hk2 hw2;have HK4b:=kp hk2;have HK3b:=kp (HK3a.out.below hw2 hl3a);have HW2:=kp (HW1.out.trans (hw2.mono hs1));have hs2:=HW2.out.size;have hl4b:=hk2.lt;have hl3b:=HK3b.out.lt;clear hk2 hw2 hg4)
    | ((with_reducible refine j6 rfl 56 (.tmp 2) rfl [.int .i64 (k : Int),.bool way] rfl ?_);intro g5 w3 hg5 hk3 hw3;have HK5c:=kp hk3;have HK4c:=kp (HK4b.out.below hw3 hl4b);have HK3c:=kp (HK3b.out.below hw3 hl3b);have HW3:=kp (HW2.out.trans (hw3.mono hs2));have hs3:=HW3.out.size;have hl5c:=hk3.lt;have hl4c:=HK4c.out.lt;have hl3c:=HK3c.out.lt;clear hk3 hw3 hg5)
    | ((with_reducible show Sl 6);go_must (refine j7 rfl 63 rfl _ lB ?_);intro gR w4 hgR hk4 hw4
       have HGR : Kept (w.heap.size ≤ gR):=kp (by omega)
       have HKR4:=kp hk4;have HK5:=kp (HK5c.out.below hw4 hl5c);have HK4:=kp (HK4c.out.below hw4 hl4c);have HK3:=kp (HK3c.out.below hw4 hl3c);have HW4:=kp (HW3.out.trans (hw4.mono hs3));have hs4:=HW4.out.size
       have hlR4:=hk4.lt;have hl5:=HK5.out.lt;have hl4:=HK4.out.lt;have hl3:=HK3.out.lt
       clear hk4 hw4 hgR HK3a HK3b HK3c HK4b HK4c HK5c HW1 HW2 HW3 hl3a hl3b hl3c hl4b hl4c hl5c hs1 hs2 hs3)
    | ((with_reducible show Sl 11);go_must (refine j4 rfl 63 (.tmp 3) rfl g3 rfl _ (rcC q) _ HK3.out Try.underlying63 rfl (by rw [HQ18.out];exact jA) ?_))
    | (go_at_call 73;go_must (refine (xM q w4 ((HQ.out.below (HW4.out.mono hB2)).more (by omega)) h8 H16.out HLow.out HSl8.out).mono ?_);rintro e w5 ⟨q1,rfl,hm5,hcf5,hlen5,how5,hsls5,hb5⟩
       have HM5:=kp hm5;have HCf5:=kp hcf5;have HLn5:=kp hlen5;have HOw5:=kp how5;have HSls5:=kp hsls5;have HB5:=kp hb5;have hs5:=hb5.size
       have HR18 : Kept ((rcC q1).length = 18):=kp (l9 (by rw [how5];exact H16.out))
       clear hm5 hcf5 hlen5 how5 hsls5 hb5)
    | ((with_reducible show Sl 7);go_must (refine j7 rfl 63 rfl _ lB ?_);intro gO w6 hgO hk6 hw6;have HKO6:=kp hk6;have HGO:=kp hgO;have HB6:=kp (HB5.out.trans (hw6.mono hs5));have HB56:=kp hw6;have hs6:=HB6.out.size;have hs56:=hw6.size;clear hk6 hw6 hgO)
    | ((with_reducible show Sn);(refine j5 rfl 63 (.tmp 7) (.tmp 12) rfl gO (rcC q1) rfl rfl _ _ HKO6.out (by rw [HR18.out];exact jA) (by rw [HR18.out];rfl) (lL _) ?_);intro w7 hk7 hg7 hs7'
       have HKO:=kp hk7;have hlO:=hk7.lt;have HB57:=kp (HB56.out.grown hg7 hs56 (fun k e => by cases e;have:=HGO.out;omega));have HB7:=kp (HB5.out.trans (HB57.out.mono hs5));have hs7:=HB7.out.size
       have HRB:=kp (HM5.out.rb HB57.out hk7 (by have:=HGO.out;omega) hlR4 hs5)
       have HM7:=kp (HM5.out.below HB57.out (Nat.le_refl _))
       have HW7:=kp (HW4.out.trans (HB7.out.mono hs4));have hsw7:=HW7.out.size
       have HK57:=kp (HK5.out.below HB7.out hl5);have HK47:=kp (HK4.out.below HB7.out hl4);have HK37:=kp (HK3.out.below HB7.out hl3);have HKR7:=kp (HKR4.out.below HB7.out hlR4)
       have hl57:=HK57.out.lt;have hl47:=HK47.out.lt;have hl37:=HK37.out.lt;have hlR7:=HKR7.out.lt
       have hc5:=HK57.out.cell 0
       simp only [List.getElem?_cons_zero] at hc5
       clear hk7 hg7 hs7' HKO6 HB6 HB56 hs6 hs56 HM5)
    | ((with_reducible show Sl 13);go_must (refine j4 rfl 63 (.tmp 3) rfl g3 rfl _ (rcC q) _ HK37.out Try.underlying63 rfl (by rw [HQ18.out];exact jA) ?_))
    | ((with_reducible show Sl 14);go_must (refine j4 rfl 46 (.tmp 4) rfl g4 rfl _ (pgC p) _ HK47.out Try.underlying46 rfl jF ?_))
    | (go_at_call 74;go_must (refine (qH B p HF.out q w7 (HPr.out.below (HW7.out.mono hB2)) (HQ.out.below (HW7.out.mono hB2)) HG.out (by omega) (k : Int) HIk.out true HEn.out).mono ?_);rintro e w8 ⟨rfl,hb8⟩
       have HB8:=kp hb8;have hs8:=hb8.size
       have HW8:=kp (HW7.out.trans (hb8.mono hsw7));have hsw8:=HW8.out.size
       have HK58:=kp (HK57.out.below hb8 hl57);have HK48:=kp (HK47.out.below hb8 hl47);have HK38:=kp (HK37.out.below hb8 hl37);have HKR8:=kp (HKR7.out.below hb8 hlR7)
       have hl58:=HK58.out.lt;have hl48:=HK48.out.lt;have hl38:=HK38.out.lt;have hlR8:=HKR8.out.lt
       have HRB8:=kp (HRB.out.below hb8 (Nat.le_refl _));have HM8:=kp (HM7.out.below hb8 (Nat.le_refl _));have HKO8:=kp (HKO.out.below hb8 hlO)
       clear hb8 hc5
       have hc5:=HK58.out.cell 0
       simp only [List.getElem?_cons_zero] at hc5)
    | ((with_reducible show Sl 22);go_must (refine j4 rfl 63 (.tmp 3) rfl g3 rfl _ (rcC q) _ HK38.out Try.underlying63 rfl (by rw [HQ18.out];exact jA) ?_))
    | ((with_reducible show Sl 23);go_must (refine j4 rfl 46 (.tmp 4) rfl g4 rfl _ (pgC p) _ HK48.out Try.underlying46 rfl jF ?_))
    | (go_at_call 72;go_must (refine (xO B p HF.out q w8 (HPr.out.below (HW8.out.mono hB2)) (HQ.out.below (HW8.out.mono hB2)) HG.out (by omega) k HLv.out x HX.out).mono ?_);rintro e w9 ⟨rfl,hb9⟩;have HB9:=kp hb9;have hs9:=hb9.size;clear hb9 hc5)
    | ((with_reducible show Sl 9);go_must (refine j7 rfl 97 rfl _ qE ?_);intro gN w10 hgN hk10 hw10;have HKN10:=kp hk10;have HGN:=kp hgN;have HB10:=kp (HB9.out.trans (hw10.mono hs9));have hs10:=HB10.out.size;clear hk10 hw10 hgN)
    | ((with_reducible show Sn);(refine j5 rfl 97 (.tmp 9) (.tmp 25) rfl gN (ndC x) rfl rfl _ _ HKN10.out jO rfl (x6 x) ?_);intro w11 hk11 hg11 hs11'
       have HKN:=kp hk11;have hlN:=hk11.lt;have HB811:=kp (HB10.out.grown hg11 hs10 (fun k e => by cases e;have:=HGN.out;omega));have hs811:=HB811.out.size
       have HB11:=kp (HB7.out.trans ((HB8.out.trans (HB811.out.mono hs8)).mono hs7));have hs11:=HB11.out.size
       have HRB11:=kp (HRB8.out.below HB811.out (Nat.le_refl _));have HKR11:=kp (HKR8.out.below HB811.out hlR8);have HK511:=kp (HK58.out.below HB811.out hl58);have hl511:=HK511.out.lt
       have HG1:=kp (show M.Good p q1.cf by rw [HCf5.out];exact HG.out)
       have hlR11:=HKR11.out.lt
       obtain ⟨gA,cur,s,hA,hbA,hsk,hck,hAO,hAR,hBA,hkc,hnc,hcm,hsl,hsc,hsm⟩:=HRB11.out.thread (show k < q1.len by rw [HLn5.out];exact hkl)
       have hslk : ∃ sl,q1.sls[k]? = some sl:=⟨_,List.getElem?_eq_getElem (by rw [HRB11.out.len.2,HLn5.out];exact hkl)⟩
       obtain ⟨sl,hslk⟩:=hslk
       have hth : M.th q1.cf k = ⟨s.stack,sl⟩:=M.th_is (by unfold Rc.cf;rw [List.getElem?_zipWith,hsk,hslk])
       have hs0 : 0 < s.len:=by have h:=HLv2.out;rw [← HCf5.out,hth] at h;rw [← hsl];exact h
       have hlen16 : s.len ≤ 1000:=qP HF.out HPr.out.row.len HG1.out HM8.out.ok s (List.mem_of_getElem? hsk)
       obtain ⟨gK,curK,hsA,hbK,hlK,hKO,hKR,hBK,hgK,hput⟩:=HRB11.out.goes hsk hs0
       obtain ⟨sA,sn,sc,sst⟩:=s
       obtain ⟨mm,rfl⟩ : ∃ mm,sn = mm + 1:=⟨sn - 1,by have : 0 < sn:=hs0;omega⟩
       have hsA2 : sA = some ⟨gK,0,none⟩:=hsA
       subst hsA2
       have HA:=kp hA;have HbA:=kp hbA;have HSk:=kp hsk;have HCk:=kp hck;have HTh:=kp hth;have HbK:=kp hbK;have HPut:=kp hput;have HSlk:=kp hslk;have HSl:=kp hsl
       have HNeA:=kp (And.intro hAO (And.intro hAR hBA));have HNeK:=kp (And.intro hKO (And.intro hKR hBK));have HlK:=kp hlK;have Hkc:=kp hkc
       have hlA:=hbA.lt
       have hlen17 : mm + 1 ≤ 1000:=hlen16
       have hsc1 : mm + 1 ≤ sc:=hsc
       have hsm1 : sc ≤ maxLen:=hsm
       have HEO : Kept (q1.A = some ⟨gA,0,none⟩):=kp hA
       have hcO : w11.cell? ⟨gO,0,none⟩ = some (.slice (some ⟨gA,0,none⟩) q1.len q1.cap):=by have h:=HRB11.out.conf.cell 0;rw [hA] at h;exact h
       have hcA : w11.cell? ⟨gA,k,none⟩ = some (.slice (some ⟨gK,0,none⟩) (mm + 1) sc):=(hbA.cell k).trans hck
       have hcN:=HKN.out.cell 0
       simp only [ndC,List.getElem?_cons_zero] at hcN
       have hkl1 : k < q1.len:=by rw [HLn5.out];exact hkl
       have h81 : q1.len ≤ 8:=by rw [HLn5.out];exact h8
       unfold maxLen at hcm hsm1
       clear hk11 hg11 hs11' hA hbA hsk hck hth hslk hs0 hlen16 hsA hbK hput hAO hAR hBA hKO hKR hBK hsl hsc hsm hlK hkc HKN10 HB9 HB10 hs9 hs10))
  have hlO11:=HRB11.out.conf.lt
  apply jH 13 (.is _ :: .is _ :: .is _ :: Fact.empty w4.heap.size w11.heap.size :: .is _ :: .is _ :: .is _ :: .is _ :: .is (.slice (some ⟨gK,0,none⟩) (mm + 1) sc) :: .is (.int .i64 (mm : Int)) :: .is (.slice (some ⟨gK,0,none⟩) mm sc) :: Fact.stk w4.heap.size w11.heap.size ⟨none,mm,0,sst.take mm⟩ :: .is _ :: [])
    [[],[(0,36)],[],[],[],[(4,40)],[],[(5,41),(6,42)],[(7,43)],[],[(8,44),(9,45)],[(3,39),(10,46)],[(1,37),(2,38)],[(12,48),(11,47)]]
    [(0,36),(1,37),(2,38),(3,39),(4,40),(5,41),(6,42),(7,43),(8,44),(9,45),(10,46),(11,47),(12,48)] (by kernel_rfl) (by kernel_rfl) (by kernel_rfl) (by kernel_rfl) (by kernel_rfl)
  case hob =>
    refine ⟨?o0,?o1,?o2,?o3,?o4,?o5,?o6,?o7,?o8,?o9,?o10,?o11,?o12,trivial⟩
    case o0 => intro W hW;change wpList _ _ _ _ _ _;go_wp2;exact j0 rfl rfl rfl
    case o1 =>
      intro W hW;rintro _ rfl;change wpList _ _ _ _ _ _
      have hc:=(HRB11.out.conf.below hW hlO11).cell 0
      rw [HEO.out] at hc
      have hc2 : W.cell? ⟨gO,0,none⟩ = some (.slice (some ⟨gA,0,none⟩) q1.len q1.cap):=hc
      clear hc
      go_wp2;exact j0 rfl rfl rfl
    case o2 => intro W hW;change wpList _ _ _ _ _ _;go_wp2;exact j0 rfl rfl rfl
    case o3 =>
      intro W hW;change wpList _ _ _ _ _ _
      have hbs:=hW.size
      clear hW
      have HB5:=kp ((Below.refl W.heap.size W).alloc (Nat.le_refl _) (.cells #[] 147))
      go_wp2
      exact jG rfl rfl rfl HB5.out ⟨W.heap.size,rfl,OwnR.empty _ _ _ _ _ (by omega),hbs⟩
    case o4 => intro W hW;change wpList _ _ _ _ _ _;go_wp2;exact j0 rfl rfl rfl
    case o5 =>
      intro W hW;rintro _ rfl;change wpList _ _ _ _ _ _
      have hc:=(HRB11.out.conf.below hW hlO11).cell 0
      rw [HEO.out] at hc
      have hc2 : W.cell? ⟨gO,0,none⟩ = some (.slice (some ⟨gA,0,none⟩) q1.len q1.cap):=hc
      clear hc
      go_wp2;exact j0 rfl rfl rfl
    case o6 => intro W hW;change wpList _ _ _ _ _ _;go_wp2;exact j0 rfl rfl rfl
    case o7 => intro W hW;rintro _ rfl;rintro _ rfl;change wpList _ _ _ _ _ _;go_wp2;exact j0 rfl rfl rfl
    case o8 =>
      intro W hW;rintro _ rfl;change wpList _ _ _ _ _ _
      have hc : W.cell? ⟨gA,k,none⟩ = some (.slice (some ⟨gK,0,none⟩) (mm + 1) sc):=((HbA.out.below hW hlA).cell k).trans HCk.out
      go_wp2;exact j0 rfl rfl rfl
    case o9 => intro W hW;change wpList _ _ _ _ _ _;go_wp2;exact j0 rfl rfl rfl
    case o10 => intro W hW;rintro _ rfl;rintro _ rfl;change wpList _ _ _ _ _ _;go_wp2;exact j0 rfl rfl rfl
    case o11 =>
      intro W hW;rintro _ ⟨g2,rfl,hown2,hgk2⟩;rintro _ rfl;change wpList _ _ _ _ _ _
      have HOw2:=kp hown2
      have HRw:=kp (((HRB11.out.fam.own k _ HSk.out).below hW (Nat.le_refl _)).recs.front (show mm ≤ mm + 1 by omega))
      have hbs:=hW.size
      clear hW hown2
      go_wp2_with (at_builtin;go_must (refine xE rfl (.tmp 39) (.tmp 46) 148 rfl w4.heap.size 147 2 _ 16 Try.underlying148 xP rfl (by omega) frV yL g2 rfl HOw2.out (some ⟨gK,0,none⟩) mm sc _ (sst.take mm) rfl HRw.out (by unfold maxLen;omega) (by omega) (by omega) ?_);intro g6 c6 w6 hown6 hb6 hg6;have HOw6:=kp hown6;have HB6:=kp hb6;clear hown6 hb6)
      exact jG rfl rfl rfl HB6.out ⟨g6,c6,rfl,HOw6.out,by omega⟩
    case o12 => intro W hW;rintro _ rfl;rintro _ rfl;change wpList _ _ _ _ _ _;go_wp2;exact j0 rfl rfl rfl
  case hend =>
    intro W hW;rintro _ rfl;rintro _ rfl;rintro _ rfl;rintro _ ⟨g2,rfl,hown2,_⟩;rintro _ rfl;rintro _ rfl;rintro _ rfl;rintro _ rfl;rintro _ rfl;rintro _ rfl;rintro _ rfl;rintro _ ⟨g8,c8,rfl,hown8,hgk8⟩;rintro _ rfl
    simp only [given,jJ,List.set,List.drop]
    have HbAw:=kp (HbA.out.below hW hlA)
    have HOw8:=kp hown8;have HGr8:=kp (jT hW (svV ⟨some ⟨gK,0,none⟩,mm + 1,sc,sst⟩).ownBlock)
    have HBW:=kp (HB11.out.trans (hW.mono hs11));have hsW:=HBW.out.size;have hsWW:=hW.size
    have HKRw:=kp (HKR11.out.below hW hlR11)
    clear hW hown2 hown8
    go_wp2_with (first
      | ((with_reducible show Sn);(refine j9 rfl 148 (.tmp 48) (.tmp 47) rfl gA k (.slice (some ⟨g8,0,none⟩) mm c8) rfl rfl rfl rfl _ _ HbAw.out Hkc.out zN ?_);intro w12 hk12 hg12 hs12
         have HRB12:=kp (HRB11.out.row_set (sv:=⟨some ⟨g8,0,none⟩,mm,c8,sst.take mm⟩) HEO.out HbA.out HSk.out HGr8.out HOw8.out (.inr fun b e => by cases e;exact hgk8) hk12 hg12 (by omega))
         have HB12:=kp (HBW.out.grown hg12 hsW (fun k e => by cases e;exact HNeA.out.2.2));have hs412:=HB12.out.size
         have HKR12:=kp (HKRw.out.grown hg12 (fun e => by cases e;exact HNeA.out.2.1 rfl))
         clear hk12 hg12 hs12
         have HKRz:=HKR12;have HKOz:=kp (show Blk w12 gO 63 (rcC ⟨q1.A,q1.cap,q1.svs.set k ⟨some ⟨g8,0,none⟩,mm,c8,sst.take mm⟩,q1.A2,q1.cap2,q1.sls,q1.len,q1.ow⟩) from HRB12.out.conf)
         have HMz:=kp (show RMine w12 w4.heap.size ⟨q1.A,q1.cap,q1.svs.set k ⟨some ⟨g8,0,none⟩,mm,c8,sst.take mm⟩,q1.A2,q1.cap2,q1.sls,q1.len,q1.ow⟩ from HRB12.out.mine)
         have HLz : Kept ((rcC ⟨q1.A,q1.cap,q1.svs.set k ⟨some ⟨g8,0,none⟩,mm,c8,sst.take mm⟩,q1.A2,q1.cap2,q1.sls,q1.len,q1.ow⟩).length = 18):=kp (l9 (by show (q1.ow).length = 16;(first | rw [List.length_set,HOw5.out] | rw [HOw5.out]);exact H16.out)))
      | ((with_reducible show Sl 49);go_must (refine j4 rfl 63 (.tmp 7) rfl gO rfl _ (rcC ⟨q1.A,q1.cap,q1.svs.set k ⟨some ⟨g8,0,none⟩,mm,c8,sst.take mm⟩,q1.A2,q1.cap2,q1.sls,q1.len,q1.ow⟩) _ HKOz.out Try.underlying63 rfl (by rw [HLz.out];exact jA) ?_))
      | ((with_reducible show Sn);(refine j5 rfl 63 (.tmp 6) (.tmp 49) rfl gR (rcC ⟨q1.A,q1.cap,q1.svs.set k ⟨some ⟨g8,0,none⟩,mm,c8,sst.take mm⟩,q1.A2,q1.cap2,q1.sls,q1.len,q1.ow⟩) rfl rfl _ _ HKRz.out (by rw [HLz.out];exact jA) (by rw [HLz.out];rfl) (lL _) ?_);intro wy hky hgy hsy
         have HKy:=kp hky;have HMy:=kp (HMz.out.far hgy (.inl hlR4));have HBy:=kp ((HW4.out.trans (HB12.out.mono hs4)).grown hgy (by omega) (fun k e => by cases e;have:=HGR.out;omega));clear hky hgy hsy)
      | ((with_reducible show bodyPost _ _ _ _ _ _);exact bodyPost_ret (jP (P:=Try.prog) (fn:=Try.f50) rfl _ _ gR 63 _ _ rfl HKy.out Try.underlying63 rfl (by rw [HLz.out];exact jA)) rfl ⟨_,rfl,HMy.out.lessR hs4,(by
            refine (vR (yX HSlk.out)).trans ?_
            have e : q.cf = ⟨List.zipWith (fun (s : Sv) l => (⟨s.stack,l⟩ : M.Th)) q1.svs q1.sls,q1.ow⟩:=HCf5.out.symm
            rw [act_9 hk,← HCf5.out,HTh.out,show sst.length = mm + 1 from HSl.out,Nat.add_sub_cancel]
            first | rfl | (rw [← HCf5.out];rfl)),HBy.out⟩))
theorem rs_step (B : Nat) (p : Pg) (hf : Fine p) (q : Rc) (w : World) (hp : p.Ok w B) (hq : q.Ok w B) (hg : M.Good p q.cf) (hB : B ≤ w.heap.size) (t : Int) (ht : I64 t) (way : Bool) :
    Calls Try.prog 50 #[rcA q,pgA p,.agg #[.int .i64 t,.bool way]] w (StepR w (M.step p q.cf t way)):=by
  cases hen : M.enabled p q.cf t with
  | false => rw [M.step_same hen];exact rs_step_no B p hf q w hp hq hg hB t ht way hen
  | true =>
    have h0:=(M.enabled_split hen).1
    obtain ⟨k,rfl⟩ : ∃ k : Nat,t = (k : Int):=⟨t.toNat,by omega⟩
    have henN : M.enabledN p q.cf k = true:=by have h:=(M.enabled_split hen).2;rwa [Int.toNat_natCast] at h
    have hlN:=M.enabled_lives henN
    obtain ⟨fn,hfn,_,_⟩:=M.node_is hg hlN
    have hfit:=(M.node_fit hf hg hlN hfn).kind
    have hst : M.step p q.cf (k : Int) way = M.act q.cf k (M.node p q.cf k) way:=by unfold M.step;rw [if_pos hen,Int.toNat_natCast]
    rw [hst]
    obtain ⟨x,hx⟩ : ∃ x,M.node p q.cf k = x:=⟨_,rfl⟩
    rw [hx] at hfit ⊢
    by_cases h9 : x.kind = 9
    · exact rs_step_9 B p hf q w hp hq hg hB k way hlN hen x hx h9
    by_cases h3 : x.kind = 3
    · exact rs_step_3 B p hf q w hp hq hg hB k way hlN hen x hx h3
    by_cases h4 : x.kind = 4
    · by_cases ho : q.ow.getD x.arg.toNat 0 = k + 1
      · exact rs_step_4y B p hf q w hp hq hg hB k way hlN hen x hx h4 ho
      · exact rs_step_4n B p hf q w hp hq hg hB k way hlN hen x hx h4 ho
    by_cases h5 : x.kind = 5
    · exact rs_step_5 B p hf q w hp hq hg hB k way hlN hen x hx h5
    by_cases h7 : x.kind = 7
    · exact rs_step_7 B p hf q w hp hq hg hB k way hlN hen x hx h7
    by_cases h8 : x.kind = 8
    · cases way with
      | false => exact rs_step_8f B p hf q w hp hq hg hB k false hlN hen x hx h8 rfl
      | true => exact rs_step_8t B p hf q w hp hq hg hB k true hlN hen x hx h8 rfl
    exact rs_step_go B p hf q w hp hq hg hB k way hlN hen x hx ⟨h3,h4,h5,h7,h8,h9⟩
theorem built_start (A : Option Addr) (n c : Nat) (A2 : Option Addr) (n2 c2 : Nat) : Try.prog.built 63 [(0,.slice A n c),(1,.slice A2 n2 c2)] = some (Value.slice A n c :: .slice A2 n2 c2 :: zeros 16).toArray:=by kernel_rfl
theorem start_ones (A : Option Addr) (n c : Nat) (A2 : Option Addr) (n2 c2 : Nat) : ∀ u ∈ Value.slice A n c :: .slice A2 n2 c2 :: zeros 16,u.oneCell' = true:=by
  intro u hu
  rcases List.mem_cons.1 hu with rfl | hu
  · rfl
  rcases List.mem_cons.1 hu with rfl | hu
  · rfl
  · rw [List.eq_of_mem_replicate hu];rfl
theorem zeros16 : zeros 16 = (List.replicate 16 0 : List Nat).map natV:=by rfl
theorem zeros8c : zeros 8 = cellsR 8 slV [List.replicate 8 0]:=by rfl
def rcOne (gF gM gZ : Nat) : Rc:=⟨some ⟨gM,0,none⟩,1,[⟨some ⟨gF,0,none⟩,1,1,[(0,0)]⟩],some ⟨gZ,0,none⟩,1,[List.replicate 8 0],1,List.replicate 16 0⟩
theorem YY (gF gM gZ : Nat) : rcC (rcOne gF gM gZ) = Value.slice (some ⟨gM,0,none⟩) 1 1 :: .slice (some ⟨gZ,0,none⟩) 1 1 :: zeros 16:=by unfold rcC rcOne;rw [zeros16]
theorem rcOne_mine {w : World} {B gF gM gZ : Nat} (hF : Blk w gF 147 [.int .i64 ((0 : Nat) : Int),.int .i64 0]) (hM : Blk w gM 148 [.slice (some ⟨gF,0,none⟩) 1 1]) (hZ : Blk w gZ 149 (zeros 8)) (h1 : B ≤ gF) (h2 : B ≤ gM) (h3 : B ≤ gZ) : RMine w B (rcOne gF gM gZ):=by
  have e1 : gF ≠ gM:=fun e => by subst e;exact jY hF hM (by decide)
  have e2 : gF ≠ gZ:=fun e => by subst e;exact jY hF hZ (by decide)
  have e3 : gM ≠ gZ:=fun e => by subst e;exact jY hM hZ (by decide)
  refine ⟨OwnR.of_blk hM h2 rfl (Nat.le_refl _) (show 1 ≤ maxLen by unfold maxLen;omega) rfl rfl,OwnR.of_blk hZ h3 rfl (Nat.le_refl _) (show 1 ≤ maxLen by unfold maxLen;omega) rfl (by rw [zeros8c];rfl),⟨fun k x hx => ?_,fun k x b hx hb hs => ?_,fun j k x y b hx hy hj hk => ?_⟩,fun b hb hb2 => ?_⟩
  · have hk : k = 0:=by have:=(List.getElem?_eq_some_iff.1 hx).1;simp [rcOne] at this;omega
    subst hk
    have e : x = ⟨some ⟨gF,0,none⟩,1,1,[(0,0)]⟩:=(Option.some.inj hx).symm
    subst e
    exact own_new hF h1
  · have hk : k = 0:=by have:=(List.getElem?_eq_some_iff.1 hx).1;simp [rcOne] at this;omega
    subst hk
    have e : x = ⟨some ⟨gF,0,none⟩,1,1,[(0,0)]⟩:=(Option.some.inj hx).symm
    subst e
    have eb : gF = b:=by injection hb
    rcases hs with hs | hs
    · have : gM = b:=by injection hs
      exact e1 (by omega)
    · have : gZ = b:=by injection hs
      exact e2 (by omega)
  · have hk1 : j = 0:=by have:=(List.getElem?_eq_some_iff.1 hx).1;simp [rcOne] at this;omega
    have hk2 : k = 0:=by have:=(List.getElem?_eq_some_iff.1 hy).1;simp [rcOne] at this;omega
    omega
  · have h4 : gM = b:=(by injection hb)
    have h5 : gZ = b:=(by injection hb2)
    exact e3 (by omega)
set_option maxRecDepth 100000 in
set_option maxHeartbeats 3200000 in
theorem rs_start (w : World) : Calls Try.prog 49 #[] w (StepR w M.start):=by
  unfold StepR
  go_enter Try.func49,Try.ntmps49
  go_wp2_with (first
    | ((with_reducible show Sl 0);go_must (refine j7 rfl 63 rfl _ lB ?_);intro gR w1 hgR hk1 hw1;have HKR1:=kp hk1;have HGR:=kp hgR;have HW1:=kp hw1;have hs1:=hw1.size;have hlR1:=hk1.lt;clear hk1 hw1 hgR)
    | ((with_reducible show Sl 2);go_must (refine jI rfl 148 147 (.tmp 1) rfl 2 Try.underlying148 zB (by omega) (by omega) _ [.int .i64 0,.int .i64 0] rfl rfl rfl ?_);intro gF w2 hgF hk2 hw2;have HF2:=kp hk2;have HgF:=kp (show w.heap.size ≤ gF by omega);have HW2:=kp (HW1.out.trans (hw2.mono hs1));have HKR2:=kp (HKR1.out.below hw2 hlR1);have hs2:=HW2.out.size;have hlF2:=hk2.lt;have hlR2:=HKR2.out.lt;clear hk2 hw2 hgF)
    | ((with_reducible show Sl 3);go_must (refine jI rfl 59 148 (.tmp 2) rfl 1 Try.underlying59 JV (by omega) (by omega) _ [.slice (some ⟨gF,0,none⟩) 1 1] rfl rfl rfl ?_);intro gM w3 hgM hk3 hw3;have HM3:=kp hk3;have HgM:=kp (show w.heap.size ≤ gM by omega);have HW3:=kp (HW2.out.trans (hw3.mono hs2));have HKR3:=kp (HKR2.out.below hw3 hlR2);have HF3:=kp (HF2.out.below hw3 hlF2);have hs3:=HW3.out.size;have hlF3:=HF3.out.lt;have hlM3:=hk3.lt;have hlR3:=HKR3.out.lt;clear hk3 hw3 hgM)
    | ((with_reducible show Sl 4);go_must (refine yF rfl 149 rfl (zeros 8) 8 3 Try.underlying149 XG JT ?_))
    | ((with_reducible show Sl 5);go_must (refine jI rfl 60 149 (.tmp 4) rfl 8 Try.underlying60 xV (by omega) (by omega) _ (zeros 8) rfl rfl rfl ?_);intro gZ w4 hgZ hk4 hw4;have HZ4:=kp hk4;have HgZ:=kp (show w.heap.size ≤ gZ by omega);have HW4:=kp (HW3.out.trans (hw4.mono hs3));have HKR4:=kp (HKR3.out.below hw4 hlR3);have HF4:=kp (HF3.out.below hw4 hlF3);have HM4:=kp (HM3.out.below hw4 hlM3);have hs4:=HW4.out.size;have HNR : Kept (gR ≠ gF ∧ gR ≠ gM ∧ gR ≠ gZ):=kp ⟨fun e => by rw [e] at HKR4;exact jY HKR4.out HF4.out (by decide),fun e => by rw [e] at HKR4;exact jY HKR4.out HM4.out (by decide),fun e => by rw [e] at HKR4;exact jY HKR4.out HZ4.out (by decide)⟩;clear hk4 hw4 hgZ)
    | ((with_reducible show Sl 6);go_must (refine LM rfl 63 0 1 (.tmp 3) (.tmp 5) rfl (.slice (some ⟨gM,0,none⟩) 1 1) (.slice (some ⟨gZ,0,none⟩) 1 1) rfl rfl (Value.slice (some ⟨gM,0,none⟩) 1 1 :: .slice (some ⟨gZ,0,none⟩) 1 1 :: zeros 16) (built_start _ _ _ _ _ _) ?_))
    | ((with_reducible show Sn);go_must (refine j5 rfl 63 (.tmp 0) (.tmp 6) rfl gR (Value.slice (some ⟨gM,0,none⟩) 1 1 :: .slice (some ⟨gZ,0,none⟩) 1 1 :: zeros 16) rfl rfl _ _ HKR4.out jA rfl (start_ones _ _ _ _ _ _) ?_);intro w5 hk5 hg5 hs5
       have HK5:=kp (show Blk w5 gR 63 (rcC (rcOne gF gM gZ)) from by rw [YY];exact hk5)
       have HMi:=kp (rcOne_mine (HF4.out.grown hg5 (fun e => by cases e;exact HNR.out.1 rfl)) (HM4.out.grown hg5 (fun e => by cases e;exact HNR.out.2.1 rfl)) (HZ4.out.grown hg5 (fun e => by cases e;exact HNR.out.2.2 rfl)) HgF.out HgM.out HgZ.out)
       have HW5:=kp (HW4.out.grown hg5 hs4 (fun k e => by cases e;exact HGR.out));clear hk5 hg5 hs5)
    | ((with_reducible show bodyPost _ _ _ _ _ _);exact bodyPost_ret (jP (P:=Try.prog) (fn:=Try.f49) rfl _ _ gR 63 _ _ rfl HK5.out Try.underlying63 rfl (by rw [l9 (q:=rcOne gF gM gZ) rfl];exact jA)) rfl ⟨rcOne gF gM gZ,rfl,HMi.out,rfl,HW5.out⟩))
def Fact.rsteppedR (K : Nat) (c : M.Cf) : Fact :=
  ⟨fun v W => ∃ q',v = rcA q' ∧ RMine W K q' ∧ q'.cf = c,fun _ _ _ hb ⟨q',h1,h2,h3⟩ => ⟨q',h1,h2.below hb (Nat.le_refl _),h3⟩⟩
theorem RMine.typed {w w' : World} {B g : Nat} {q : Rc} {cs : List Value} (h : RMine w B q) (hb : Blk w g 63 cs) (hg : w.grownBy w' (some g)) : RMine w' B q:=by
  have k1 : ∀ v : Value,(v.ownBlock ≠ some g) → v.ownBlock = none ∨ v.ownBlock ≠ some g:=fun v hv => .inr hv
  exact ⟨h.row.far hg (k1 _ (h.row.typed hb (by decide))),h.slr.far hg (k1 _ (h.slr.typed hb (by decide))),⟨fun k x hx => (h.fam.own k x hx).far hg (k1 _ ((h.fam.own k x hx).typed hb (by decide))),h.fam.out,h.fam.apart⟩,h.ne⟩
theorem XX (a : Act) (v : Value) : a.put none v = a:=rfl
theorem good_owr {p : Pg} {q : Rc} {c : M.Cf} (hg : M.Good p c) (h : q.cf = c) : q.ow.length = 16:=by subst h;exact hg.owns
set_option maxRecDepth 1000000 in
set_option maxHeartbeats 8000000 in
theorem ref_run (pg0 : Pg) (a1 : Option Addr) (len1 cap1 : Nat) (z1 : List (Int × Bool)) (w : World) (w0 : pg0.Ok w w.heap.size) (w1 : Picks w w.heap.size a1 len1 z1) (c1 : len1 ≤ cap1 ∧ cap1 ≤ maxLen) (hn : len1 ≤ 300) (hf : Fine pg0) :
    Calls Try.prog 23 #[pgA pg0,.slice a1 len1 cap1] w (StepR w (runTo pg0 z1 len1)):=by
  unfold StepR
  have HP:=kp w0
  have HPi:=kp w1
  have hc1:=c1.1;have hm1:=c1.2
  unfold maxLen at hm1
  clear w0 w1 c1
  have HF:=kp hf
  have HGd : Kept (∀ i,M.Good pg0 (runTo pg0 z1 i)):=kp (qA HF.out HP.out.row.len z1)
  clear hf
  rw [jL]
  go_enter Try.func23,Try.ntmps23
  go_wp2_with (first
    | ((with_reducible refine j6 rfl 46 (.tmp 0) rfl (pgC pg0) rfl ?_);intro g1 u1 hg1 hk1 hu1;have HK1:=kp hk1;have HG1:=kp hg1;have HU1:=kp hu1;have hz1:=hu1.size;have hl1:=hk1.lt;clear hg1 hk1 hu1)
    | ((with_reducible show Sl 4);go_must (refine j7 rfl 63 rfl _ lB ?_);intro gR u2 hgR hk2 hu2;have HKR2:=kp hk2;have HGR:=kp hgR;have HU2:=kp (HU1.out.trans (hu2.mono hz1));have HK12:=kp (HK1.out.below hu2 hl1);have hz2:=HU2.out.size;have hlR2:=hk2.lt;have hl12:=HK12.out.lt;clear hk2 hu2 hgR)
    | (go_at_call 49;fail))
  refine (rs_start u2).mono ?_
  unfold StepR
  rintro e u4 ⟨q0,rfl,hmi,hcf,hb4⟩
  have HMi4:=kp hmi;have HCf0:=kp hcf
  have H016 : Kept (q0.ow.length = 16):=kp (by have h : q0.ow = List.replicate 16 0:=congrArg M.Cf.owners hcf;rw [h];rfl)
  have H17:=kp (l9 H016.out)
  clear hcf
  have HU4:=kp (HU2.out.trans (hb4.mono hz2));have HK4:=kp (HK12.out.below hb4 hl12);have HKR4:=kp (HKR2.out.below hb4 hlR2);have hs4:=HU4.out.size;have hs24:=hb4.size;have hlk4:=HK4.out.lt;have hlR4:=HKR4.out.lt
  clear hmi hb4
  go_wp2_with (first
    | ((with_reducible show Sl 5);go_must (refine j7 rfl 63 rfl _ lB ?_);intro gC u5 hgC hk5 hu5;have HKc:=kp hk5;have HGC:=kp hgC;have HU5:=kp (HU4.out.trans (hu5.mono hs4));have HMi5:=kp (HMi4.out.below hu5 (Nat.le_refl _));have HK5:=kp (HK4.out.below hu5 hlk4);have HKR5:=kp (HKR4.out.below hu5 hlR4);have hs5:=HU5.out.size;have hlC:=hk5.lt;clear hk5 hu5 hgC)
    | ((with_reducible show Sn);(refine j5 rfl 63 (.tmp 5) (.tmp 7) rfl gC (rcC q0) rfl rfl _ _ HKc.out (by rw [H17.out];exact jA) (by rw [H17.out];rfl) (lL q0) ?_);intro u6 hk6 hg6 hs6'
       have HK26:=kp hk6;have HU6:=kp (HU5.out.grown hg6 hs5 (fun k e => by cases e;have:=HGC.out;omega));have hs6:=HU6.out.size
       have HK16:=kp (HK5.out.grown hg6 (fun e => by cases e;have:=HGC.out;omega));have HKR6:=kp (HKR5.out.grown hg6 (fun e => by cases e;have:=HGC.out;omega));have hlR6:=HKR6.out.lt
       have HMi6:=kp ((RMine.typed HMi5.out HKc.out hg6).lessR hz2)
       have HGw : Kept (w.heap.size ≤ g1 ∧ w.heap.size ≤ gC ∧ w.heap.size ≤ gR ∧ g1 ≠ gC ∧ gR ≠ gC):=kp ⟨by have:=HG1.out;omega,by have:=HGC.out;omega,by have:=HGR.out;omega,by have:=HGC.out;omega,by have:=HGC.out;omega⟩
       have HZl : Kept ((Value.slice none 0 0 :: .slice none 0 0 :: zeros 16 : List Value).length = 18):=kp rfl
       clear hk6 hg6 hs6'))
  go_loopw [6] (fun v wr => ∃ (i : Nat) (q : Rc),i ≤ len1 ∧ v = .int .i64 i ∧ RMine wr w.heap.size q ∧ q.cf = runTo pg0 z1 i ∧ Blk wr gC 63 (rcC q) ∧ Blk wr g1 46 (pgC pg0) ∧ (∃ cs,cs.length = 18 ∧ Blk wr gR 63 cs) ∧ Below w.heap.size w wr) (fun v _ => len1 - (intOf v).toNat)
  case atStart => exact ⟨0,q0,by omega,rfl,HMi6.out,by rw [vX];exact HCf0.out,HK26.out,HK16.out,⟨_,HZl.out,HKR6.out⟩,HU6.out⟩
  case round =>
    obtain ⟨i,q,hi,rfl,hmq,hcf,hkc,hkp,⟨csR,hlR,hkR⟩,hbl⟩:=hrel
    have HMq:=kp hmq;have HCf:=kp hcf;have HKC:=kp hkc;have HKP:=kp hkp;have HKR:=kp hkR;have HLR:=kp hlR;have HB:=kp hbl
    have HOq:=kp hmq.ok
    have hBs:=hbl.size;have hlC:=hkc.lt;have hlP:=hkp.lt;have hlRw:=hkR.lt
    have HPr:=kp (HP.out.below hbl)
    have H17:=kp (l9 (q:=q) (good_owr (HGd.out i) hcf))
    clear hmq hcf hkc hkp hkR hlR hbl
    by_cases hlt : i < len1
    · obtain ⟨ad,x,hA,hadB,hx,hx1,hcx0,hcx1⟩:=HPi.out.pick hlt
      have hadw : ad.block < wr.heap.size:=by omega
      have HX:=kp hx;have HX1:=kp hx1
      have HCx : Kept (wr.cell? (ad.add (i * 2)) = some (.int .i64 x.1) ∧ wr.cell? ⟨(ad.add (i * 2)).block,(ad.add (i * 2)).off + 1,none⟩ = some (.bool x.2)):=kp ⟨(HB.out.cell (by rw [add_block];exact hadB)).trans hcx0,(HB.out.cell (by rw [add_block];exact hadB)).trans hcx1⟩
      subst hA
      clear hx hx1 hcx0 hcx1
      go_wp2
      apply jH 7 (.is (rcA q) :: .is (pgA pg0) :: .is _ :: .is _ :: .is (.pointer (some (ad.add (i * 2)))) :: .is (.agg #[.int .i64 x.1,.bool x.2]) :: (.rsteppedR wr.heap.size (M.step pg0 q.cf x.1 x.2)) :: [])
        [[],[],[],[],[(2,16),(3,17)],[(4,18)],[(0,14),(1,15),(5,19)],[(6,20)]]
        [(0,14),(1,15),(2,16),(3,17),(4,18),(5,19),(6,20)] (by kernel_rfl) (by kernel_rfl) (by kernel_rfl) (by kernel_rfl) (by kernel_rfl)
      case hob =>
        refine ⟨?o0,?o1,?o2,?o3,?o4,?o5,?o6,trivial⟩
        case o0 =>
          intro W hW;change wpList _ _ _ _ _ _
          go_must (refine j4 rfl 63 (.tmp 5) rfl gC rfl _ (rcC q) _ (HKC.out.below hW hlC) Try.underlying63 rfl (by rw [H17.out];exact jA) ?_)
          go_wp2;exact j0 rfl rfl rfl
        case o1 =>
          intro W hW;change wpList _ _ _ _ _ _
          go_must (refine j4 rfl 46 (.tmp 2) rfl g1 rfl _ (pgC pg0) _ (HKP.out.below hW hlP) Try.underlying46 rfl jF ?_)
          go_wp2;exact j0 rfl rfl rfl
        case o2 => intro W hW;change wpList _ _ _ _ _ _;go_wp2;exact j0 rfl rfl rfl
        case o3 => intro W hW;change wpList _ _ _ _ _ _;go_wp2;exact j0 rfl rfl rfl
        case o4 => intro W hW;rintro _ rfl;rintro _ rfl;change wpList _ _ _ _ _ _;go_wp2;exact j0 rfl rfl rfl
        case o5 =>
          intro W hW;rintro _ rfl;change wpList _ _ _ _ _ _
          have hd0:=(hW.cell (p:=ad.add (i * 2)) (by rw [add_block];exact hadw)).trans HCx.out.1
          have hd1:=(hW.cell (p:=⟨(ad.add (i * 2)).block,(ad.add (i * 2)).off + 1,none⟩) (by rw [add_block];exact hadw)).trans HCx.out.2
          go_wp2;exact j0 rfl rfl rfl
        case o6 =>
          intro W hW;rintro _ rfl;rintro _ rfl;rintro _ rfl;change wpList _ _ _ _ _ _
          have hsW:=hW.size
          go_wp2_with fail
          refine (rs_step W.heap.size pg0 HF.out q W (xR (HPr.out.below (hW.mono hBs)) (show w.heap.size ≤ W.heap.size by omega)) ((HOq.out.below hW).more hsW) (by rw [HCf.out];exact HGd.out i) (Nat.le_refl _) x.1 HX1.out x.2).mono ?_
          unfold StepR
          rintro e w2 ⟨q',rfl,hm2,hcf2,hb2⟩
          have HB2:=kp hb2;have HM2:=kp hm2;have HC2:=kp hcf2;clear hb2 hm2 hcf2
          go_wp2
          exact jG rfl rfl rfl HB2.out ⟨q',rfl,HM2.out.lessR hsW,HC2.out⟩
      case hend =>
        intro W hW;rintro _ rfl;rintro _ rfl;rintro _ rfl;rintro _ rfl;rintro _ rfl;rintro _ rfl;rintro _ ⟨q1,rfl,hmi,hcf1⟩
        simp only [given,jJ,List.set,List.drop]
        have HW:=kp hW;have HMi:=kp (hmi.lessR hBs);have HCf1 : Kept (q1.cf = runTo pg0 z1 (i + 1)):=kp (by rw [hcf1,HCf.out,vY pg0 z1 i x HX.out])
        have H171:=kp (l9 (q:=q1) (good_owr (HGd.out (i + 1)) HCf1.out))
        have HKC2:=kp (HKC.out.below hW hlC);have HKP2:=kp (HKP.out.below hW hlP);have HKR2:=kp (HKR.out.below hW hlRw)
        have hsW:=hW.size
        have HsW : Kept (w.heap.size ≤ W.heap.size):=kp (by omega)
        clear hW hmi hcf1
        refine j5 rfl 63 (.tmp 5) (.tmp 20) rfl gC (rcC q1) rfl rfl _ _ HKC2.out (by rw [H171.out];exact jA) (by rw [H171.out,H17.out]) (lL q1) ?_
        intro u7 hk7 hg7 hs7
        have HK27:=kp hk7;have HM7:=kp (RMine.typed HMi.out HKC2.out hg7);have HB7:=kp ((HB.out.trans (HW.out.mono hBs)).grown hg7 HsW.out (fun k e => by cases e;exact HGw.out.2.1))
        have HKP7:=kp (HKP2.out.grown hg7 (fun e => by cases e;exact HGw.out.2.2.2.1 rfl));have HKR7:=kp (HKR2.out.grown hg7 (fun e => by cases e;exact HGw.out.2.2.2.2 rfl))
        clear hk7 hg7 hs7
        simp only [XX]
        go_wp2
        go_roundw
        case rel => exact ⟨i + 1,q1,by omega,by go_num,HM7.out,HCf1.out,HK27.out,HKP7.out,⟨_,HLR.out,HKR7.out⟩,HB7.out⟩
        case measure => simp [intOf];omega
    · have hge : len1 ≤ i:=by omega
      have HEnd : Kept (q.cf = runTo pg0 z1 len1):=kp (by rw [HCf.out,show i = len1 by omega])
      go_wp2_with (first
        | ((with_reducible show Sl 21);go_must (refine j4 rfl 63 (.tmp 5) rfl gC rfl _ (rcC q) _ HKC.out Try.underlying63 rfl (by rw [H17.out];exact jA) ?_))
        | ((with_reducible show Sn);(refine j5 rfl 63 (.tmp 4) (.tmp 21) rfl gR (rcC q) rfl rfl _ _ HKR.out (by rw [H17.out];exact jA) (by rw [H17.out,HLR.out]) (lL q) ?_);intro u7 hk7 hg7 hs7'
           have HKR7:=kp hk7;have HU7:=kp (HB.out.grown hg7 hBs (fun k e => by cases e;exact HGw.out.2.2.1))
           have HM7:=kp (RMine.typed HMq.out HKR.out hg7)
           clear hk7 hg7 hs7')
        | ((with_reducible show bodyPost _ _ _ _ _ _);exact bodyPost_ret (jP (P:=Try.prog) (fn:=Try.f23) rfl _ _ gR 63 _ _ rfl HKR7.out Try.underlying63 rfl (by rw [H17.out];exact jA)) rfl ⟨q,rfl,HM7.out,HEnd.out,HU7.out⟩))
end Go.Proofs.Ytcbfghcdbmlneaa
