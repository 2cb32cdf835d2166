/- SemRk4y, SemRk4n, SemRk8f. -/
import Derived.Test.YtcbfghcdbmlneaaPk24
namespace Go.Proofs.Ytcbfghcdbmlneaa
open Go.RowKit
set_option maxRecDepth 100000 in
set_option maxHeartbeats 8000000 in
theorem rs_step_4y (B : Nat) (p : Pg) (hf : Fine p) (q : Rc) (w : World) (hp : p.Ok w B) (hq : q.Ok w B) (hg : M.Good p q.cf) (hB : B ≤ w.heap.size) (k : Nat) (way : Bool) (hlv : M.livesN q.cf k = true) (hen : M.enabled p q.cf (k : Int) = true) (x : Nd) (hx : M.node p q.cf k = x) (hk : x.kind = 4) (how4 : q.ow.getD x.arg.toNat 0 = k + 1) :
    Calls Try.prog 50 #[rcA q,pgA p,.agg #[.int .i64 (k : Int),.bool way]] w (StepR w (M.act q.cf k x way)):=by
  obtain ⟨fn,hfn,_,_⟩:=M.node_is hg hlv
  have hfit:=M.node_fit hf hg hlv hfn
  rw [hx] at hfit
  obtain ⟨nx,hnx⟩ : ∃ nx : Nat,x.next = (nx : Int):=⟨x.next.toNat,by have:=hfit.next;omega⟩
  obtain ⟨ar,har⟩ : ∃ ar : Nat,x.arg = (ar : Int):=⟨x.arg.toNat,by have:=hfit.arg;omega⟩
  obtain ⟨al,hal⟩ : ∃ al : Nat,x.alt = (al : Int):=⟨x.alt.toNat,by have:=hfit.alt;omega⟩
  have HNx:=kp hnx;have HAr:=kp har;have HAl:=kp hal;have HFit:=kp hfit
  have hlv2:=hlv
  unfold M.livesN at hlv2
  rw [decide_eq_true_eq] at hlv2
  have HLv:=kp hlv;have HLv2:=kp hlv2;have HX:=kp hx;have HEn:=kp hen
  have hkl : k < q.len:=by rw [← hq.len];exact M.lives_lt hlv
  have HIk : Kept (I64 (k : Int)):=kp (by have h1:=hg.most;have h2:=hq.len;unfold I64;omega)
  clear hfn hfit hnx har hal hlv hlv2 hx hen
  have HOw4:=kp how4
  clear how4
  have hb4 : (x.kind == 4) = true:=by rw [beq_iff_eq];exact hk
  have hb3 : (x.kind == 3) = false:=by rw [beq_eq_false_iff_ne];omega
  have hb5 : (x.kind == 5) = false:=by rw [beq_eq_false_iff_ne];omega
  have hb7 : (x.kind == 7) = false:=by rw [beq_eq_false_iff_ne];omega
  have hb8 : (x.kind == 8) = false:=by rw [beq_eq_false_iff_ne];omega
  have hb9 : (x.kind == 9) = false:=by rw [beq_eq_false_iff_ne];omega
  have HF:=kp hf;have HG:=kp hg
  have HPr:=kp hp;have HQ:=kp hq
  have hB2:=hB
  have h8 : q.len ≤ 8:=by rw [← hq.len];exact hg.most
  have HLow:=kp (qP hf hp.row.len hg hq);have HSl8:=kp (yO hg hq)
  have H16:=kp (show q.ow.length = 16 from hg.owns)
  have HQ18:=kp (l9 hg.owns)
  clear hf hg hp hq hB
  rw [q8,jL]
  unfold StepR
  go_enter Try.func50,Try.ntmps50
  go_wp2_with (first
    | ((with_reducible refine j6 rfl 63 (.tmp 0) rfl (rcC q) rfl ?_);intro g3 w1 hg3 hk1 hw1;have HK3a:=kp hk1;have HW1:=kp hw1;have hs1:=hw1.size;have hl3a:=hk1.lt;have HGa:=kp hg3;clear hk1 hw1 hg3)
    | ((with_reducible refine j6 rfl 46 (.tmp 1) rfl (pgC p) rfl ?_);intro g4 w2 hg4 hk2 hw2;have HK4b:=kp hk2;have HK3b:=kp (HK3a.out.below hw2 hl3a);have HW2:=kp (HW1.out.trans (hw2.mono hs1));have hs2:=HW2.out.size;have hl4b:=hk2.lt;have hl3b:=HK3b.out.lt;clear hk2 hw2 hg4)
    | ((with_reducible refine j6 rfl 56 (.tmp 2) rfl [.int .i64 (k : Int),.bool way] rfl ?_);intro g5 w3 hg5 hk3 hw3;have HK5c:=kp hk3;have HK4c:=kp (HK4b.out.below hw3 hl4b);have HK3c:=kp (HK3b.out.below hw3 hl3b);have HW3:=kp (HW2.out.trans (hw3.mono hs2));have hs3:=HW3.out.size;have hl5c:=hk3.lt;have hl4c:=HK4c.out.lt;have hl3c:=HK3c.out.lt;clear hk3 hw3 hg5)
    | ((with_reducible show Sl 6);go_must (refine j7 rfl 63 rfl _ lB ?_);intro gR w4 hgR hk4 hw4
       have HGR : Kept (w.heap.size ≤ gR):=kp (by omega)
       have HKR4:=kp hk4;have HK5:=kp (HK5c.out.below hw4 hl5c);have HK4:=kp (HK4c.out.below hw4 hl4c);have HK3:=kp (HK3c.out.below hw4 hl3c);have HW4:=kp (HW3.out.trans (hw4.mono hs3));have hs4:=HW4.out.size
       have hlR4:=hk4.lt;have hl5:=HK5.out.lt;have hl4:=HK4.out.lt;have hl3:=HK3.out.lt
       clear hk4 hw4 hgR HK3a HK3b HK3c HK4b HK4c HK5c HW1 HW2 HW3 hl3a hl3b hl3c hl4b hl4c hl5c hs1 hs2 hs3)
    | ((with_reducible show Sl 11);go_must (refine j4 rfl 63 (.tmp 3) rfl g3 rfl _ (rcC q) _ HK3.out Try.underlying63 rfl (by rw [HQ18.out];exact jA) ?_))
    | (go_at_call 73;go_must (refine (xM q w4 ((HQ.out.below (HW4.out.mono hB2)).more (by omega)) h8 H16.out HLow.out HSl8.out).mono ?_);rintro e w5 ⟨q1,rfl,hm5,hcf5,hlen5,how5,hsls5,hb5⟩
       have HM5:=kp hm5;have HCf5:=kp hcf5;have HLn5:=kp hlen5;have HOw5:=kp how5;have HSls5:=kp hsls5;have HB5:=kp hb5;have hs5:=hb5.size
       have HR18 : Kept ((rcC q1).length = 18):=kp (l9 (by rw [how5];exact H16.out))
       clear hm5 hcf5 hlen5 how5 hsls5 hb5)
    | ((with_reducible show Sl 7);go_must (refine j7 rfl 63 rfl _ lB ?_);intro gO w6 hgO hk6 hw6;have HKO6:=kp hk6;have HGO:=kp hgO;have HB6:=kp (HB5.out.trans (hw6.mono hs5));have HB56:=kp hw6;have hs6:=HB6.out.size;have hs56:=hw6.size;clear hk6 hw6 hgO)
    | ((with_reducible show Sn);(refine j5 rfl 63 (.tmp 7) (.tmp 12) rfl gO (rcC q1) rfl rfl _ _ HKO6.out (by rw [HR18.out];exact jA) (by rw [HR18.out];rfl) (lL _) ?_);intro w7 hk7 hg7 hs7'
       have HKO:=kp hk7;have hlO:=hk7.lt;have HB57:=kp (HB56.out.grown hg7 hs56 (fun k e => by cases e;have:=HGO.out;omega));have HB7:=kp (HB5.out.trans (HB57.out.mono hs5));have hs7:=HB7.out.size
       have HRB:=kp (HM5.out.rb HB57.out hk7 (by have:=HGO.out;omega) hlR4 hs5)
       have HM7:=kp (HM5.out.below HB57.out (Nat.le_refl _))
       have HW7:=kp (HW4.out.trans (HB7.out.mono hs4));have hsw7:=HW7.out.size
       have HK57:=kp (HK5.out.below HB7.out hl5);have HK47:=kp (HK4.out.below HB7.out hl4);have HK37:=kp (HK3.out.below HB7.out hl3);have HKR7:=kp (HKR4.out.below HB7.out hlR4)
       have hl57:=HK57.out.lt;have hl47:=HK47.out.lt;have hl37:=HK37.out.lt;have hlR7:=HKR7.out.lt
       have hc5:=HK57.out.cell 0
       simp only [List.getElem?_cons_zero] at hc5
       clear hk7 hg7 hs7' HKO6 HB6 HB56 hs6 hs56 HM5)
    | ((with_reducible show Sl 13);go_must (refine j4 rfl 63 (.tmp 3) rfl g3 rfl _ (rcC q) _ HK37.out Try.underlying63 rfl (by rw [HQ18.out];exact jA) ?_))
    | ((with_reducible show Sl 14);go_must (refine j4 rfl 46 (.tmp 4) rfl g4 rfl _ (pgC p) _ HK47.out Try.underlying46 rfl jF ?_))
    | (go_at_call 74;go_must (refine (qH B p HF.out q w7 (HPr.out.below (HW7.out.mono hB2)) (HQ.out.below (HW7.out.mono hB2)) HG.out (by omega) (k : Int) HIk.out true HEn.out).mono ?_);rintro e w8 ⟨rfl,hb8⟩
       have HB8:=kp hb8;have hs8:=hb8.size
       have HW8:=kp (HW7.out.trans (hb8.mono hsw7));have hsw8:=HW8.out.size
       have HK58:=kp (HK57.out.below hb8 hl57);have HK48:=kp (HK47.out.below hb8 hl47);have HK38:=kp (HK37.out.below hb8 hl37);have HKR8:=kp (HKR7.out.below hb8 hlR7)
       have hl58:=HK58.out.lt;have hl48:=HK48.out.lt;have hl38:=HK38.out.lt;have hlR8:=HKR8.out.lt
       have HRB8:=kp (HRB.out.below hb8 (Nat.le_refl _));have HM8:=kp (HM7.out.below hb8 (Nat.le_refl _));have HKO8:=kp (HKO.out.below hb8 hlO)
       clear hb8 hc5
       have hc5:=HK58.out.cell 0
       simp only [List.getElem?_cons_zero] at hc5)
    | ((with_reducible show Sl 22);go_must (refine j4 rfl 63 (.tmp 3) rfl g3 rfl _ (rcC q) _ HK38.out Try.underlying63 rfl (by rw [HQ18.out];exact jA) ?_))
    | ((with_reducible show Sl 23);go_must (refine j4 rfl 46 (.tmp 4) rfl g4 rfl _ (pgC p) _ HK48.out Try.underlying46 rfl jF ?_))
    | (go_at_call 72;go_must (refine (xO B p HF.out q w8 (HPr.out.below (HW8.out.mono hB2)) (HQ.out.below (HW8.out.mono hB2)) HG.out (by omega) k HLv.out x HX.out).mono ?_);rintro e w9 ⟨rfl,hb9⟩;have HB9:=kp hb9;have hs9:=hb9.size;clear hb9 hc5)
    | ((with_reducible show Sl 9);go_must (refine j7 rfl 97 rfl _ qE ?_);intro gN w10 hgN hk10 hw10;have HKN10:=kp hk10;have HGN:=kp hgN;have HB10:=kp (HB9.out.trans (hw10.mono hs9));have hs10:=HB10.out.size;clear hk10 hw10 hgN)
    | ((with_reducible show Sn);(refine j5 rfl 97 (.tmp 9) (.tmp 25) rfl gN (ndC x) rfl rfl _ _ HKN10.out jO rfl (x6 x) ?_);intro w11 hk11 hg11 hs11'
       have HKN:=kp hk11;have hlN:=hk11.lt;have HB811:=kp (HB10.out.grown hg11 hs10 (fun k e => by cases e;have:=HGN.out;omega));have hs811:=HB811.out.size
       have HB11:=kp (HB7.out.trans ((HB8.out.trans (HB811.out.mono hs8)).mono hs7));have hs11:=HB11.out.size
       have HRB11:=kp (HRB8.out.below HB811.out (Nat.le_refl _));have HKR11:=kp (HKR8.out.below HB811.out hlR8);have HK511:=kp (HK58.out.below HB811.out hl58);have hl511:=HK511.out.lt
       have HG1:=kp (show M.Good p q1.cf by rw [HCf5.out];exact HG.out)
       have hlR11:=HKR11.out.lt
       obtain ⟨gA,cur,s,hA,hbA,hsk,hck,hAO,hAR,hBA,hkc,hnc,hcm,hsl,hsc,hsm⟩:=HRB11.out.thread (show k < q1.len by rw [HLn5.out];exact hkl)
       have hslk : ∃ sl,q1.sls[k]? = some sl:=⟨_,List.getElem?_eq_getElem (by rw [HRB11.out.len.2,HLn5.out];exact hkl)⟩
       obtain ⟨sl,hslk⟩:=hslk
       have hth : M.th q1.cf k = ⟨s.stack,sl⟩:=M.th_is (by unfold Rc.cf;rw [List.getElem?_zipWith,hsk,hslk])
       have hs0 : 0 < s.len:=by have h:=HLv2.out;rw [← HCf5.out,hth] at h;rw [← hsl];exact h
       have hlen16 : s.len ≤ 1000:=qP HF.out HPr.out.row.len HG1.out HM8.out.ok s (List.mem_of_getElem? hsk)
       obtain ⟨gK,curK,hsA,hbK,hlK,hKO,hKR,hBK,hgK,hput⟩:=HRB11.out.goes hsk hs0
       obtain ⟨sA,sn,sc,sst⟩:=s
       obtain ⟨mm,rfl⟩ : ∃ mm,sn = mm + 1:=⟨sn - 1,by have : 0 < sn:=hs0;omega⟩
       have hsA2 : sA = some ⟨gK,0,none⟩:=hsA
       subst hsA2
       have HA:=kp hA;have HbA:=kp hbA;have HSk:=kp hsk;have HCk:=kp hck;have HTh:=kp hth;have HbK:=kp hbK;have HPut:=kp hput;have HSlk:=kp hslk;have HSl:=kp hsl
       have HNeA:=kp (And.intro hAO (And.intro hAR hBA));have HNeK:=kp (And.intro hKO (And.intro hKR hBK));have HlK:=kp hlK;have Hkc:=kp hkc
       have hlA:=hbA.lt
       have hlen17 : mm + 1 ≤ 1000:=hlen16
       have hsc1 : mm + 1 ≤ sc:=hsc
       have hsm1 : sc ≤ maxLen:=hsm
       have HEO : Kept (q1.A = some ⟨gA,0,none⟩):=kp hA
       have hcO : w11.cell? ⟨gO,0,none⟩ = some (.slice (some ⟨gA,0,none⟩) q1.len q1.cap):=by have h:=HRB11.out.conf.cell 0;rw [hA] at h;exact h
       have hcA : w11.cell? ⟨gA,k,none⟩ = some (.slice (some ⟨gK,0,none⟩) (mm + 1) sc):=(hbA.cell k).trans hck
       have hcN:=HKN.out.cell 0
       simp only [ndC,List.getElem?_cons_zero] at hcN
       have hkl1 : k < q1.len:=by rw [HLn5.out];exact hkl
       have h81 : q1.len ≤ 8:=by rw [HLn5.out];exact h8
       unfold maxLen at hcm hsm1
       clear hk11 hg11 hs11' hA hbA hsk hck hth hslk hs0 hlen16 hsA hbK hput hAO hAR hBA hKO hKR hBK hsl hsc hsm hlK hkc HKN10 HB9 HB10 hs9 hs10))
  have hlO11:=HRB11.out.conf.lt
  have HNeRO : Kept (gR ≠ gO):=kp (by have h1:=HGO.out;have h2:=hlR4;omega)
  apply jH 10 (.is _ :: .is _ :: .is _ :: .is _ :: .is _ :: .is _ :: .is _ :: .is _ :: .is _ :: .is _ :: [])
    [[],[(0,50)],[],[(1,51),(2,52)],[(3,53)],[],[],[(6,56)],[(4,54),(5,55)],[(8,58)],[(9,59),(7,57)]]
    [(0,50),(1,51),(2,52),(3,53),(4,54),(5,55),(6,56),(7,57),(8,58),(9,59)] (by kernel_rfl) (by kernel_rfl) (by kernel_rfl) (by kernel_rfl) (by kernel_rfl)
  case hob =>
    refine ⟨?o0,?o1,?o2,?o3,?o4,?o5,?o6,?o7,?o8,?o9,trivial⟩
    case o0 => intro W hW;change wpList _ _ _ _ _ _;go_wp2;exact j0 rfl rfl rfl
    case o1 =>
      intro W hW;rintro _ rfl;change wpList _ _ _ _ _ _
      have hc:=(HRB11.out.conf.below hW hlO11).cell 0
      rw [HEO.out] at hc
      have hc2 : W.cell? ⟨gO,0,none⟩ = some (.slice (some ⟨gA,0,none⟩) q1.len q1.cap):=hc
      clear hc
      go_wp2;exact j0 rfl rfl rfl
    case o2 => intro W hW;change wpList _ _ _ _ _ _;go_wp2;exact j0 rfl rfl rfl
    case o3 => intro W hW;rintro _ rfl;rintro _ rfl;change wpList _ _ _ _ _ _;go_wp2;exact j0 rfl rfl rfl
    case o4 =>
      intro W hW;rintro _ rfl;change wpList _ _ _ _ _ _
      have hc : W.cell? ⟨gA,k,none⟩ = some (.slice (some ⟨gK,0,none⟩) (mm + 1) sc):=((HbA.out.below hW hlA).cell k).trans HCk.out
      go_wp2;exact j0 rfl rfl rfl
    case o5 => intro W hW;change wpList _ _ _ _ _ _;go_wp2;exact j0 rfl rfl rfl
    case o6 => intro W hW;change wpList _ _ _ _ _ _;go_wp2;exact j0 rfl rfl rfl
    case o7 =>
      intro W hW;rintro _ rfl;change wpList _ _ _ _ _ _
      have hc:=(HKN.out.below hW hlN).cell 2
      simp only [ndC,List.getElem?_cons_zero,List.getElem?_cons_succ] at hc
      rw [HNx.out] at hc
      go_wp2;exact j0 rfl rfl rfl
    case o8 => intro W hW;rintro _ rfl;rintro _ rfl;change wpList _ _ _ _ _ _;go_wp2;exact j0 rfl rfl rfl
    case o9 => intro W hW;rintro _ rfl;change wpList _ _ _ _ _ _;go_wp2;exact j0 rfl rfl rfl
  case hend =>
    intro W hW;rintro _ rfl;rintro _ rfl;rintro _ rfl;rintro _ rfl;rintro _ rfl;rintro _ rfl;rintro _ rfl;rintro _ rfl;rintro _ rfl;rintro _ rfl
    simp only [given,jJ,List.set,List.drop]
    have HbKw:=kp (HbK.out.below hW hgK)
    have HBW:=kp (HB11.out.trans (hW.mono hs11));have hsW:=HBW.out.size;have hsWW:=hW.size
    have HWk:=kp hW
    have HKNw:=kp (HKN.out.below hW hlN);have HKRw:=kp (HKR11.out.below hW hlR11);have HK5w:=kp (HK511.out.below hW hl511)
    have HGK : Kept (w4.heap.size ≤ gK):=kp HNeK.out.2.2
    have hgN11 : gK ≠ gN:=fun e => by have h1:=HKN.out;have h2:=HbK.out;rw [e] at h2;exact jY h1 h2 (by decide)
    have hgR11 : gK ≠ gR:=HNeK.out.2.1
    have hg511 : gK ≠ g5:=fun e => by have h1:=HK511.out;have h2:=HbK.out;rw [e] at h2;exact jY h1 h2 (by decide)
    clear hW
    go_wp2_with (first
      | ((with_reducible show Sn);(refine j9 rfl 3 (.tmp 59) (.tmp 57) rfl gK (mm * 2 + 1) (.int .i64 (nx : Int)) rfl rfl rfl rfl _ _ HbKw.out (by have h:=HlK.out;simpa using h) lS ?_);intro w12 hk12 hg12 hs12
         have HRB12:=kp (HPut.out W w12 nx HWk.out (by simpa using hk12) hg12 (by omega))
         have HB12:=kp (HBW.out.grown hg12 hsW (fun k e => by cases e;exact HGK.out));have hs412:=HB12.out.size
         have HKN12:=kp (HKNw.out.grown hg12 (fun e => by cases e;exact hgN11 rfl));have HKR12:=kp (HKRw.out.grown hg12 (fun e => by cases e;exact hgR11 rfl));have HK512:=kp (HK5w.out.grown hg12 (fun e => by cases e;exact hg511 rfl))
         have HbK12:=kp hk12
         have hlN12:=HKN12.out.lt;have hlR12:=HKR12.out.lt;have hl512:=HK512.out.lt;have hlO12:=HRB12.out.conf.lt
         have hcN0:=HKN12.out.cell 0;have hcN1:=HKN12.out.cell 1;have hcN3:=HKN12.out.cell 3;have hc51:=HK512.out.cell 1
         simp only [ndC,List.getElem?_cons_zero,List.getElem?_cons_succ] at hcN0 hcN1 hcN3 hc51
         rw [HAr.out] at hcN1
         rw [HAl.out] at hcN3
         clear hk12 hg12 hs12
         have har16 : ar < 16:=by have h:=HFit.out.lock (.inr hk);rw [HAr.out] at h;omega
         have hcOw : w12.cell? ⟨gO,2 + ar,none⟩ = some (.int .i64 ((q1.ow.getD ar 0 : Nat) : Int)):=by
           have h:=HRB12.out.conf.cell (2 + ar)
           rw [h,show 2 + ar = ar + 1 + 1 by omega,List.getElem?_cons_succ,List.getElem?_cons_succ,List.getElem?_map,List.getD_eq_getElem?_getD,List.getElem?_eq_getElem (by rw [HOw5.out,H16.out];exact har16)];rfl
         obtain ⟨ow,how⟩ : ∃ ow,q1.ow.getD ar 0 = ow:=⟨_,rfl⟩
         have HOwv:=kp how
         rw [how] at hcOw
         clear how
         have how1 : ow = k + 1:=by rw [← HOwv.out,HOw5.out];have h:=HOw4.out;rw [HAr.out,Int.toNat_natCast] at h;exact h
         subst how1
         have hbo : (((k + 1 : Nat) : Int) == (k : Int) + 1) = true:=by simp)
      | ((with_reducible show Sn);(refine j9 rfl 3 (.tmp 83) (.const (.int .i64 0)) rfl gO (2 + ar) (.int .i64 ((0 : Nat) : Int)) rfl rfl rfl rfl _ _ HRB12.out.conf (by simp only [List.length_cons,List.length_map];rw [HOw5.out,H16.out];omega) lS ?_);intro w13 hk13 hg13 hs13
         have HRB13:=kp (HRB12.out.owns hk13 hg13 (by omega));have HB13:=kp (HB12.out.grown hg13 hs412 (fun k e => by cases e;exact HRB12.out.low.1));have hs413:=HB13.out.size
         have HKR13:=kp (HKR12.out.grown hg13 (fun e => by cases e;exact HNeRO.out rfl))
         clear hk13 hg13 hs13
         have HKRz:=HKR13;have HKOz:=kp (show Blk w13 gO 63 (rcC ⟨q1.A,q1.cap,q1.svs.set k ⟨some ⟨gK,0,none⟩,mm + 1,sc,M.goOn sst nx⟩,q1.A2,q1.cap2,q1.sls,q1.len,q1.ow.set ar 0⟩) from HRB13.out.conf)
         have HMz:=kp (show RMine w13 w4.heap.size ⟨q1.A,q1.cap,q1.svs.set k ⟨some ⟨gK,0,none⟩,mm + 1,sc,M.goOn sst nx⟩,q1.A2,q1.cap2,q1.sls,q1.len,q1.ow.set ar 0⟩ from HRB13.out.mine)
         have HLz : Kept ((rcC ⟨q1.A,q1.cap,q1.svs.set k ⟨some ⟨gK,0,none⟩,mm + 1,sc,M.goOn sst nx⟩,q1.A2,q1.cap2,q1.sls,q1.len,q1.ow.set ar 0⟩).length = 18):=kp (l9 (by show (q1.ow.set ar 0).length = 16;(first | rw [List.length_set,HOw5.out] | rw [HOw5.out]);exact H16.out)))
      | ((with_reducible show Sl 141);go_must (refine j4 rfl 63 (.tmp 7) rfl gO rfl _ (rcC ⟨q1.A,q1.cap,q1.svs.set k ⟨some ⟨gK,0,none⟩,mm + 1,sc,M.goOn sst nx⟩,q1.A2,q1.cap2,q1.sls,q1.len,q1.ow.set ar 0⟩) _ HKOz.out Try.underlying63 rfl (by rw [HLz.out];exact jA) ?_))
      | ((with_reducible show Sn);(refine j5 rfl 63 (.tmp 6) (.tmp 141) rfl gR (rcC ⟨q1.A,q1.cap,q1.svs.set k ⟨some ⟨gK,0,none⟩,mm + 1,sc,M.goOn sst nx⟩,q1.A2,q1.cap2,q1.sls,q1.len,q1.ow.set ar 0⟩) rfl rfl _ _ HKRz.out (by rw [HLz.out];exact jA) (by rw [HLz.out];rfl) (lL _) ?_);intro wy hky hgy hsy
         have HKy:=kp hky;have HMy:=kp (HMz.out.far hgy (.inl hlR4));have HBy:=kp ((HW4.out.trans (HB13.out.mono hs4)).grown hgy (by omega) (fun k e => by cases e;have:=HGR.out;omega));clear hky hgy hsy)
      | ((with_reducible show bodyPost _ _ _ _ _ _);exact bodyPost_ret (jP (P:=Try.prog) (fn:=Try.f50) rfl _ _ gR 63 _ _ rfl HKy.out Try.underlying63 rfl (by rw [HLz.out];exact jA)) rfl ⟨_,rfl,HMy.out.lessR hs4,(by
            refine (vR (yX HSlk.out)).trans ?_
            have e : q.cf = ⟨List.zipWith (fun (s : Sv) l => (⟨s.stack,l⟩ : M.Th)) q1.svs q1.sls,q1.ow⟩:=HCf5.out.symm
            rw [act_4 hk,← HCf5.out,HTh.out,HNx.out,HAr.out,Int.toNat_natCast,Int.toNat_natCast,if_pos (show q1.cf.owners.getD ar 0 = k + 1 from HOwv.out)]
            first | rfl | (rw [← HCf5.out];rfl)),HBy.out⟩))
set_option maxRecDepth 100000 in
set_option maxHeartbeats 8000000 in
theorem rs_step_4n (B : Nat) (p : Pg) (hf : Fine p) (q : Rc) (w : World) (hp : p.Ok w B) (hq : q.Ok w B) (hg : M.Good p q.cf) (hB : B ≤ w.heap.size) (k : Nat) (way : Bool) (hlv : M.livesN q.cf k = true) (hen : M.enabled p q.cf (k : Int) = true) (x : Nd) (hx : M.node p q.cf k = x) (hk : x.kind = 4) (how4 : q.ow.getD x.arg.toNat 0 ≠ k + 1) :
    Calls Try.prog 50 #[rcA q,pgA p,.agg #[.int .i64 (k : Int),.bool way]] w (StepR w (M.act q.cf k x way)):=by
  obtain ⟨fn,hfn,_,_⟩:=M.node_is hg hlv
  have hfit:=M.node_fit hf hg hlv hfn
  rw [hx] at hfit
  obtain ⟨nx,hnx⟩ : ∃ nx : Nat,x.next = (nx : Int):=⟨x.next.toNat,by have:=hfit.next;omega⟩
  obtain ⟨ar,har⟩ : ∃ ar : Nat,x.arg = (ar : Int):=⟨x.arg.toNat,by have:=hfit.arg;omega⟩
  obtain ⟨al,hal⟩ : ∃ al : Nat,x.alt = (al : Int):=⟨x.alt.toNat,by have:=hfit.alt;omega⟩
  have HNx:=kp hnx;have HAr:=kp har;have HAl:=kp hal;have HFit:=kp hfit
  have hlv2:=hlv
  unfold M.livesN at hlv2
  rw [decide_eq_true_eq] at hlv2
  have HLv:=kp hlv;have HLv2:=kp hlv2;have HX:=kp hx;have HEn:=kp hen
  have hkl : k < q.len:=by rw [← hq.len];exact M.lives_lt hlv
  have HIk : Kept (I64 (k : Int)):=kp (by have h1:=hg.most;have h2:=hq.len;unfold I64;omega)
  clear hfn hfit hnx har hal hlv hlv2 hx hen
  have HOw4:=kp how4
  clear how4
  have hb4 : (x.kind == 4) = true:=by rw [beq_iff_eq];exact hk
  have hb3 : (x.kind == 3) = false:=by rw [beq_eq_false_iff_ne];omega
  have hb5 : (x.kind == 5) = false:=by rw [beq_eq_false_iff_ne];omega
  have hb7 : (x.kind == 7) = false:=by rw [beq_eq_false_iff_ne];omega
  have hb8 : (x.kind == 8) = false:=by rw [beq_eq_false_iff_ne];omega
  have hb9 : (x.kind == 9) = false:=by rw [beq_eq_false_iff_ne];omega
  have HF:=kp hf;have HG:=kp hg
  have HPr:=kp hp;have HQ:=kp hq
  have hB2:=hB
  have h8 : q.len ≤ 8:=by rw [← hq.len];exact hg.most
  have HLow:=kp (qP hf hp.row.len hg hq);have HSl8:=kp (yO hg hq)
  have H16:=kp (show q.ow.length = 16 from hg.owns)
  have HQ18:=kp (l9 hg.owns)
  clear hf hg hp hq hB
  rw [q8,jL]
  unfold StepR
  go_enter Try.func50,Try.ntmps50
  go_wp2_with (first
    | ((with_reducible refine j6 rfl 63 (.tmp 0) rfl (rcC q) rfl ?_);intro g3 w1 hg3 hk1 hw1;have HK3a:=kp hk1;have HW1:=kp hw1;have hs1:=hw1.size;have hl3a:=hk1.lt;have HGa:=kp hg3;clear hk1 hw1 hg3)
    | ((with_reducible refine j6 rfl 46 (.tmp 1) rfl (pgC p) rfl ?_);intro g4 w2 hg4 hk2 hw2;have HK4b:=kp hk2;have HK3b:=kp (HK3a.out.below hw2 hl3a);have HW2:=kp (HW1.out.trans (hw2.mono hs1));have hs2:=HW2.out.size;have hl4b:=hk2.lt;have hl3b:=HK3b.out.lt;clear hk2 hw2 hg4)
    | ((with_reducible refine j6 rfl 56 (.tmp 2) rfl [.int .i64 (k : Int),.bool way] rfl ?_);intro g5 w3 hg5 hk3 hw3;have HK5c:=kp hk3;have HK4c:=kp (HK4b.out.below hw3 hl4b);have HK3c:=kp (HK3b.out.below hw3 hl3b);have HW3:=kp (HW2.out.trans (hw3.mono hs2));have hs3:=HW3.out.size;have hl5c:=hk3.lt;have hl4c:=HK4c.out.lt;have hl3c:=HK3c.out.lt;clear hk3 hw3 hg5)
    | ((with_reducible show Sl 6);go_must (refine j7 rfl 63 rfl _ lB ?_);intro gR w4 hgR hk4 hw4
       have HGR : Kept (w.heap.size ≤ gR):=kp (by omega)
       have HKR4:=kp hk4;have HK5:=kp (HK5c.out.below hw4 hl5c);have HK4:=kp (HK4c.out.below hw4 hl4c);have HK3:=kp (HK3c.out.below hw4 hl3c);have HW4:=kp (HW3.out.trans (hw4.mono hs3));have hs4:=HW4.out.size
       have hlR4:=hk4.lt;have hl5:=HK5.out.lt;have hl4:=HK4.out.lt;have hl3:=HK3.out.lt
       clear hk4 hw4 hgR HK3a HK3b HK3c HK4b HK4c HK5c HW1 HW2 HW3 hl3a hl3b hl3c hl4b hl4c hl5c hs1 hs2 hs3)
    | ((with_reducible show Sl 11);go_must (refine j4 rfl 63 (.tmp 3) rfl g3 rfl _ (rcC q) _ HK3.out Try.underlying63 rfl (by rw [HQ18.out];exact jA) ?_))
    | (go_at_call 73;go_must (refine (xM q w4 ((HQ.out.below (HW4.out.mono hB2)).more (by omega)) h8 H16.out HLow.out HSl8.out).mono ?_);rintro e w5 ⟨q1,rfl,hm5,hcf5,hlen5,how5,hsls5,hb5⟩
       have HM5:=kp hm5;have HCf5:=kp hcf5;have HLn5:=kp hlen5;have HOw5:=kp how5;have HSls5:=kp hsls5;have HB5:=kp hb5;have hs5:=hb5.size
       have HR18 : Kept ((rcC q1).length = 18):=kp (l9 (by rw [how5];exact H16.out))
       clear hm5 hcf5 hlen5 how5 hsls5 hb5)
    | ((with_reducible show Sl 7);go_must (refine j7 rfl 63 rfl _ lB ?_);intro gO w6 hgO hk6 hw6;have HKO6:=kp hk6;have HGO:=kp hgO;have HB6:=kp (HB5.out.trans (hw6.mono hs5));have HB56:=kp hw6;have hs6:=HB6.out.size;have hs56:=hw6.size;clear hk6 hw6 hgO)
    | ((with_reducible show Sn);(refine j5 rfl 63 (.tmp 7) (.tmp 12) rfl gO (rcC q1) rfl rfl _ _ HKO6.out (by rw [HR18.out];exact jA) (by rw [HR18.out];rfl) (lL _) ?_);intro w7 hk7 hg7 hs7'
       have HKO:=kp hk7;have hlO:=hk7.lt;have HB57:=kp (HB56.out.grown hg7 hs56 (fun k e => by cases e;have:=HGO.out;omega));have HB7:=kp (HB5.out.trans (HB57.out.mono hs5));have hs7:=HB7.out.size
       have HRB:=kp (HM5.out.rb HB57.out hk7 (by have:=HGO.out;omega) hlR4 hs5)
       have HM7:=kp (HM5.out.below HB57.out (Nat.le_refl _))
       have HW7:=kp (HW4.out.trans (HB7.out.mono hs4));have hsw7:=HW7.out.size
       have HK57:=kp (HK5.out.below HB7.out hl5);have HK47:=kp (HK4.out.below HB7.out hl4);have HK37:=kp (HK3.out.below HB7.out hl3);have HKR7:=kp (HKR4.out.below HB7.out hlR4)
       have hl57:=HK57.out.lt;have hl47:=HK47.out.lt;have hl37:=HK37.out.lt;have hlR7:=HKR7.out.lt
       have hc5:=HK57.out.cell 0
       simp only [List.getElem?_cons_zero] at hc5
       clear hk7 hg7 hs7' HKO6 HB6 HB56 hs6 hs56 HM5)
    | ((with_reducible show Sl 13);go_must (refine j4 rfl 63 (.tmp 3) rfl g3 rfl _ (rcC q) _ HK37.out Try.underlying63 rfl (by rw [HQ18.out];exact jA) ?_))
    | ((with_reducible show Sl 14);go_must (refine j4 rfl 46 (.tmp 4) rfl g4 rfl _ (pgC p) _ HK47.out Try.underlying46 rfl jF ?_))
    | (go_at_call 74;go_must (refine (qH B p HF.out q w7 (HPr.out.below (HW7.out.mono hB2)) (HQ.out.below (HW7.out.mono hB2)) HG.out (by omega) (k : Int) HIk.out true HEn.out).mono ?_);rintro e w8 ⟨rfl,hb8⟩
       have HB8:=kp hb8;have hs8:=hb8.size
       have HW8:=kp (HW7.out.trans (hb8.mono hsw7));have hsw8:=HW8.out.size
       have HK58:=kp (HK57.out.below hb8 hl57);have HK48:=kp (HK47.out.below hb8 hl47);have HK38:=kp (HK37.out.below hb8 hl37);have HKR8:=kp (HKR7.out.below hb8 hlR7)
       have hl58:=HK58.out.lt;have hl48:=HK48.out.lt;have hl38:=HK38.out.lt;have hlR8:=HKR8.out.lt
       have HRB8:=kp (HRB.out.below hb8 (Nat.le_refl _));have HM8:=kp (HM7.out.below hb8 (Nat.le_refl _));have HKO8:=kp (HKO.out.below hb8 hlO)
       clear hb8 hc5
       have hc5:=HK58.out.cell 0
       simp only [List.getElem?_cons_zero] at hc5)
    | ((with_reducible show Sl 22);go_must (refine j4 rfl 63 (.tmp 3) rfl g3 rfl _ (rcC q) _ HK38.out Try.underlying63 rfl (by rw [HQ18.out];exact jA) ?_))
    | ((with_reducible show Sl 23);go_must (refine j4 rfl 46 (.tmp 4) rfl g4 rfl _ (pgC p) _ HK48.out Try.underlying46 rfl jF ?_))
    | (go_at_call 72;go_must (refine (xO B p HF.out q w8 (HPr.out.below (HW8.out.mono hB2)) (HQ.out.below (HW8.out.mono hB2)) HG.out (by omega) k HLv.out x HX.out).mono ?_);rintro e w9 ⟨rfl,hb9⟩;have HB9:=kp hb9;have hs9:=hb9.size;clear hb9 hc5)
    | ((with_reducible show Sl 9);go_must (refine j7 rfl 97 rfl _ qE ?_);intro gN w10 hgN hk10 hw10;have HKN10:=kp hk10;have HGN:=kp hgN;have HB10:=kp (HB9.out.trans (hw10.mono hs9));have hs10:=HB10.out.size;clear hk10 hw10 hgN)
    | ((with_reducible show Sn);(refine j5 rfl 97 (.tmp 9) (.tmp 25) rfl gN (ndC x) rfl rfl _ _ HKN10.out jO rfl (x6 x) ?_);intro w11 hk11 hg11 hs11'
       have HKN:=kp hk11;have hlN:=hk11.lt;have HB811:=kp (HB10.out.grown hg11 hs10 (fun k e => by cases e;have:=HGN.out;omega));have hs811:=HB811.out.size
       have HB11:=kp (HB7.out.trans ((HB8.out.trans (HB811.out.mono hs8)).mono hs7));have hs11:=HB11.out.size
       have HRB11:=kp (HRB8.out.below HB811.out (Nat.le_refl _));have HKR11:=kp (HKR8.out.below HB811.out hlR8);have HK511:=kp (HK58.out.below HB811.out hl58);have hl511:=HK511.out.lt
       have HG1:=kp (show M.Good p q1.cf by rw [HCf5.out];exact HG.out)
       have hlR11:=HKR11.out.lt
       obtain ⟨gA,cur,s,hA,hbA,hsk,hck,hAO,hAR,hBA,hkc,hnc,hcm,hsl,hsc,hsm⟩:=HRB11.out.thread (show k < q1.len by rw [HLn5.out];exact hkl)
       have hslk : ∃ sl,q1.sls[k]? = some sl:=⟨_,List.getElem?_eq_getElem (by rw [HRB11.out.len.2,HLn5.out];exact hkl)⟩
       obtain ⟨sl,hslk⟩:=hslk
       have hth : M.th q1.cf k = ⟨s.stack,sl⟩:=M.th_is (by unfold Rc.cf;rw [List.getElem?_zipWith,hsk,hslk])
       have hs0 : 0 < s.len:=by have h:=HLv2.out;rw [← HCf5.out,hth] at h;rw [← hsl];exact h
       have hlen16 : s.len ≤ 1000:=qP HF.out HPr.out.row.len HG1.out HM8.out.ok s (List.mem_of_getElem? hsk)
       obtain ⟨gK,curK,hsA,hbK,hlK,hKO,hKR,hBK,hgK,hput⟩:=HRB11.out.goes hsk hs0
       obtain ⟨sA,sn,sc,sst⟩:=s
       obtain ⟨mm,rfl⟩ : ∃ mm,sn = mm + 1:=⟨sn - 1,by have : 0 < sn:=hs0;omega⟩
       have hsA2 : sA = some ⟨gK,0,none⟩:=hsA
       subst hsA2
       have HA:=kp hA;have HbA:=kp hbA;have HSk:=kp hsk;have HCk:=kp hck;have HTh:=kp hth;have HbK:=kp hbK;have HPut:=kp hput;have HSlk:=kp hslk;have HSl:=kp hsl
       have HNeA:=kp (And.intro hAO (And.intro hAR hBA));have HNeK:=kp (And.intro hKO (And.intro hKR hBK));have HlK:=kp hlK;have Hkc:=kp hkc
       have hlA:=hbA.lt
       have hlen17 : mm + 1 ≤ 1000:=hlen16
       have hsc1 : mm + 1 ≤ sc:=hsc
       have hsm1 : sc ≤ maxLen:=hsm
       have HEO : Kept (q1.A = some ⟨gA,0,none⟩):=kp hA
       have hcO : w11.cell? ⟨gO,0,none⟩ = some (.slice (some ⟨gA,0,none⟩) q1.len q1.cap):=by have h:=HRB11.out.conf.cell 0;rw [hA] at h;exact h
       have hcA : w11.cell? ⟨gA,k,none⟩ = some (.slice (some ⟨gK,0,none⟩) (mm + 1) sc):=(hbA.cell k).trans hck
       have hcN:=HKN.out.cell 0
       simp only [ndC,List.getElem?_cons_zero] at hcN
       have hkl1 : k < q1.len:=by rw [HLn5.out];exact hkl
       have h81 : q1.len ≤ 8:=by rw [HLn5.out];exact h8
       unfold maxLen at hcm hsm1
       clear hk11 hg11 hs11' hA hbA hsk hck hth hslk hs0 hlen16 hsA hbK hput hAO hAR hBA hKO hKR hBK hsl hsc hsm hlK hkc HKN10 HB9 HB10 hs9 hs10))
  have hlO11:=HRB11.out.conf.lt
  apply jH 10 (.is _ :: .is _ :: .is _ :: .is _ :: .is _ :: .is _ :: .is _ :: .is _ :: .is _ :: .is _ :: [])
    [[],[(0,50)],[],[(1,51),(2,52)],[(3,53)],[],[],[(6,56)],[(4,54),(5,55)],[(8,58)],[(9,59),(7,57)]]
    [(0,50),(1,51),(2,52),(3,53),(4,54),(5,55),(6,56),(7,57),(8,58),(9,59)] (by kernel_rfl) (by kernel_rfl) (by kernel_rfl) (by kernel_rfl) (by kernel_rfl)
  case hob =>
    refine ⟨?o0,?o1,?o2,?o3,?o4,?o5,?o6,?o7,?o8,?o9,trivial⟩
    case o0 => intro W hW;change wpList _ _ _ _ _ _;go_wp2;exact j0 rfl rfl rfl
    case o1 =>
      intro W hW;rintro _ rfl;change wpList _ _ _ _ _ _
      have hc:=(HRB11.out.conf.below hW hlO11).cell 0
      rw [HEO.out] at hc
      have hc2 : W.cell? ⟨gO,0,none⟩ = some (.slice (some ⟨gA,0,none⟩) q1.len q1.cap):=hc
      clear hc
      go_wp2;exact j0 rfl rfl rfl
    case o2 => intro W hW;change wpList _ _ _ _ _ _;go_wp2;exact j0 rfl rfl rfl
    case o3 => intro W hW;rintro _ rfl;rintro _ rfl;change wpList _ _ _ _ _ _;go_wp2;exact j0 rfl rfl rfl
    case o4 =>
      intro W hW;rintro _ rfl;change wpList _ _ _ _ _ _
      have hc : W.cell? ⟨gA,k,none⟩ = some (.slice (some ⟨gK,0,none⟩) (mm + 1) sc):=((HbA.out.below hW hlA).cell k).trans HCk.out
      go_wp2;exact j0 rfl rfl rfl
    case o5 => intro W hW;change wpList _ _ _ _ _ _;go_wp2;exact j0 rfl rfl rfl
    case o6 => intro W hW;change wpList _ _ _ _ _ _;go_wp2;exact j0 rfl rfl rfl
    case o7 =>
      intro W hW;rintro _ rfl;change wpList _ _ _ _ _ _
      have hc:=(HKN.out.below hW hlN).cell 2
      simp only [ndC,List.getElem?_cons_zero,List.getElem?_cons_succ] at hc
      rw [HNx.out] at hc
      go_wp2;exact j0 rfl rfl rfl
    case o8 => intro W hW;rintro _ rfl;rintro _ rfl;change wpList _ _ _ _ _ _;go_wp2;exact j0 rfl rfl rfl
    case o9 => intro W hW;rintro _ rfl;change wpList _ _ _ _ _ _;go_wp2;exact j0 rfl rfl rfl
  case hend =>
    intro W hW;rintro _ rfl;rintro _ rfl;rintro _ rfl;rintro _ rfl;rintro _ rfl;rintro _ rfl;rintro _ rfl;rintro _ rfl;rintro _ rfl;rintro _ rfl
    simp only [given,jJ,List.set,List.drop]
    have HbKw:=kp (HbK.out.below hW hgK)
    have HBW:=kp (HB11.out.trans (hW.mono hs11));have hsW:=HBW.out.size;have hsWW:=hW.size
    have HWk:=kp hW
    have HKNw:=kp (HKN.out.below hW hlN);have HKRw:=kp (HKR11.out.below hW hlR11);have HK5w:=kp (HK511.out.below hW hl511)
    have HGK : Kept (w4.heap.size ≤ gK):=kp HNeK.out.2.2
    have hgN11 : gK ≠ gN:=fun e => by have h1:=HKN.out;have h2:=HbK.out;rw [e] at h2;exact jY h1 h2 (by decide)
    have hgR11 : gK ≠ gR:=HNeK.out.2.1
    have hg511 : gK ≠ g5:=fun e => by have h1:=HK511.out;have h2:=HbK.out;rw [e] at h2;exact jY h1 h2 (by decide)
    clear hW
    go_wp2_with (first
      | ((with_reducible show Sn);(refine j9 rfl 3 (.tmp 59) (.tmp 57) rfl gK (mm * 2 + 1) (.int .i64 (nx : Int)) rfl rfl rfl rfl _ _ HbKw.out (by have h:=HlK.out;simpa using h) lS ?_);intro w12 hk12 hg12 hs12
         have HRB12:=kp (HPut.out W w12 nx HWk.out (by simpa using hk12) hg12 (by omega))
         have HB12:=kp (HBW.out.grown hg12 hsW (fun k e => by cases e;exact HGK.out));have hs412:=HB12.out.size
         have HKN12:=kp (HKNw.out.grown hg12 (fun e => by cases e;exact hgN11 rfl));have HKR12:=kp (HKRw.out.grown hg12 (fun e => by cases e;exact hgR11 rfl));have HK512:=kp (HK5w.out.grown hg12 (fun e => by cases e;exact hg511 rfl))
         have HbK12:=kp hk12
         have hlN12:=HKN12.out.lt;have hlR12:=HKR12.out.lt;have hl512:=HK512.out.lt;have hlO12:=HRB12.out.conf.lt
         have hcN0:=HKN12.out.cell 0;have hcN1:=HKN12.out.cell 1;have hcN3:=HKN12.out.cell 3;have hc51:=HK512.out.cell 1
         simp only [ndC,List.getElem?_cons_zero,List.getElem?_cons_succ] at hcN0 hcN1 hcN3 hc51
         rw [HAr.out] at hcN1
         rw [HAl.out] at hcN3
         clear hk12 hg12 hs12
         have har16 : ar < 16:=by have h:=HFit.out.lock (.inr hk);rw [HAr.out] at h;omega
         have hcOw : w12.cell? ⟨gO,2 + ar,none⟩ = some (.int .i64 ((q1.ow.getD ar 0 : Nat) : Int)):=by
           have h:=HRB12.out.conf.cell (2 + ar)
           rw [h,show 2 + ar = ar + 1 + 1 by omega,List.getElem?_cons_succ,List.getElem?_cons_succ,List.getElem?_map,List.getD_eq_getElem?_getD,List.getElem?_eq_getElem (by rw [HOw5.out,H16.out];exact har16)];rfl
         obtain ⟨ow,how⟩ : ∃ ow,q1.ow.getD ar 0 = ow:=⟨_,rfl⟩
         have HOwv:=kp how
         rw [how] at hcOw
         clear how
         have how1 : ow ≠ k + 1:=by rw [← HOwv.out,HOw5.out];have h:=HOw4.out;rw [HAr.out,Int.toNat_natCast] at h;exact h
         have HNo : Kept (¬ q1.ow.getD ar 0 = k + 1):=kp (by rw [HOwv.out];exact how1)
         have hbo : ((ow : Int) == (k : Int) + 1) = false:=by rw [beq_eq_false_iff_ne];omega
         have HKRz:=HKR12;have HKOz:=kp (show Blk w12 gO 63 (rcC ⟨q1.A,q1.cap,q1.svs.set k ⟨some ⟨gK,0,none⟩,mm + 1,sc,M.goOn sst nx⟩,q1.A2,q1.cap2,q1.sls,q1.len,q1.ow⟩) from HRB12.out.conf)
         have HMz:=kp (show RMine w12 w4.heap.size ⟨q1.A,q1.cap,q1.svs.set k ⟨some ⟨gK,0,none⟩,mm + 1,sc,M.goOn sst nx⟩,q1.A2,q1.cap2,q1.sls,q1.len,q1.ow⟩ from HRB12.out.mine)
         have HLz : Kept ((rcC ⟨q1.A,q1.cap,q1.svs.set k ⟨some ⟨gK,0,none⟩,mm + 1,sc,M.goOn sst nx⟩,q1.A2,q1.cap2,q1.sls,q1.len,q1.ow⟩).length = 18):=kp (l9 (by show (q1.ow).length = 16;(first | rw [List.length_set,HOw5.out] | rw [HOw5.out]);exact H16.out)))
      | ((with_reducible show Sl 141);go_must (refine j4 rfl 63 (.tmp 7) rfl gO rfl _ (rcC ⟨q1.A,q1.cap,q1.svs.set k ⟨some ⟨gK,0,none⟩,mm + 1,sc,M.goOn sst nx⟩,q1.A2,q1.cap2,q1.sls,q1.len,q1.ow⟩) _ HKOz.out Try.underlying63 rfl (by rw [HLz.out];exact jA) ?_))
      | ((with_reducible show Sn);(refine j5 rfl 63 (.tmp 6) (.tmp 141) rfl gR (rcC ⟨q1.A,q1.cap,q1.svs.set k ⟨some ⟨gK,0,none⟩,mm + 1,sc,M.goOn sst nx⟩,q1.A2,q1.cap2,q1.sls,q1.len,q1.ow⟩) rfl rfl _ _ HKRz.out (by rw [HLz.out];exact jA) (by rw [HLz.out];rfl) (lL _) ?_);intro wy hky hgy hsy
         have HKy:=kp hky;have HMy:=kp (HMz.out.far hgy (.inl hlR4));have HBy:=kp ((HW4.out.trans (HB12.out.mono hs4)).grown hgy (by omega) (fun k e => by cases e;have:=HGR.out;omega));clear hky hgy hsy)
      | ((with_reducible show bodyPost _ _ _ _ _ _);exact bodyPost_ret (jP (P:=Try.prog) (fn:=Try.f50) rfl _ _ gR 63 _ _ rfl HKy.out Try.underlying63 rfl (by rw [HLz.out];exact jA)) rfl ⟨_,rfl,HMy.out.lessR hs4,(by
            refine (vR (yX HSlk.out)).trans ?_
            have e : q.cf = ⟨List.zipWith (fun (s : Sv) l => (⟨s.stack,l⟩ : M.Th)) q1.svs q1.sls,q1.ow⟩:=HCf5.out.symm
            rw [act_4 hk,← HCf5.out,HTh.out,HNx.out,HAr.out,Int.toNat_natCast,Int.toNat_natCast,if_neg (show ¬ q1.cf.owners.getD ar 0 = k + 1 from fun h => HNo.out h)]
            first | rfl | (rw [← HCf5.out];rfl)),HBy.out⟩))
set_option maxRecDepth 100000 in
set_option maxHeartbeats 8000000 in
theorem rs_step_8f (B : Nat) (p : Pg) (hf : Fine p) (q : Rc) (w : World) (hp : p.Ok w B) (hq : q.Ok w B) (hg : M.Good p q.cf) (hB : B ≤ w.heap.size) (k : Nat) (way : Bool) (hlv : M.livesN q.cf k = true) (hen : M.enabled p q.cf (k : Int) = true) (x : Nd) (hx : M.node p q.cf k = x) (hk : x.kind = 8) (hw : way = false) :
    Calls Try.prog 50 #[rcA q,pgA p,.agg #[.int .i64 (k : Int),.bool way]] w (StepR w (M.act q.cf k x way)):=by
  obtain ⟨fn,hfn,_,_⟩:=M.node_is hg hlv
  have hfit:=M.node_fit hf hg hlv hfn
  rw [hx] at hfit
  obtain ⟨nx,hnx⟩ : ∃ nx : Nat,x.next = (nx : Int):=⟨x.next.toNat,by have:=hfit.next;omega⟩
  obtain ⟨ar,har⟩ : ∃ ar : Nat,x.arg = (ar : Int):=⟨x.arg.toNat,by have:=hfit.arg;omega⟩
  obtain ⟨al,hal⟩ : ∃ al : Nat,x.alt = (al : Int):=⟨x.alt.toNat,by have:=hfit.alt;omega⟩
  have HNx:=kp hnx;have HAr:=kp har;have HAl:=kp hal;have HFit:=kp hfit
  have hlv2:=hlv
  unfold M.livesN at hlv2
  rw [decide_eq_true_eq] at hlv2
  have HLv:=kp hlv;have HLv2:=kp hlv2;have HX:=kp hx;have HEn:=kp hen
  have hkl : k < q.len:=by rw [← hq.len];exact M.lives_lt hlv
  have HIk : Kept (I64 (k : Int)):=kp (by have h1:=hg.most;have h2:=hq.len;unfold I64;omega)
  clear hfn hfit hnx har hal hlv hlv2 hx hen
  have HWay:=kp hw
  clear hw
  have hb8 : (x.kind == 8) = true:=by rw [beq_iff_eq];exact hk
  have hb3 : (x.kind == 3) = false:=by rw [beq_eq_false_iff_ne];omega
  have hb4 : (x.kind == 4) = false:=by rw [beq_eq_false_iff_ne];omega
  have hb5 : (x.kind == 5) = false:=by rw [beq_eq_false_iff_ne];omega
  have hb7 : (x.kind == 7) = false:=by rw [beq_eq_false_iff_ne];omega
  have hb9 : (x.kind == 9) = false:=by rw [beq_eq_false_iff_ne];omega
  have HF:=kp hf;have HG:=kp hg
  have HPr:=kp hp;have HQ:=kp hq
  have hB2:=hB
  have h8 : q.len ≤ 8:=by rw [← hq.len];exact hg.most
  have HLow:=kp (qP hf hp.row.len hg hq);have HSl8:=kp (yO hg hq)
  have H16:=kp (show q.ow.length = 16 from hg.owns)
  have HQ18:=kp (l9 hg.owns)
  clear hf hg hp hq hB
  rw [q8,jL]
  unfold StepR
  go_enter Try.func50,Try.ntmps50
  go_wp2_with (first
    | ((with_reducible refine j6 rfl 63 (.tmp 0) rfl (rcC q) rfl ?_);intro g3 w1 hg3 hk1 hw1;have HK3a:=kp hk1;have HW1:=kp hw1;have hs1:=hw1.size;have hl3a:=hk1.lt;have HGa:=kp hg3;clear hk1 hw1 hg3)
    | ((with_reducible refine j6 rfl 46 (.tmp 1) rfl (pgC p) rfl ?_);intro g4 w2 hg4 hk2 hw2;have HK4b:=kp hk2;have HK3b:=kp (HK3a.out.below hw2 hl3a);have HW2:=kp (HW1.out.trans (hw2.mono hs1));have hs2:=HW2.out.size;have hl4b:=hk2.lt;have hl3b:=HK3b.out.lt;clear hk2 hw2 hg4)
    | ((with_reducible refine j6 rfl 56 (.tmp 2) rfl [.int .i64 (k : Int),.bool way] rfl ?_);intro g5 w3 hg5 hk3 hw3;have HK5c:=kp hk3;have HK4c:=kp (HK4b.out.below hw3 hl4b);have HK3c:=kp (HK3b.out.below hw3 hl3b);have HW3:=kp (HW2.out.trans (hw3.mono hs2));have hs3:=HW3.out.size;have hl5c:=hk3.lt;have hl4c:=HK4c.out.lt;have hl3c:=HK3c.out.lt;clear hk3 hw3 hg5)
    | ((with_reducible show Sl 6);go_must (refine j7 rfl 63 rfl _ lB ?_);intro gR w4 hgR hk4 hw4
       have HGR : Kept (w.heap.size ≤ gR):=kp (by omega)
       have HKR4:=kp hk4;have HK5:=kp (HK5c.out.below hw4 hl5c);have HK4:=kp (HK4c.out.below hw4 hl4c);have HK3:=kp (HK3c.out.below hw4 hl3c);have HW4:=kp (HW3.out.trans (hw4.mono hs3));have hs4:=HW4.out.size
       have hlR4:=hk4.lt;have hl5:=HK5.out.lt;have hl4:=HK4.out.lt;have hl3:=HK3.out.lt
       clear hk4 hw4 hgR HK3a HK3b HK3c HK4b HK4c HK5c HW1 HW2 HW3 hl3a hl3b hl3c hl4b hl4c hl5c hs1 hs2 hs3)
    | ((with_reducible show Sl 11);go_must (refine j4 rfl 63 (.tmp 3) rfl g3 rfl _ (rcC q) _ HK3.out Try.underlying63 rfl (by rw [HQ18.out];exact jA) ?_))
    | (go_at_call 73;go_must (refine (xM q w4 ((HQ.out.below (HW4.out.mono hB2)).more (by omega)) h8 H16.out HLow.out HSl8.out).mono ?_);rintro e w5 ⟨q1,rfl,hm5,hcf5,hlen5,how5,hsls5,hb5⟩
       have HM5:=kp hm5;have HCf5:=kp hcf5;have HLn5:=kp hlen5;have HOw5:=kp how5;have HSls5:=kp hsls5;have HB5:=kp hb5;have hs5:=hb5.size
       have HR18 : Kept ((rcC q1).length = 18):=kp (l9 (by rw [how5];exact H16.out))
       clear hm5 hcf5 hlen5 how5 hsls5 hb5)
    | ((with_reducible show Sl 7);go_must (refine j7 rfl 63 rfl _ lB ?_);intro gO w6 hgO hk6 hw6;have HKO6:=kp hk6;have HGO:=kp hgO;have HB6:=kp (HB5.out.trans (hw6.mono hs5));have HB56:=kp hw6;have hs6:=HB6.out.size;have hs56:=hw6.size;clear hk6 hw6 hgO)
    | ((with_reducible show Sn);(refine j5 rfl 63 (.tmp 7) (.tmp 12) rfl gO (rcC q1) rfl rfl _ _ HKO6.out (by rw [HR18.out];exact jA) (by rw [HR18.out];rfl) (lL _) ?_);intro w7 hk7 hg7 hs7'
       have HKO:=kp hk7;have hlO:=hk7.lt;have HB57:=kp (HB56.out.grown hg7 hs56 (fun k e => by cases e;have:=HGO.out;omega));have HB7:=kp (HB5.out.trans (HB57.out.mono hs5));have hs7:=HB7.out.size
       have HRB:=kp (HM5.out.rb HB57.out hk7 (by have:=HGO.out;omega) hlR4 hs5)
       have HM7:=kp (HM5.out.below HB57.out (Nat.le_refl _))
       have HW7:=kp (HW4.out.trans (HB7.out.mono hs4));have hsw7:=HW7.out.size
       have HK57:=kp (HK5.out.below HB7.out hl5);have HK47:=kp (HK4.out.below HB7.out hl4);have HK37:=kp (HK3.out.below HB7.out hl3);have HKR7:=kp (HKR4.out.below HB7.out hlR4)
       have hl57:=HK57.out.lt;have hl47:=HK47.out.lt;have hl37:=HK37.out.lt;have hlR7:=HKR7.out.lt
       have hc5:=HK57.out.cell 0
       simp only [List.getElem?_cons_zero] at hc5
       clear hk7 hg7 hs7' HKO6 HB6 HB56 hs6 hs56 HM5)
    | ((with_reducible show Sl 13);go_must (refine j4 rfl 63 (.tmp 3) rfl g3 rfl _ (rcC q) _ HK37.out Try.underlying63 rfl (by rw [HQ18.out];exact jA) ?_))
    | ((with_reducible show Sl 14);go_must (refine j4 rfl 46 (.tmp 4) rfl g4 rfl _ (pgC p) _ HK47.out Try.underlying46 rfl jF ?_))
    | (go_at_call 74;go_must (refine (qH B p HF.out q w7 (HPr.out.below (HW7.out.mono hB2)) (HQ.out.below (HW7.out.mono hB2)) HG.out (by omega) (k : Int) HIk.out true HEn.out).mono ?_);rintro e w8 ⟨rfl,hb8⟩
       have HB8:=kp hb8;have hs8:=hb8.size
       have HW8:=kp (HW7.out.trans (hb8.mono hsw7));have hsw8:=HW8.out.size
       have HK58:=kp (HK57.out.below hb8 hl57);have HK48:=kp (HK47.out.below hb8 hl47);have HK38:=kp (HK37.out.below hb8 hl37);have HKR8:=kp (HKR7.out.below hb8 hlR7)
       have hl58:=HK58.out.lt;have hl48:=HK48.out.lt;have hl38:=HK38.out.lt;have hlR8:=HKR8.out.lt
       have HRB8:=kp (HRB.out.below hb8 (Nat.le_refl _));have HM8:=kp (HM7.out.below hb8 (Nat.le_refl _));have HKO8:=kp (HKO.out.below hb8 hlO)
       clear hb8 hc5
       have hc5:=HK58.out.cell 0
       simp only [List.getElem?_cons_zero] at hc5)
    | ((with_reducible show Sl 22);go_must (refine j4 rfl 63 (.tmp 3) rfl g3 rfl _ (rcC q) _ HK38.out Try.underlying63 rfl (by rw [HQ18.out];exact jA) ?_))
    | ((with_reducible show Sl 23);go_must (refine j4 rfl 46 (.tmp 4) rfl g4 rfl _ (pgC p) _ HK48.out Try.underlying46 rfl jF ?_))
    | (go_at_call 72;go_must (refine (xO B p HF.out q w8 (HPr.out.below (HW8.out.mono hB2)) (HQ.out.below (HW8.out.mono hB2)) HG.out (by omega) k HLv.out x HX.out).mono ?_);rintro e w9 ⟨rfl,hb9⟩;have HB9:=kp hb9;have hs9:=hb9.size;clear hb9 hc5)
    | ((with_reducible show Sl 9);go_must (refine j7 rfl 97 rfl _ qE ?_);intro gN w10 hgN hk10 hw10;have HKN10:=kp hk10;have HGN:=kp hgN;have HB10:=kp (HB9.out.trans (hw10.mono hs9));have hs10:=HB10.out.size;clear hk10 hw10 hgN)
    | ((with_reducible show Sn);(refine j5 rfl 97 (.tmp 9) (.tmp 25) rfl gN (ndC x) rfl rfl _ _ HKN10.out jO rfl (x6 x) ?_);intro w11 hk11 hg11 hs11'
       have HKN:=kp hk11;have hlN:=hk11.lt;have HB811:=kp (HB10.out.grown hg11 hs10 (fun k e => by cases e;have:=HGN.out;omega));have hs811:=HB811.out.size
       have HB11:=kp (HB7.out.trans ((HB8.out.trans (HB811.out.mono hs8)).mono hs7));have hs11:=HB11.out.size
       have HRB11:=kp (HRB8.out.below HB811.out (Nat.le_refl _));have HKR11:=kp (HKR8.out.below HB811.out hlR8);have HK511:=kp (HK58.out.below HB811.out hl58);have hl511:=HK511.out.lt
       have HG1:=kp (show M.Good p q1.cf by rw [HCf5.out];exact HG.out)
       have hlR11:=HKR11.out.lt
       obtain ⟨gA,cur,s,hA,hbA,hsk,hck,hAO,hAR,hBA,hkc,hnc,hcm,hsl,hsc,hsm⟩:=HRB11.out.thread (show k < q1.len by rw [HLn5.out];exact hkl)
       have hslk : ∃ sl,q1.sls[k]? = some sl:=⟨_,List.getElem?_eq_getElem (by rw [HRB11.out.len.2,HLn5.out];exact hkl)⟩
       obtain ⟨sl,hslk⟩:=hslk
       have hth : M.th q1.cf k = ⟨s.stack,sl⟩:=M.th_is (by unfold Rc.cf;rw [List.getElem?_zipWith,hsk,hslk])
       have hs0 : 0 < s.len:=by have h:=HLv2.out;rw [← HCf5.out,hth] at h;rw [← hsl];exact h
       have hlen16 : s.len ≤ 1000:=qP HF.out HPr.out.row.len HG1.out HM8.out.ok s (List.mem_of_getElem? hsk)
       obtain ⟨gK,curK,hsA,hbK,hlK,hKO,hKR,hBK,hgK,hput⟩:=HRB11.out.goes hsk hs0
       obtain ⟨sA,sn,sc,sst⟩:=s
       obtain ⟨mm,rfl⟩ : ∃ mm,sn = mm + 1:=⟨sn - 1,by have : 0 < sn:=hs0;omega⟩
       have hsA2 : sA = some ⟨gK,0,none⟩:=hsA
       subst hsA2
       have HA:=kp hA;have HbA:=kp hbA;have HSk:=kp hsk;have HCk:=kp hck;have HTh:=kp hth;have HbK:=kp hbK;have HPut:=kp hput;have HSlk:=kp hslk;have HSl:=kp hsl
       have HNeA:=kp (And.intro hAO (And.intro hAR hBA));have HNeK:=kp (And.intro hKO (And.intro hKR hBK));have HlK:=kp hlK;have Hkc:=kp hkc
       have hlA:=hbA.lt
       have hlen17 : mm + 1 ≤ 1000:=hlen16
       have hsc1 : mm + 1 ≤ sc:=hsc
       have hsm1 : sc ≤ maxLen:=hsm
       have HEO : Kept (q1.A = some ⟨gA,0,none⟩):=kp hA
       have hcO : w11.cell? ⟨gO,0,none⟩ = some (.slice (some ⟨gA,0,none⟩) q1.len q1.cap):=by have h:=HRB11.out.conf.cell 0;rw [hA] at h;exact h
       have hcA : w11.cell? ⟨gA,k,none⟩ = some (.slice (some ⟨gK,0,none⟩) (mm + 1) sc):=(hbA.cell k).trans hck
       have hcN:=HKN.out.cell 0
       simp only [ndC,List.getElem?_cons_zero] at hcN
       have hkl1 : k < q1.len:=by rw [HLn5.out];exact hkl
       have h81 : q1.len ≤ 8:=by rw [HLn5.out];exact h8
       unfold maxLen at hcm hsm1
       clear hk11 hg11 hs11' hA hbA hsk hck hth hslk hs0 hlen16 hsA hbK hput hAO hAR hBA hKO hKR hBK hsl hsc hsm hlK hkc HKN10 HB9 HB10 hs9 hs10))
  have hlO11:=HRB11.out.conf.lt
  apply jH 10 (.is _ :: .is _ :: .is _ :: .is _ :: .is _ :: .is _ :: .is _ :: .is _ :: .is _ :: .is _ :: [])
    [[],[(0,50)],[],[(1,51),(2,52)],[(3,53)],[],[],[(6,56)],[(4,54),(5,55)],[(8,58)],[(9,59),(7,57)]]
    [(0,50),(1,51),(2,52),(3,53),(4,54),(5,55),(6,56),(7,57),(8,58),(9,59)] (by kernel_rfl) (by kernel_rfl) (by kernel_rfl) (by kernel_rfl) (by kernel_rfl)
  case hob =>
    refine ⟨?o0,?o1,?o2,?o3,?o4,?o5,?o6,?o7,?o8,?o9,trivial⟩
    case o0 => intro W hW;change wpList _ _ _ _ _ _;go_wp2;exact j0 rfl rfl rfl
    case o1 =>
      intro W hW;rintro _ rfl;change wpList _ _ _ _ _ _
      have hc:=(HRB11.out.conf.below hW hlO11).cell 0
      rw [HEO.out] at hc
      have hc2 : W.cell? ⟨gO,0,none⟩ = some (.slice (some ⟨gA,0,none⟩) q1.len q1.cap):=hc
      clear hc
      go_wp2;exact j0 rfl rfl rfl
    case o2 => intro W hW;change wpList _ _ _ _ _ _;go_wp2;exact j0 rfl rfl rfl
    case o3 => intro W hW;rintro _ rfl;rintro _ rfl;change wpList _ _ _ _ _ _;go_wp2;exact j0 rfl rfl rfl
    case o4 =>
      intro W hW;rintro _ rfl;change wpList _ _ _ _ _ _
      have hc : W.cell? ⟨gA,k,none⟩ = some (.slice (some ⟨gK,0,none⟩) (mm + 1) sc):=((HbA.out.below hW hlA).cell k).trans HCk.out
      go_wp2;exact j0 rfl rfl rfl
    case o5 => intro W hW;change wpList _ _ _ _ _ _;go_wp2;exact j0 rfl rfl rfl
    case o6 => intro W hW;change wpList _ _ _ _ _ _;go_wp2;exact j0 rfl rfl rfl
    case o7 =>
      intro W hW;rintro _ rfl;change wpList _ _ _ _ _ _
      have hc:=(HKN.out.below hW hlN).cell 2
      simp only [ndC,List.getElem?_cons_zero,List.getElem?_cons_succ] at hc
      rw [HNx.out] at hc
      go_wp2;exact j0 rfl rfl rfl
    case o8 => intro W hW;rintro _ rfl;rintro _ rfl;change wpList _ _ _ _ _ _;go_wp2;exact j0 rfl rfl rfl
    case o9 => intro W hW;rintro _ rfl;change wpList _ _ _ _ _ _;go_wp2;exact j0 rfl rfl rfl
  case hend =>
    intro W hW;rintro _ rfl;rintro _ rfl;rintro _ rfl;rintro _ rfl;rintro _ rfl;rintro _ rfl;rintro _ rfl;rintro _ rfl;rintro _ rfl;rintro _ rfl
    simp only [given,jJ,List.set,List.drop]
    have HbKw:=kp (HbK.out.below hW hgK)
    have HBW:=kp (HB11.out.trans (hW.mono hs11));have hsW:=HBW.out.size;have hsWW:=hW.size
    have HWk:=kp hW
    have HKNw:=kp (HKN.out.below hW hlN);have HKRw:=kp (HKR11.out.below hW hlR11);have HK5w:=kp (HK511.out.below hW hl511)
    have HGK : Kept (w4.heap.size ≤ gK):=kp HNeK.out.2.2
    have hgN11 : gK ≠ gN:=fun e => by have h1:=HKN.out;have h2:=HbK.out;rw [e] at h2;exact jY h1 h2 (by decide)
    have hgR11 : gK ≠ gR:=HNeK.out.2.1
    have hg511 : gK ≠ g5:=fun e => by have h1:=HK511.out;have h2:=HbK.out;rw [e] at h2;exact jY h1 h2 (by decide)
    clear hW
    go_wp2_with (first
      | ((with_reducible show Sn);(refine j9 rfl 3 (.tmp 59) (.tmp 57) rfl gK (mm * 2 + 1) (.int .i64 (nx : Int)) rfl rfl rfl rfl _ _ HbKw.out (by have h:=HlK.out;simpa using h) lS ?_);intro w12 hk12 hg12 hs12
         have HRB12:=kp (HPut.out W w12 nx HWk.out (by simpa using hk12) hg12 (by omega))
         have HB12:=kp (HBW.out.grown hg12 hsW (fun k e => by cases e;exact HGK.out));have hs412:=HB12.out.size
         have HKN12:=kp (HKNw.out.grown hg12 (fun e => by cases e;exact hgN11 rfl));have HKR12:=kp (HKRw.out.grown hg12 (fun e => by cases e;exact hgR11 rfl));have HK512:=kp (HK5w.out.grown hg12 (fun e => by cases e;exact hg511 rfl))
         have HbK12:=kp hk12
         have hlN12:=HKN12.out.lt;have hlR12:=HKR12.out.lt;have hl512:=HK512.out.lt;have hlO12:=HRB12.out.conf.lt
         have hcN0:=HKN12.out.cell 0;have hcN1:=HKN12.out.cell 1;have hcN3:=HKN12.out.cell 3;have hc51:=HK512.out.cell 1
         simp only [ndC,List.getElem?_cons_zero,List.getElem?_cons_succ] at hcN0 hcN1 hcN3 hc51
         rw [HAr.out] at hcN1
         rw [HAl.out] at hcN3
         clear hk12 hg12 hs12
         rw [HWay.out] at hc51
         have HKRz:=HKR12;have HKOz:=kp (show Blk w12 gO 63 (rcC ⟨q1.A,q1.cap,q1.svs.set k ⟨some ⟨gK,0,none⟩,mm + 1,sc,M.goOn sst nx⟩,q1.A2,q1.cap2,q1.sls,q1.len,q1.ow⟩) from HRB12.out.conf)
         have HMz:=kp (show RMine w12 w4.heap.size ⟨q1.A,q1.cap,q1.svs.set k ⟨some ⟨gK,0,none⟩,mm + 1,sc,M.goOn sst nx⟩,q1.A2,q1.cap2,q1.sls,q1.len,q1.ow⟩ from HRB12.out.mine)
         have HLz : Kept ((rcC ⟨q1.A,q1.cap,q1.svs.set k ⟨some ⟨gK,0,none⟩,mm + 1,sc,M.goOn sst nx⟩,q1.A2,q1.cap2,q1.sls,q1.len,q1.ow⟩).length = 18):=kp (l9 (by show (q1.ow).length = 16;(first | rw [List.length_set,HOw5.out] | rw [HOw5.out]);exact H16.out)))
      | ((with_reducible show Sl 141);go_must (refine j4 rfl 63 (.tmp 7) rfl gO rfl _ (rcC ⟨q1.A,q1.cap,q1.svs.set k ⟨some ⟨gK,0,none⟩,mm + 1,sc,M.goOn sst nx⟩,q1.A2,q1.cap2,q1.sls,q1.len,q1.ow⟩) _ HKOz.out Try.underlying63 rfl (by rw [HLz.out];exact jA) ?_))
      | ((with_reducible show Sn);(refine j5 rfl 63 (.tmp 6) (.tmp 141) rfl gR (rcC ⟨q1.A,q1.cap,q1.svs.set k ⟨some ⟨gK,0,none⟩,mm + 1,sc,M.goOn sst nx⟩,q1.A2,q1.cap2,q1.sls,q1.len,q1.ow⟩) rfl rfl _ _ HKRz.out (by rw [HLz.out];exact jA) (by rw [HLz.out];rfl) (lL _) ?_);intro wy hky hgy hsy
         have HKy:=kp hky;have HMy:=kp (HMz.out.far hgy (.inl hlR4));have HBy:=kp ((HW4.out.trans (HB12.out.mono hs4)).grown hgy (by omega) (fun k e => by cases e;have:=HGR.out;omega));clear hky hgy hsy)
      | ((with_reducible show bodyPost _ _ _ _ _ _);exact bodyPost_ret (jP (P:=Try.prog) (fn:=Try.f50) rfl _ _ gR 63 _ _ rfl HKy.out Try.underlying63 rfl (by rw [HLz.out];exact jA)) rfl ⟨_,rfl,HMy.out.lessR hs4,(by
            refine (vR (yX HSlk.out)).trans ?_
            have e : q.cf = ⟨List.zipWith (fun (s : Sv) l => (⟨s.stack,l⟩ : M.Th)) q1.svs q1.sls,q1.ow⟩:=HCf5.out.symm
            rw [act_go (by omega) (by omega) (by omega) (by omega) (fun h => by have h2:=HWay.out;rw [h.2] at h2;cases h2) (by omega),← HCf5.out,HTh.out,HNx.out,Int.toNat_natCast]
            first | rfl | (rw [← HCf5.out];rfl)),HBy.out⟩))
end Go.Proofs.Ytcbfghcdbmlneaa
