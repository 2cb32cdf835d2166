/- The document's interpreter, walked: Enabled. -/
import Derived.Test.YtcbfghcdbmlneaaPk22
import Derived.Test.YtcbfghcdbmlneaaPk17
import Derived.Test.YtcbfghcdbmlneaaPk10
namespace Go.Proofs.Ytcbfghcdbmlneaa
open Go.RowKit
set_option maxRecDepth 100000 in
set_option maxHeartbeats 3200000 in
theorem qH (B : Nat) (p : Pg) (hf : Fine p) (q : Rc) (w : World) (hp : p.Ok w B) (hq : q.Ok w B) (hg : M.Good p q.cf) (hB : B ≤ w.heap.size) (t : Int) (ht : I64 t) (b : Bool) (hb : M.enabled p q.cf t = b) :
    Calls Try.prog 74 #[rcA q,pgA p,.int .i64 t] w fun e w' => e = .returned (.bool b) ∧ Below w.heap.size w w':=by
  have h8 : q.len ≤ 8:=by rw [← hq.len];exact hg.most
  have hq18 : (rcC q).length = 18:=l9 hg.owns
  have HQ18:=kp hq18
  have HP:=kp hp;have HQ:=kp hq;have HT:=kp ht;have HG:=kp hg;have HFine:=kp hf
  have hqc:=hq.lc.1;have hqm:=hq.lc.2;have hqc2:=hq.lc2.1;have hqm2:=hq.lc2.2
  unfold maxLen at hqm hqm2
  cases hlv : M.lives q.cf t
  · have hbf:=QN (p:=p) hlv
    rw [hbf] at hb
    subst hb
    have HLv:=kp hlv
    clear hp hq ht hg hf hq18 hlv hbf
    rw [q8,jL]
    go_enter Try.func74,Try.ntmps74
    go_wp2_with (first
      | ((with_reducible refine j6 rfl 63 (.tmp 0) rfl (rcC q) rfl ?_);intro g1 w1 hg1 hk1 hw1;have HK1:=kp hk1;have HW1:=kp hw1;have hs1:=hw1.size;have hl1:=hk1.lt;clear hk1 hw1)
      | ((with_reducible refine j6 rfl 46 (.tmp 1) rfl (pgC p) rfl ?_);intro g2 w2 hg2 hk2 hw2;have HK12:=kp (HK1.out.below hw2 hl1);have HK2:=kp hk2;have HW2:=kp (HW1.out.trans (hw2.mono hs1));have hs2:=HW2.out.size;have hl12:=HK12.out.lt;have hl2:=hk2.lt;clear hk2 hw2)
      | ((with_reducible show Sl 8);go_must (refine j4 rfl 63 (.tmp 3) rfl g1 rfl _ (rcC q) _ HK12.out Try.underlying63 rfl (by rw [HQ18.out];exact jA) ?_))
      | (go_at_call 71;go_must (refine (qU B q w2 (HQ.out.below (HW2.out.mono hB)) (by omega) (by omega) (t) HT.out false HLv.out).mono ?_);rintro e w4 ⟨rfl,hb4⟩
         have HW4:=kp (HW2.out.trans (hb4.mono hs2));have HK14:=kp (HK12.out.below hb4 hl12);have HK24:=kp (HK2.out.below hb4 hl2);have hl14:=HK14.out.lt;have hl24:=HK24.out.lt;have hs4:=HW4.out.size;clear hb4))
    go_ret
    exact ⟨rfl,HW4.out⟩
  · obtain ⟨k,rfl⟩ : ∃ k : Nat,t = (k : Int):=⟨t.toNat,by
      unfold M.lives at hlv
      rw [Bool.and_eq_true,decide_eq_true_eq] at hlv
      omega⟩
    obtain ⟨x,hx⟩ : ∃ x,M.node p q.cf k = x:=⟨_,rfl⟩
    have hlv2:=hlv
    rw [M.lives_nat] at hlv2
    have hkl : k < q.len:=by rw [← hq.len];exact M.lives_lt hlv2
    obtain ⟨fn,hfn,_,_⟩:=M.node_is hg hlv2
    have hfit:=M.node_fit hf hg hlv2 hfn
    rw [hx] at hfit
    have HLv:=kp hlv;have HLv2:=kp hlv2;have HX:=kp hx
    rw [QO hlv hx] at hb
    obtain ⟨ad,sv,ad2,sl,hA,hadB,hsv,hsok,hc0,hA2,had2B,hsl,hthc,hssl,hcs⟩:=hq.thread hkl
    rw [hthc] at hb
    obtain ⟨a,ha⟩ : ∃ a : Nat,x.arg = (a : Int):=⟨x.arg.toNat,by have:=hfit.arg;omega⟩
    rw [ha,Int.toNat_natCast] at hb
    have h16:=hg.owns
    have HE : Kept (rcC q = .slice (some ad) q.len q.cap :: .slice (some ad2) q.len q.cap2 :: q.ow.map natV):=kp (by unfold rcC;rw [hA,hA2])
    have hEx : Kept (ndC x = [.int .i64 x.kind,.int .i64 (a : Int),.int .i64 x.next,.int .i64 x.alt]):=kp (by unfold ndC;rw [ha])
    by_cases k3 : x.kind = 3
    · rw [if_pos k3] at hb
      have hal:=hfit.lock (.inl k3)
      have HO : Kept ((rcC q)[2 + a]? = some (.int .i64 (q.ow.getD a 0 : Int))):=kp (by rw [HE.out,show 2 + a = (a + 1) + 1 by omega,List.getElem?_cons_succ,List.getElem?_cons_succ];exact QE h16 (by omega))
      have hb' : decide (q.ow.getD a 0 = 0) = b:=hb
      obtain ⟨o,ho⟩ : ∃ o,q.ow.getD a 0 = o:=⟨_,rfl⟩
      rw [ho] at HO hb'
      have e3 : (x.kind == 3) = true:=by rw [beq_iff_eq];exact k3
      have e6 : (x.kind == 6) = false:=by rw [beq_eq_false_iff_ne];omega
      have e5 : (x.kind != 5) = true:=by rw [bne_iff_ne];omega
      have ha16 : a < 16:=by omega
      by_cases ho0 : o = 0
      · have hoe : ((o : Int) != 0) = false:=by rw [ho0];rfl
        have HB : Kept (true = b):=kp (by rw [← hb',decide_eq_true ho0])
        clear hp hq ht hg hf hq18 hlv hlv2 hx hfit hsv hsok hthc hssl hsl hc0 hcs ha hA hA2 hfn
        rw [q8,jL]
        go_enter Try.func74,Try.ntmps74
        go_wp2_with (first
          | ((with_reducible refine j6 rfl 63 (.tmp 0) rfl (rcC q) rfl ?_);intro g1 w1 hg1 hk1 hw1;have HK1:=kp hk1;have HW1:=kp hw1;have hs1:=hw1.size;have hl1:=hk1.lt;clear hk1 hw1)
          | ((with_reducible refine j6 rfl 46 (.tmp 1) rfl (pgC p) rfl ?_);intro g2 w2 hg2 hk2 hw2;have HK12:=kp (HK1.out.below hw2 hl1);have HK2:=kp hk2;have HW2:=kp (HW1.out.trans (hw2.mono hs1));have hs2:=HW2.out.size;have hl12:=HK12.out.lt;have hl2:=hk2.lt;clear hk2 hw2)
          | ((with_reducible show Sl 8);go_must (refine j4 rfl 63 (.tmp 3) rfl g1 rfl _ (rcC q) _ HK12.out Try.underlying63 rfl (by rw [HQ18.out];exact jA) ?_))
          | (go_at_call 71;go_must (refine (qU B q w2 (HQ.out.below (HW2.out.mono hB)) (by omega) (by omega) ((k : Int)) HT.out true HLv.out).mono ?_);rintro e w4 ⟨rfl,hb4⟩
             have HW4:=kp (HW2.out.trans (hb4.mono hs2));have HK14:=kp (HK12.out.below hb4 hl12);have HK24:=kp (HK2.out.below hb4 hl2);have hl14:=HK14.out.lt;have hl24:=HK24.out.lt;have hs4:=HW4.out.size;clear hb4)
          | ((with_reducible show Sl 12);go_must (refine j4 rfl 63 (.tmp 3) rfl g1 rfl _ (rcC q) _ HK14.out Try.underlying63 rfl (by rw [HQ18.out];exact jA) ?_))
          | ((with_reducible show Sl 13);go_must (refine j4 rfl 46 (.tmp 4) rfl g2 rfl _ (pgC p) _ HK24.out Try.underlying46 rfl jF ?_))
          | (go_at_call 72;go_must (refine (xO B p HFine.out q w4 (HP.out.below (HW4.out.mono hB)) (HQ.out.below (HW4.out.mono hB)) HG.out (by omega) k HLv2.out x HX.out).mono ?_);rintro e w5 ⟨rfl,hb5⟩
             have HW5:=kp (HW4.out.trans (hb5.mono hs4));have HK15:=kp (HK14.out.below hb5 hl14);have hl15:=HK15.out.lt;have hs5:=HW5.out.size;clear hb5)
          | ((with_reducible show Sl 7);go_must (refine j7 rfl 97 rfl (ndC ⟨0,0,0,0⟩) l0 ?_);intro g3 w7 hg3 hk7 hw7
             have HK37:=kp hk7;have HK17:=kp (HK15.out.below hw7 hl15);have HW7:=kp (HW5.out.trans (hw7.mono hs5));have HNe : Kept (g1 ≠ g3 ∧ w.heap.size ≤ g3):=kp (by omega);clear hk7 hw7)
          | ((with_reducible show Sn);go_must (refine j5 rfl 97 (.tmp 7) (.tmp 15) rfl g3 (ndC x) rfl rfl _ _ HK37.out jO rfl (l5 _) ?_);intro w6 hk6 hg6 hs6
             have HK16:=kp (HK17.out.grown hg6 (fun e => by cases e;exact HNe.out.1 rfl));have HK36:=kp hk6;have HW6:=kp (HW7.out.grown hg6 HW7.out.size (fun k e => by cases e;exact HNe.out.2));clear hg6 hs6
             rw [hEx.out] at hk6;have hx0:=hk6.cell 0;have hx1:=hk6.cell 1;simp only [List.getElem?_cons_zero,List.getElem?_cons_succ] at hx0 hx1;clear hk6
             have hc1:=(HK16.out.cell (2 + a)).trans HO.out))
        go_quiet (fail)
        go_wp2
        go_ret
        exact ⟨jQ HB.out,below_drewN HW6.out _⟩
      · have hoe : ((o : Int) != 0) = true:=by rw [bne_iff_ne];omega
        have HB : Kept (false = b):=kp (by rw [← hb',decide_eq_false ho0])
        clear hp hq ht hg hf hq18 hlv hlv2 hx hfit hsv hsok hthc hssl hsl hc0 hcs ha hA hA2 hfn
        rw [q8,jL]
        go_enter Try.func74,Try.ntmps74
        go_wp2_with (first
          | ((with_reducible refine j6 rfl 63 (.tmp 0) rfl (rcC q) rfl ?_);intro g1 w1 hg1 hk1 hw1;have HK1:=kp hk1;have HW1:=kp hw1;have hs1:=hw1.size;have hl1:=hk1.lt;clear hk1 hw1)
          | ((with_reducible refine j6 rfl 46 (.tmp 1) rfl (pgC p) rfl ?_);intro g2 w2 hg2 hk2 hw2;have HK12:=kp (HK1.out.below hw2 hl1);have HK2:=kp hk2;have HW2:=kp (HW1.out.trans (hw2.mono hs1));have hs2:=HW2.out.size;have hl12:=HK12.out.lt;have hl2:=hk2.lt;clear hk2 hw2)
          | ((with_reducible show Sl 8);go_must (refine j4 rfl 63 (.tmp 3) rfl g1 rfl _ (rcC q) _ HK12.out Try.underlying63 rfl (by rw [HQ18.out];exact jA) ?_))
          | (go_at_call 71;go_must (refine (qU B q w2 (HQ.out.below (HW2.out.mono hB)) (by omega) (by omega) ((k : Int)) HT.out true HLv.out).mono ?_);rintro e w4 ⟨rfl,hb4⟩
             have HW4:=kp (HW2.out.trans (hb4.mono hs2));have HK14:=kp (HK12.out.below hb4 hl12);have HK24:=kp (HK2.out.below hb4 hl2);have hl14:=HK14.out.lt;have hl24:=HK24.out.lt;have hs4:=HW4.out.size;clear hb4)
          | ((with_reducible show Sl 12);go_must (refine j4 rfl 63 (.tmp 3) rfl g1 rfl _ (rcC q) _ HK14.out Try.underlying63 rfl (by rw [HQ18.out];exact jA) ?_))
          | ((with_reducible show Sl 13);go_must (refine j4 rfl 46 (.tmp 4) rfl g2 rfl _ (pgC p) _ HK24.out Try.underlying46 rfl jF ?_))
          | (go_at_call 72;go_must (refine (xO B p HFine.out q w4 (HP.out.below (HW4.out.mono hB)) (HQ.out.below (HW4.out.mono hB)) HG.out (by omega) k HLv2.out x HX.out).mono ?_);rintro e w5 ⟨rfl,hb5⟩
             have HW5:=kp (HW4.out.trans (hb5.mono hs4));have HK15:=kp (HK14.out.below hb5 hl14);have hl15:=HK15.out.lt;have hs5:=HW5.out.size;clear hb5)
          | ((with_reducible show Sl 7);go_must (refine j7 rfl 97 rfl (ndC ⟨0,0,0,0⟩) l0 ?_);intro g3 w7 hg3 hk7 hw7
             have HK37:=kp hk7;have HK17:=kp (HK15.out.below hw7 hl15);have HW7:=kp (HW5.out.trans (hw7.mono hs5));have HNe : Kept (g1 ≠ g3 ∧ w.heap.size ≤ g3):=kp (by omega);clear hk7 hw7)
          | ((with_reducible show Sn);go_must (refine j5 rfl 97 (.tmp 7) (.tmp 15) rfl g3 (ndC x) rfl rfl _ _ HK37.out jO rfl (l5 _) ?_);intro w6 hk6 hg6 hs6
             have HK16:=kp (HK17.out.grown hg6 (fun e => by cases e;exact HNe.out.1 rfl));have HK36:=kp hk6;have HW6:=kp (HW7.out.grown hg6 HW7.out.size (fun k e => by cases e;exact HNe.out.2));clear hg6 hs6
             rw [hEx.out] at hk6;have hx0:=hk6.cell 0;have hx1:=hk6.cell 1;simp only [List.getElem?_cons_zero,List.getElem?_cons_succ] at hx0 hx1;clear hk6
             have hc1:=(HK16.out.cell (2 + a)).trans HO.out))
        go_ret
        exact ⟨jQ HB.out,HW6.out⟩
    rw [if_neg k3] at hb
    have e3 : (x.kind == 3) = false:=by rw [beq_eq_false_iff_ne];exact k3
    by_cases k6 : x.kind = 6
    · rw [if_pos k6] at hb
      have hal:=hfit.join k6
      have e6 : (x.kind == 6) = true:=by rw [beq_iff_eq];exact k6
      have e5 : (x.kind != 5) = true:=by rw [bne_iff_ne];omega
      have ha8 : a < 8:=by omega
      have hb' : (!M.lives q.cf ((sl.getD a 0 : Int) - 1)) = b:=hb
      obtain ⟨o,ho⟩ : ∃ o,sl.getD a 0 = o:=⟨_,rfl⟩
      rw [ho] at hb'
      have hoc : w.cell? ((ad2.add (k * 8)).add a) = some (.int .i64 (o : Int)):=by
        rw [add_add,hcs a ha8,ho]
      have HOc:=kp hoc
      have ho8 : o ≤ 8:=by
        have hm:=M.th_mem (M.lives_lt hlv2)
        rw [hthc] at hm
        have h1:=hg.slot _ hm
        have h2 : sl.length = 8:=hg.eight _ hm
        rw [← ho,List.getD_eq_getElem?_getD,List.getElem?_eq_getElem (by omega)]
        exact h1 _ (List.getElem_mem _)
      by_cases ho0 : o = 0
      · have hoe : ((o : Int) != 0) = false:=by rw [ho0];rfl
        have HB : Kept (true = b):=kp (by rw [← hb',ho0];rfl)
        clear hp hq ht hg hf hq18 hlv hlv2 hx hfit hsv hsok hthc hssl hsl hc0 hcs ha hA hA2 hfn
        rw [q8,jL]
        go_enter Try.func74,Try.ntmps74
        go_wp2_with (first
          | ((with_reducible refine j6 rfl 63 (.tmp 0) rfl (rcC q) rfl ?_);intro g1 w1 hg1 hk1 hw1;have HK1:=kp hk1;have HW1:=kp hw1;have hs1:=hw1.size;have hl1:=hk1.lt;clear hk1 hw1)
          | ((with_reducible refine j6 rfl 46 (.tmp 1) rfl (pgC p) rfl ?_);intro g2 w2 hg2 hk2 hw2;have HK12:=kp (HK1.out.below hw2 hl1);have HK2:=kp hk2;have HW2:=kp (HW1.out.trans (hw2.mono hs1));have hs2:=HW2.out.size;have hl12:=HK12.out.lt;have hl2:=hk2.lt;clear hk2 hw2)
          | ((with_reducible show Sl 8);go_must (refine j4 rfl 63 (.tmp 3) rfl g1 rfl _ (rcC q) _ HK12.out Try.underlying63 rfl (by rw [HQ18.out];exact jA) ?_))
          | (go_at_call 71;go_must (refine (qU B q w2 (HQ.out.below (HW2.out.mono hB)) (by omega) (by omega) ((k : Int)) HT.out true HLv.out).mono ?_);rintro e w4 ⟨rfl,hb4⟩
             have HW4:=kp (HW2.out.trans (hb4.mono hs2));have HK14:=kp (HK12.out.below hb4 hl12);have HK24:=kp (HK2.out.below hb4 hl2);have hl14:=HK14.out.lt;have hl24:=HK24.out.lt;have hs4:=HW4.out.size;clear hb4)
          | ((with_reducible show Sl 12);go_must (refine j4 rfl 63 (.tmp 3) rfl g1 rfl _ (rcC q) _ HK14.out Try.underlying63 rfl (by rw [HQ18.out];exact jA) ?_))
          | ((with_reducible show Sl 13);go_must (refine j4 rfl 46 (.tmp 4) rfl g2 rfl _ (pgC p) _ HK24.out Try.underlying46 rfl jF ?_))
          | (go_at_call 72;go_must (refine (xO B p HFine.out q w4 (HP.out.below (HW4.out.mono hB)) (HQ.out.below (HW4.out.mono hB)) HG.out (by omega) k HLv2.out x HX.out).mono ?_);rintro e w5 ⟨rfl,hb5⟩
             have HW5:=kp (HW4.out.trans (hb5.mono hs4));have HK15:=kp (HK14.out.below hb5 hl14);have hl15:=HK15.out.lt;have hs5:=HW5.out.size;clear hb5)
          | ((with_reducible show Sl 7);go_must (refine j7 rfl 97 rfl (ndC ⟨0,0,0,0⟩) l0 ?_);intro g3 w7 hg3 hk7 hw7
             have HK37:=kp hk7;have HK17:=kp (HK15.out.below hw7 hl15);have HW7:=kp (HW5.out.trans (hw7.mono hs5));have HNe : Kept (g1 ≠ g3 ∧ w.heap.size ≤ g3):=kp (by omega);clear hk7 hw7)
          | ((with_reducible show Sn);go_must (refine j5 rfl 97 (.tmp 7) (.tmp 15) rfl g3 (ndC x) rfl rfl _ _ HK37.out jO rfl (l5 _) ?_);intro w6 hk6 hg6 hs6
             have HK16:=kp (HK17.out.grown hg6 (fun e => by cases e;exact HNe.out.1 rfl));have HK36:=kp hk6;have HW6:=kp (HW7.out.grown hg6 HW7.out.size (fun k e => by cases e;exact HNe.out.2));clear hg6 hs6
             rw [hEx.out] at hk6;have hx0:=hk6.cell 0;have hx1:=hk6.cell 1;simp only [List.getElem?_cons_zero,List.getElem?_cons_succ] at hx0 hx1;clear hk6
             have hc1:=HK16.out.cell 1;rw [HE.out] at hc1;simp only [List.getElem?_cons_zero,List.getElem?_cons_succ] at hc1
             have hso:=(HW6.out.cell (p:=(ad2.add (k * 8)).add a) (by rw [add_block,add_block];omega)).trans HOc.out))
        go_quiet (fail)
        go_wp2
        go_ret
        exact ⟨jQ HB.out,below_drewN HW6.out _⟩
      · have hoe : ((o : Int) != 0) = true:=by rw [bne_iff_ne];omega
        obtain ⟨bl,hbl⟩ : ∃ bl,M.lives q.cf ((o : Int) - 1) = bl:=⟨_,rfl⟩
        rw [hbl] at hb'
        have HBl:=kp hbl
        have HI1 : Kept (I64 ((o : Int) - 1)):=kp (by unfold I64;omega)
        subst hb'
        clear hbl
        clear hp hq ht hg hf hq18 hlv hlv2 hx hfit hsv hsok hthc hssl hsl hc0 hcs ha hA hA2 hfn
        rw [q8,jL]
        go_enter Try.func74,Try.ntmps74
        go_wp2_with (first
          | ((with_reducible refine j6 rfl 63 (.tmp 0) rfl (rcC q) rfl ?_);intro g1 w1 hg1 hk1 hw1;have HK1:=kp hk1;have HW1:=kp hw1;have hs1:=hw1.size;have hl1:=hk1.lt;clear hk1 hw1)
          | ((with_reducible refine j6 rfl 46 (.tmp 1) rfl (pgC p) rfl ?_);intro g2 w2 hg2 hk2 hw2;have HK12:=kp (HK1.out.below hw2 hl1);have HK2:=kp hk2;have HW2:=kp (HW1.out.trans (hw2.mono hs1));have hs2:=HW2.out.size;have hl12:=HK12.out.lt;have hl2:=hk2.lt;clear hk2 hw2)
          | ((with_reducible show Sl 8);go_must (refine j4 rfl 63 (.tmp 3) rfl g1 rfl _ (rcC q) _ HK12.out Try.underlying63 rfl (by rw [HQ18.out];exact jA) ?_))
          | (go_at_call 71;go_must (refine (qU B q w2 (HQ.out.below (HW2.out.mono hB)) (by omega) (by omega) ((k : Int)) HT.out true HLv.out).mono ?_);rintro e w4 ⟨rfl,hb4⟩
             have HW4:=kp (HW2.out.trans (hb4.mono hs2));have HK14:=kp (HK12.out.below hb4 hl12);have HK24:=kp (HK2.out.below hb4 hl2);have hl14:=HK14.out.lt;have hl24:=HK24.out.lt;have hs4:=HW4.out.size;clear hb4)
          | ((with_reducible show Sl 12);go_must (refine j4 rfl 63 (.tmp 3) rfl g1 rfl _ (rcC q) _ HK14.out Try.underlying63 rfl (by rw [HQ18.out];exact jA) ?_))
          | ((with_reducible show Sl 13);go_must (refine j4 rfl 46 (.tmp 4) rfl g2 rfl _ (pgC p) _ HK24.out Try.underlying46 rfl jF ?_))
          | (go_at_call 72;go_must (refine (xO B p HFine.out q w4 (HP.out.below (HW4.out.mono hB)) (HQ.out.below (HW4.out.mono hB)) HG.out (by omega) k HLv2.out x HX.out).mono ?_);rintro e w5 ⟨rfl,hb5⟩
             have HW5:=kp (HW4.out.trans (hb5.mono hs4));have HK15:=kp (HK14.out.below hb5 hl14);have hl15:=HK15.out.lt;have hs5:=HW5.out.size;clear hb5)
          | ((with_reducible show Sl 7);go_must (refine j7 rfl 97 rfl (ndC ⟨0,0,0,0⟩) l0 ?_);intro g3 w7 hg3 hk7 hw7
             have HK37:=kp hk7;have HK17:=kp (HK15.out.below hw7 hl15);have HW7:=kp (HW5.out.trans (hw7.mono hs5));have HNe : Kept (g1 ≠ g3 ∧ w.heap.size ≤ g3):=kp (by omega);clear hk7 hw7)
          | ((with_reducible show Sn);go_must (refine j5 rfl 97 (.tmp 7) (.tmp 15) rfl g3 (ndC x) rfl rfl _ _ HK37.out jO rfl (l5 _) ?_);intro w6 hk6 hg6 hs6
             have HK16:=kp (HK17.out.grown hg6 (fun e => by cases e;exact HNe.out.1 rfl));have HK36:=kp hk6;have HW6:=kp (HW7.out.grown hg6 HW7.out.size (fun k e => by cases e;exact HNe.out.2));clear hg6 hs6
             rw [hEx.out] at hk6;have hx0:=hk6.cell 0;have hx1:=hk6.cell 1;simp only [List.getElem?_cons_zero,List.getElem?_cons_succ] at hx0 hx1;clear hk6
             have hc1:=HK16.out.cell 1;rw [HE.out] at hc1;simp only [List.getElem?_cons_zero,List.getElem?_cons_succ] at hc1
             have hso:=(HW6.out.cell (p:=(ad2.add (k * 8)).add a) (by rw [add_block,add_block];omega)).trans HOc.out))
        have hg16:=HK16.out.lt;have hg36:=HK36.out.lt
        apply qM (.is _ :: .is _ :: .is _ :: .is _ :: .is _ :: .is _ :: .is _ :: .is _ :: .is _ :: .is _ :: .is _ :: .is _ :: .is _ :: .is _ :: .is _ :: .is (rcA q) :: .is _ :: .is _ :: .is _ :: .is _ :: .is _ :: .is _ :: .is _ :: .is _ :: .is _ :: .is (.bool bl) :: .is _ :: [])
          [[],[(0,27)],[(1,28)],[(2,29)],[(3,30)],[(4,31),(3,30)],[(3,30)],[(3,30)],[(7,34),(3,30)],[(5,32),(6,33),(3,30)],[(9,36),(8,35),(3,30)],[(10,37),(3,30)],[(11,38),(3,30)],[(3,30),(12,39)],[(13,40)],[(14,41)],[(14,41)],[(16,43),(14,41)],[(14,41)],[(14,41)],[(19,46),(14,41)],[(17,44),(18,45),(14,41)],[(21,48),(20,47),(14,41)],[(22,49),(14,41)],[(23,50),(14,41)],[(15,42),(24,51),(14,41)],[(14,41),(25,52)]]
          [(0,27),(1,28),(2,29),(3,30),(4,31),(5,32),(6,33),(7,34),(8,35),(9,36),(10,37),(11,38),(12,39),(13,40),(14,41),(15,42),(16,43),(17,44),(18,45),(19,46),(20,47),(21,48),(22,49),(23,50),(24,51),(25,52),(26,53)] (by kernel_rfl) (by kernel_rfl)
        case hob =>
          refine ⟨?o0,?o1,?o2,?o3,?o4,?o5,?o6,?o7,?o8,?o9,?o10,?o11,?o12,?o13,?o14,?o15,?o16,?o17,?o18,?o19,?o20,?o21,?o22,?o23,?o24,?o25,?o26,trivial⟩
          case o0 => intro W hW;change wpList _ _ _ _ _ _;go_wp2;exact j0 rfl rfl rfl
          case o1 =>
            intro W hW;rintro _ rfl;change wpList _ _ _ _ _ _
            have hc0:=(hW.cell (p:=⟨g3,0,none⟩) hg36).trans hx0
            go_wp2;exact j0 rfl rfl rfl
          case o2 => intro W hW;rintro _ rfl;change wpList _ _ _ _ _ _;go_wp2;exact j0 rfl rfl rfl
          case o3 => intro W hW;rintro _ rfl;change wpList _ _ _ _ _ _;go_wp2;exact j0 rfl rfl rfl
          case o4 => intro W hW;rintro _ rfl;change wpList _ _ _ _ _ _;go_wp2;exact j0 rfl rfl rfl
          case o5 =>
            intro W hW;rintro _ rfl;rintro _ rfl;change wpList _ _ _ _ _ _
            have hc0:=(hW.cell (p:=⟨g1,1,none⟩) hg16).trans hc1
            go_wp2;exact j0 rfl rfl rfl
          case o6 => intro W hW;rintro _ rfl;change wpList _ _ _ _ _ _;go_wp2;exact j0 rfl rfl rfl
          case o7 => intro W hW;rintro _ rfl;change wpList _ _ _ _ _ _;go_wp2;exact j0 rfl rfl rfl
          case o8 =>
            intro W hW;rintro _ rfl;rintro _ rfl;change wpList _ _ _ _ _ _
            have hc0:=(hW.cell (p:=⟨g3,1,none⟩) hg36).trans hx1
            go_wp2;exact j0 rfl rfl rfl
          case o9 => intro W hW;rintro _ rfl;rintro _ rfl;rintro _ rfl;change wpList _ _ _ _ _ _;go_wp2;exact j0 rfl rfl rfl
          case o10 => intro W hW;rintro _ rfl;rintro _ rfl;rintro _ rfl;change wpList _ _ _ _ _ _;go_wp2;exact j0 rfl rfl rfl
          case o11 =>
            intro W hW;rintro _ rfl;rintro _ rfl;change wpList _ _ _ _ _ _
            have hc0:=((HW6.out.trans (hW.mono HW6.out.size)).cell (p:=(ad2.add (k * 8)).add a) (by rw [add_block,add_block];omega)).trans HOc.out
            go_wp2;exact j0 rfl rfl rfl
          case o12 => intro W hW;rintro _ rfl;rintro _ rfl;change wpList _ _ _ _ _ _;go_wp2;exact j0 rfl rfl rfl
          case o13 => intro W hW;rintro _ rfl;rintro _ rfl;change wpList _ _ _ _ _ _;go_wp2;exact j0 rfl rfl rfl
          case o14 => intro W hW;rintro _ rfl;change wpList _ _ _ _ _ _;go_wp2;exact j0 rfl rfl rfl
          case o15 =>
            intro W hW;rintro _ rfl;change wpList _ _ _ _ _ _
            have HKw:=kp (HK16.out.below hW hg16)
            go_wp2_with ((with_reducible show Sl 42);go_must (refine lO rfl 63 (.tmp 3) rfl g1 rfl _ (rcC q) _ HKw.out Try.underlying63 rfl (by rw [HQ18.out];exact jA) ?_))
            exact j0 rfl rfl rfl
          case o16 => intro W hW;rintro _ rfl;change wpList _ _ _ _ _ _;go_wp2;exact j0 rfl rfl rfl
          case o17 =>
            intro W hW;rintro _ rfl;rintro _ rfl;change wpList _ _ _ _ _ _
            have hc0:=(hW.cell (p:=⟨g1,1,none⟩) hg16).trans hc1
            go_wp2;exact j0 rfl rfl rfl
          case o18 => intro W hW;rintro _ rfl;change wpList _ _ _ _ _ _;go_wp2;exact j0 rfl rfl rfl
          case o19 => intro W hW;rintro _ rfl;change wpList _ _ _ _ _ _;go_wp2;exact j0 rfl rfl rfl
          case o20 =>
            intro W hW;rintro _ rfl;rintro _ rfl;change wpList _ _ _ _ _ _
            have hc0:=(hW.cell (p:=⟨g3,1,none⟩) hg36).trans hx1
            go_wp2;exact j0 rfl rfl rfl
          case o21 => intro W hW;rintro _ rfl;rintro _ rfl;rintro _ rfl;change wpList _ _ _ _ _ _;go_wp2;exact j0 rfl rfl rfl
          case o22 => intro W hW;rintro _ rfl;rintro _ rfl;rintro _ rfl;change wpList _ _ _ _ _ _;go_wp2;exact j0 rfl rfl rfl
          case o23 =>
            intro W hW;rintro _ rfl;rintro _ rfl;change wpList _ _ _ _ _ _
            have hc0:=((HW6.out.trans (hW.mono HW6.out.size)).cell (p:=(ad2.add (k * 8)).add a) (by rw [add_block,add_block];omega)).trans HOc.out
            go_wp2;exact j0 rfl rfl rfl
          case o24 => intro W hW;rintro _ rfl;rintro _ rfl;change wpList _ _ _ _ _ _;go_wp2;exact j0 rfl rfl rfl
          case o25 =>
            intro W hW;rintro _ rfl;rintro _ rfl;rintro _ rfl;change wpList _ _ _ _ _ _
            go_wp2_with fail
            refine (qU B q W (HQ.out.below ((HW6.out.trans (hW.mono HW6.out.size)).mono hB)) (by have:=(HW6.out.trans (hW.mono HW6.out.size)).size;omega) (by omega) ((o : Int) - 1) HI1.out bl HBl.out).mono ?_
            rintro e w2 ⟨rfl,hb2⟩
            have HB2:=kp hb2;clear hb2
            go_wp2
            exact jG rfl rfl rfl HB2.out rfl
          case o26 => intro W hW;rintro _ rfl;rintro _ rfl;change wpList _ _ _ _ _ _;go_wp2;exact j0 rfl rfl rfl
        case hend =>
          intro W hW;rintro _ rfl;rintro _ rfl;rintro _ rfl;rintro _ rfl;rintro _ rfl;rintro _ rfl;rintro _ rfl;rintro _ rfl;rintro _ rfl;rintro _ rfl;rintro _ rfl;rintro _ rfl;rintro _ rfl;rintro _ rfl;rintro _ rfl;rintro _ rfl;rintro _ rfl;rintro _ rfl;rintro _ rfl;rintro _ rfl;rintro _ rfl;rintro _ rfl;rintro _ rfl;rintro _ rfl;rintro _ rfl;rintro _ rfl;rintro _ rfl
          simp only [given,jJ,List.set]
          have HWw:=kp (HW6.out.trans (hW.mono HW6.out.size))
          have hx0w:=(hW.cell (p:=⟨g3,0,none⟩) hg36).trans hx0
          clear hW
          cases bl
          · go_wp2
            go_ret
            exact ⟨rfl,HWw.out⟩
          · go_wp2
            go_ret
            exact ⟨rfl,HWw.out⟩
    rw [if_neg k6] at hb
    have e6 : (x.kind == 6) = false:=by rw [beq_eq_false_iff_ne];exact k6
    by_cases k5 : x.kind = 5
    · rw [if_pos k5,hq.len] at hb
      have e5 : (x.kind != 5) = false:=by rw [k5];rfl
      have HB : Kept (decide ((q.len : Int) < 8) = b):=kp (by rw [← hb,Bool.eq_iff_iff,decide_eq_true_eq,decide_eq_true_eq];omega)
      clear hp hq ht hg hf hq18 hlv hlv2 hx hfit hsv hsok hthc hssl hsl hc0 hcs ha hA hA2 hfn
      rw [q8,jL]
      go_enter Try.func74,Try.ntmps74
      go_wp2_with (first
        | ((with_reducible refine j6 rfl 63 (.tmp 0) rfl (rcC q) rfl ?_);intro g1 w1 hg1 hk1 hw1;have HK1:=kp hk1;have HW1:=kp hw1;have hs1:=hw1.size;have hl1:=hk1.lt;clear hk1 hw1)
        | ((with_reducible refine j6 rfl 46 (.tmp 1) rfl (pgC p) rfl ?_);intro g2 w2 hg2 hk2 hw2;have HK12:=kp (HK1.out.below hw2 hl1);have HK2:=kp hk2;have HW2:=kp (HW1.out.trans (hw2.mono hs1));have hs2:=HW2.out.size;have hl12:=HK12.out.lt;have hl2:=hk2.lt;clear hk2 hw2)
        | ((with_reducible show Sl 8);go_must (refine j4 rfl 63 (.tmp 3) rfl g1 rfl _ (rcC q) _ HK12.out Try.underlying63 rfl (by rw [HQ18.out];exact jA) ?_))
        | (go_at_call 71;go_must (refine (qU B q w2 (HQ.out.below (HW2.out.mono hB)) (by omega) (by omega) ((k : Int)) HT.out true HLv.out).mono ?_);rintro e w4 ⟨rfl,hb4⟩
           have HW4:=kp (HW2.out.trans (hb4.mono hs2));have HK14:=kp (HK12.out.below hb4 hl12);have HK24:=kp (HK2.out.below hb4 hl2);have hl14:=HK14.out.lt;have hl24:=HK24.out.lt;have hs4:=HW4.out.size;clear hb4)
        | ((with_reducible show Sl 12);go_must (refine j4 rfl 63 (.tmp 3) rfl g1 rfl _ (rcC q) _ HK14.out Try.underlying63 rfl (by rw [HQ18.out];exact jA) ?_))
        | ((with_reducible show Sl 13);go_must (refine j4 rfl 46 (.tmp 4) rfl g2 rfl _ (pgC p) _ HK24.out Try.underlying46 rfl jF ?_))
        | (go_at_call 72;go_must (refine (xO B p HFine.out q w4 (HP.out.below (HW4.out.mono hB)) (HQ.out.below (HW4.out.mono hB)) HG.out (by omega) k HLv2.out x HX.out).mono ?_);rintro e w5 ⟨rfl,hb5⟩
           have HW5:=kp (HW4.out.trans (hb5.mono hs4));have HK15:=kp (HK14.out.below hb5 hl14);have hl15:=HK15.out.lt;have hs5:=HW5.out.size;clear hb5)
        | ((with_reducible show Sl 7);go_must (refine j7 rfl 97 rfl (ndC ⟨0,0,0,0⟩) l0 ?_);intro g3 w7 hg3 hk7 hw7
           have HK37:=kp hk7;have HK17:=kp (HK15.out.below hw7 hl15);have HW7:=kp (HW5.out.trans (hw7.mono hs5));have HNe : Kept (g1 ≠ g3 ∧ w.heap.size ≤ g3):=kp (by omega);clear hk7 hw7)
        | ((with_reducible show Sn);go_must (refine j5 rfl 97 (.tmp 7) (.tmp 15) rfl g3 (ndC x) rfl rfl _ _ HK37.out jO rfl (l5 _) ?_);intro w6 hk6 hg6 hs6
           have HK16:=kp (HK17.out.grown hg6 (fun e => by cases e;exact HNe.out.1 rfl));have HK36:=kp hk6;have HW6:=kp (HW7.out.grown hg6 HW7.out.size (fun k e => by cases e;exact HNe.out.2));clear hg6 hs6
           rw [hEx.out] at hk6;have hx0:=hk6.cell 0;simp only [List.getElem?_cons_zero] at hx0;clear hk6
           have hc0:=HK16.out.cell 0;rw [HE.out,List.getElem?_cons_zero] at hc0))
      go_quiet (fail)
      go_wp2
      go_ret
      exact ⟨jQ HB.out,below_drewN HW6.out _⟩
    rw [if_neg k5] at hb
    subst hb
    have e5 : (x.kind != 5) = true:=by rw [bne_iff_ne];exact k5
    clear hp hq ht hg hf hq18 hlv hlv2 hx hfit hsv hsok hthc hssl hsl hc0 hcs ha hA hA2 hfn
    rw [q8,jL]
    go_enter Try.func74,Try.ntmps74
    go_wp2_with (first
      | ((with_reducible refine j6 rfl 63 (.tmp 0) rfl (rcC q) rfl ?_);intro g1 w1 hg1 hk1 hw1;have HK1:=kp hk1;have HW1:=kp hw1;have hs1:=hw1.size;have hl1:=hk1.lt;clear hk1 hw1)
      | ((with_reducible refine j6 rfl 46 (.tmp 1) rfl (pgC p) rfl ?_);intro g2 w2 hg2 hk2 hw2;have HK12:=kp (HK1.out.below hw2 hl1);have HK2:=kp hk2;have HW2:=kp (HW1.out.trans (hw2.mono hs1));have hs2:=HW2.out.size;have hl12:=HK12.out.lt;have hl2:=hk2.lt;clear hk2 hw2)
      | ((with_reducible show Sl 8);go_must (refine j4 rfl 63 (.tmp 3) rfl g1 rfl _ (rcC q) _ HK12.out Try.underlying63 rfl (by rw [HQ18.out];exact jA) ?_))
      | (go_at_call 71;go_must (refine (qU B q w2 (HQ.out.below (HW2.out.mono hB)) (by omega) (by omega) ((k : Int)) HT.out true HLv.out).mono ?_);rintro e w4 ⟨rfl,hb4⟩
         have HW4:=kp (HW2.out.trans (hb4.mono hs2));have HK14:=kp (HK12.out.below hb4 hl12);have HK24:=kp (HK2.out.below hb4 hl2);have hl14:=HK14.out.lt;have hl24:=HK24.out.lt;have hs4:=HW4.out.size;clear hb4)
      | ((with_reducible show Sl 12);go_must (refine j4 rfl 63 (.tmp 3) rfl g1 rfl _ (rcC q) _ HK14.out Try.underlying63 rfl (by rw [HQ18.out];exact jA) ?_))
      | ((with_reducible show Sl 13);go_must (refine j4 rfl 46 (.tmp 4) rfl g2 rfl _ (pgC p) _ HK24.out Try.underlying46 rfl jF ?_))
      | (go_at_call 72;go_must (refine (xO B p HFine.out q w4 (HP.out.below (HW4.out.mono hB)) (HQ.out.below (HW4.out.mono hB)) HG.out (by omega) k HLv2.out x HX.out).mono ?_);rintro e w5 ⟨rfl,hb5⟩
         have HW5:=kp (HW4.out.trans (hb5.mono hs4));have HK15:=kp (HK14.out.below hb5 hl14);have hl15:=HK15.out.lt;have hs5:=HW5.out.size;clear hb5)
      | ((with_reducible show Sl 7);go_must (refine j7 rfl 97 rfl (ndC ⟨0,0,0,0⟩) l0 ?_);intro g3 w7 hg3 hk7 hw7
         have HK37:=kp hk7;have HK17:=kp (HK15.out.below hw7 hl15);have HW7:=kp (HW5.out.trans (hw7.mono hs5));have HNe : Kept (g1 ≠ g3 ∧ w.heap.size ≤ g3):=kp (by omega);clear hk7 hw7)
      | ((with_reducible show Sn);go_must (refine j5 rfl 97 (.tmp 7) (.tmp 15) rfl g3 (ndC x) rfl rfl _ _ HK37.out jO rfl (l5 _) ?_);intro w6 hk6 hg6 hs6
         have HK16:=kp (HK17.out.grown hg6 (fun e => by cases e;exact HNe.out.1 rfl));have HK36:=kp hk6;have HW6:=kp (HW7.out.grown hg6 HW7.out.size (fun k e => by cases e;exact HNe.out.2));clear hg6 hs6
         rw [hEx.out] at hk6;have hx0:=hk6.cell 0;simp only [List.getElem?_cons_zero] at hx0;clear hk6))
    go_quiet (fail)
    go_wp2
    go_ret
    exact ⟨rfl,below_drewN HW6.out _⟩
end Go.Proofs.Ytcbfghcdbmlneaa
