/- SemP6, SemPc, SemPd, SemPe, SemPf. -/
import Derived.Test.YtoekiejipdabmaaDoorPk14
import Derived.Test.YtoekiejipdabmaaDoorPk11
import Derived.Test.YtoekiejipdabmaaDoorPk13
import Derived.Test.YtoekiejipdabmaaDoorPk12
import Derived.Lib.SliceRun
import Derived.Test.YtoekiejipdabmaaDoorSemPb
namespace Go.Proofs.YtoekiejipdabmaaDoor
open Go.RowKit
theorem X3 {p : Pg} {c : M.Cf} {t : Int} (h : M.lives c t = false) : M.enabled p c t = false:=by
  cases he : M.enabled p c t with
  | false => rfl
  | true =>
    obtain ⟨h0,h1⟩:=M.enabled_split he
    have h2:=M.enabled_lives h1
    unfold M.lives at h
    rw [h2,decide_eq_true h0] at h
    cases h
theorem X4 {p : Pg} {c : M.Cf} {k : Nat} {x : Nd} (h : M.lives c (k : Int) = true) (hx : M.node p c k = x) : M.enabled p c (k : Int) =
    (if x.kind = 3 then decide (c.owners.getD x.arg.toNat 0 = 0) else if x.kind = 6 then !M.lives c (((M.th c k).slots.getD x.arg.toNat 0 : Int) - 1) else if x.kind = 5 then decide (c.ths.length < 8) else true):=by
  unfold M.enabled M.enabledN
  rw [M.lives_nat] at h
  rw [Int.toNat_natCast,h,hx]
  simp
theorem XT {p : Pg} {c : M.Cf} {k : Nat} {x : Nd} (h : M.lives c (k : Int) = true) (hx : M.node p c k = x) : atNd p c (k : Int) = x:=by
  unfold atNd;rw [h,← hx];rfl
set_option maxRecDepth 100000 in
set_option maxHeartbeats 1600000 in
theorem vF (B : Nat) (p : Pg) (hf : Fine p) (q : Pc) (w : World) (hp : p.Ok w B) (hq : q.Ok w B) (hg : M.Good p q.cf) (hB : B ≤ w.heap.size) (t : Int) (ht : I64 t) (b : Bool) (hb : M.enabled p q.cf t = b) :
    Calls Tryd.prog 31 #[pcA q,pgA p,.int .i64 t] w fun e w' => e = .returned (.bool b) ∧ Below w.heap.size w w':=by
  have h8 : q.len ≤ 8:=by rw [← hq.len];exact hg.most
  have hq17 : (pcC q).length = 17:=lQ hg.owns
  have HQ17:=kp hq17
  have HP:=kp hp;have HQ:=kp hq;have HT:=kp ht;have HG:=kp hg;have HFine:=kp hf
  have hqc:=hq.lc;have hqm:=hq.cm
  unfold maxLen at hqm
  cases hlv : M.lives q.cf t
  · have hbf:=X3 (p:=p) hlv
    rw [hbf] at hb
    subst hb
    have HLv:=kp hlv
    have HX : Kept (atNd p q.cf t = ⟨0,0,0,0⟩):=kp (by unfold atNd;rw [hlv];rfl)
    clear hp hq ht hg hf hq17 hlv hbf
    rw [x7,jM]
    go_enter Tryd.func31,Tryd.ntmps31
    go_wp2_with (first
      | ((with_reducible refine j4 rfl 43 (.tmp 0) rfl (pcC q) rfl ?_);intro g1 w1 hg1 hk1 hw1;have HK1:=kp hk1;have HW1:=kp hw1;have hs1:=hw1.size;have hl1:=hk1.lt;clear hk1 hw1)
      | ((with_reducible refine j4 rfl 24 (.tmp 1) rfl (pgC p) rfl ?_);intro g2 w2 hg2 hk2 hw2;have HK12:=kp (HK1.out.below hw2 hl1);have HK2:=kp hk2;have HW2:=kp (HW1.out.trans (hw2.mono hs1));have hs2:=HW2.out.size;have hl12:=HK12.out.lt;have hl2:=hk2.lt;clear hk2 hw2)
      | ((with_reducible show Sl 10);go_must (refine j6 rfl 43 (.tmp 3) rfl g1 rfl _ (pcC q) _ HK12.out Tryd.underlying43 rfl (by rw [HQ17.out];exact jH) ?_))
      | ((with_reducible show Sl 11);go_must (refine j6 rfl 24 (.tmp 4) rfl g2 rfl _ (pgC p) _ HK2.out Tryd.underlying24 rfl jL ?_))
      | (go_at_call 32;go_must (refine (zT B p HFine.out q w2 (HP.out.below (HW2.out.mono hB)) (HQ.out.below (HW2.out.mono hB)) HG.out (by omega) (t) HT.out false HLv.out (⟨0,0,0,0⟩) HX.out).mono ?_);rintro e w4 ⟨rfl,hb4⟩
         have HW4:=kp (HW2.out.trans (hb4.mono hs2));have HK14:=kp (HK12.out.below hb4 hl12);have hl14:=HK14.out.lt;have hs4:=HW4.out.size;clear hb4)
      | ((with_reducible show Sl 7);go_must (refine j7 rfl 66 rfl (ndC ⟨0,0,0,0⟩) jU ?_);intro g3 w5 hg3 hk5 hw5
         have HK35:=kp hk5;have HK15:=kp (HK14.out.below hw5 hl14);have HW5:=kp (HW4.out.trans (hw5.mono hs4));have hs5:=HW5.out.size;have hl35:=hk5.lt;clear hk5 hw5)
      | ((with_reducible show Sn);go_must (refine j5 rfl 66 (.tmp 7) (.tmp 14) rfl g3 (ndC (⟨0,0,0,0⟩)) rfl rfl _ _ HK35.out jD rfl (jK _) ?_);intro w6 hk6 hg6 hs6
         have HK16:=kp (HK15.out.grown hg6 (fun e => by cases e;omega));have HK36:=kp hk6;have HW6:=kp (HW5.out.grown hg6 hs5 (fun k e => by cases e;omega));clear hg6;clear hk6))
    go_ret
    exact ⟨rfl,HW6.out⟩
  · obtain ⟨k,rfl⟩ : ∃ k : Nat,t = (k : Int):=⟨t.toNat,by
      unfold M.lives at hlv
      rw [Bool.and_eq_true,decide_eq_true_eq] at hlv
      omega⟩
    obtain ⟨x,hx⟩ : ∃ x,M.node p q.cf k = x:=⟨_,rfl⟩
    have hlv2:=hlv
    rw [M.lives_nat] at hlv2
    have hkl : k < q.len:=by rw [← hq.len];exact M.lives_lt hlv2
    obtain ⟨fn,hfn,_,_⟩:=M.node_is hg hlv2
    have hfit:=M.node_fit hf hg hlv2 hfn
    rw [hx] at hfit
    have HLv:=kp hlv
    have HX:=kp (XT hlv hx)
    rw [X4 hlv hx] at hb
    obtain ⟨ad,th,hA,hadB,hth,hsok,hthc,hsl,hc0,hcs⟩:=hq.thread hkl
    rw [hthc] at hb
    obtain ⟨a,ha⟩ : ∃ a : Nat,x.arg = (a : Int):=⟨x.arg.toNat,by have:=hfit.arg;omega⟩
    rw [ha,Int.toNat_natCast] at hb
    have h16:=hg.owns
    have HE : Kept (pcC q = .slice (some ad) q.len q.cap :: q.ow.map natV):=kp (by unfold pcC;rw [hA])
    have hEx : Kept (ndC x = [.int .i64 x.kind,.int .i64 (a : Int),.int .i64 x.next,.int .i64 x.alt]):=kp (by unfold ndC;rw [ha])
    by_cases k3 : x.kind = 3
    · rw [if_pos k3] at hb
      have hal:=hfit.lock (.inl k3)
      have HO : Kept ((pcC q)[1 + a]? = some (.int .i64 (q.ow.getD a 0 : Int))):=kp (by rw [HE.out,show 1 + a = a + 1 by omega,List.getElem?_cons_succ];exact LB h16 (by omega))
      have HB : Kept (((q.ow.getD a 0 : Int) == 0) = b):=kp (by rw [← hb,Bool.eq_iff_iff,beq_iff_eq,decide_eq_true_eq];show _ ↔ q.ow.getD a 0 = 0;omega)
      obtain ⟨o,ho⟩ : ∃ o,q.ow.getD a 0 = o:=⟨_,rfl⟩
      rw [ho] at HO HB
      have e3 : (x.kind == 3) = true:=by rw [beq_iff_eq];exact k3
      have ha16 : a < 16:=by omega
      clear hp hq ht hg hf hq17 hlv hlv2 hb hx hfit hth hsok hthc hsl hc0 hcs ha hA hfn ho k3 hal
      rw [x7,jM]
      go_enter Tryd.func31,Tryd.ntmps31
      go_wp2_with (first
        | ((with_reducible refine j4 rfl 43 (.tmp 0) rfl (pcC q) rfl ?_);intro g1 w1 hg1 hk1 hw1;have HK1:=kp hk1;have HW1:=kp hw1;have hs1:=hw1.size;have hl1:=hk1.lt;clear hk1 hw1)
        | ((with_reducible refine j4 rfl 24 (.tmp 1) rfl (pgC p) rfl ?_);intro g2 w2 hg2 hk2 hw2;have HK12:=kp (HK1.out.below hw2 hl1);have HK2:=kp hk2;have HW2:=kp (HW1.out.trans (hw2.mono hs1));have hs2:=HW2.out.size;have hl12:=HK12.out.lt;have hl2:=hk2.lt;clear hk2 hw2)
        | ((with_reducible show Sl 10);go_must (refine j6 rfl 43 (.tmp 3) rfl g1 rfl _ (pcC q) _ HK12.out Tryd.underlying43 rfl (by rw [HQ17.out];exact jH) ?_))
        | ((with_reducible show Sl 11);go_must (refine j6 rfl 24 (.tmp 4) rfl g2 rfl _ (pgC p) _ HK2.out Tryd.underlying24 rfl jL ?_))
        | (go_at_call 32;go_must (refine (zT B p HFine.out q w2 (HP.out.below (HW2.out.mono hB)) (HQ.out.below (HW2.out.mono hB)) HG.out (by omega) ((k : Int)) HT.out true HLv.out (x) HX.out).mono ?_);rintro e w4 ⟨rfl,hb4⟩
           have HW4:=kp (HW2.out.trans (hb4.mono hs2));have HK14:=kp (HK12.out.below hb4 hl12);have hl14:=HK14.out.lt;have hs4:=HW4.out.size;clear hb4)
        | ((with_reducible show Sl 7);go_must (refine j7 rfl 66 rfl (ndC ⟨0,0,0,0⟩) jU ?_);intro g3 w5 hg3 hk5 hw5
           have HK35:=kp hk5;have HK15:=kp (HK14.out.below hw5 hl14);have HW5:=kp (HW4.out.trans (hw5.mono hs4));have hs5:=HW5.out.size;have hl35:=hk5.lt;clear hk5 hw5)
        | ((with_reducible show Sn);go_must (refine j5 rfl 66 (.tmp 7) (.tmp 14) rfl g3 (ndC (x)) rfl rfl _ _ HK35.out jD rfl (jK _) ?_);intro w6 hk6 hg6 hs6
           have HK16:=kp (HK15.out.grown hg6 (fun e => by cases e;omega));have HK36:=kp hk6;have HW6:=kp (HW5.out.grown hg6 hs5 (fun k e => by cases e;omega));clear hg6
           rw [hEx.out] at hk6;have hx0:=hk6.cell 0;have hx1:=hk6.cell 1;simp only [List.getElem?_cons_zero,List.getElem?_cons_succ] at hx0 hx1;clear hk6
           have hc1:=(HK16.out.cell (1 + a)).trans HO.out))
      go_ret
      exact ⟨jG HB.out,HW6.out⟩
    rw [if_neg k3] at hb
    have e3 : (x.kind == 3) = false:=by rw [beq_eq_false_iff_ne];exact k3
    by_cases k6 : x.kind = 6
    · rw [if_pos k6] at hb
      have hal:=hfit.join k6
      have e6 : (x.kind == 6) = true:=by rw [beq_iff_eq];exact k6
      have ha8 : a < 8:=by omega
      obtain ⟨o,ho⟩ : ∃ o,(tvT th).slots.getD a 0 = o:=⟨_,rfl⟩
      rw [ho] at hb
      have hoc : w.cell? ⟨(ad.add (k * 9)).block,(ad.add (k * 9)).off + 1 + a,none⟩ = some (.int .i64 (o : Int)):=by
        rcases hcs a with h | h
        · rw [show (ad.add (k * 9)).off + 1 + a = (ad.add (k * 9)).off + (a + 1) by omega,h,← ho];rfl
        · omega
      have HOc:=kp hoc
      have ho8 : o ≤ 8:=by
        have h1:=hg.slot (tvT th) (List.mem_map_of_mem (List.mem_of_getElem? hth))
        have h2:=hg.eight (tvT th) (List.mem_map_of_mem (List.mem_of_getElem? hth))
        rw [← ho,List.getD_eq_getElem?_getD,List.getElem?_eq_getElem (by omega)]
        exact h1 _ (List.getElem_mem _)
      obtain ⟨bl,hbl⟩ : ∃ bl,M.lives q.cf ((o : Int) - 1) = bl:=⟨_,rfl⟩
      rw [hbl] at hb
      have HBl:=kp hbl
      have HI1 : Kept (I64 ((o : Int) - 1)):=kp (by unfold I64;omega)
      subst hb
      clear hp hq ht hg hf hq17 hlv hlv2 hx hfit hth hsok hthc hsl hc0 hcs ha hA hfn ho k3 hal hoc hbl k6
      rw [x7,jM]
      go_enter Tryd.func31,Tryd.ntmps31
      go_wp2_with (first
        | ((with_reducible refine j4 rfl 43 (.tmp 0) rfl (pcC q) rfl ?_);intro g1 w1 hg1 hk1 hw1;have HK1:=kp hk1;have HW1:=kp hw1;have hs1:=hw1.size;have hl1:=hk1.lt;clear hk1 hw1)
        | ((with_reducible refine j4 rfl 24 (.tmp 1) rfl (pgC p) rfl ?_);intro g2 w2 hg2 hk2 hw2;have HK12:=kp (HK1.out.below hw2 hl1);have HK2:=kp hk2;have HW2:=kp (HW1.out.trans (hw2.mono hs1));have hs2:=HW2.out.size;have hl12:=HK12.out.lt;have hl2:=hk2.lt;clear hk2 hw2)
        | ((with_reducible show Sl 10);go_must (refine j6 rfl 43 (.tmp 3) rfl g1 rfl _ (pcC q) _ HK12.out Tryd.underlying43 rfl (by rw [HQ17.out];exact jH) ?_))
        | ((with_reducible show Sl 11);go_must (refine j6 rfl 24 (.tmp 4) rfl g2 rfl _ (pgC p) _ HK2.out Tryd.underlying24 rfl jL ?_))
        | (go_at_call 32;go_must (refine (zT B p HFine.out q w2 (HP.out.below (HW2.out.mono hB)) (HQ.out.below (HW2.out.mono hB)) HG.out (by omega) ((k : Int)) HT.out true HLv.out (x) HX.out).mono ?_);rintro e w4 ⟨rfl,hb4⟩
           have HW4:=kp (HW2.out.trans (hb4.mono hs2));have HK14:=kp (HK12.out.below hb4 hl12);have hl14:=HK14.out.lt;have hs4:=HW4.out.size;clear hb4)
        | ((with_reducible show Sl 7);go_must (refine j7 rfl 66 rfl (ndC ⟨0,0,0,0⟩) jU ?_);intro g3 w5 hg3 hk5 hw5
           have HK35:=kp hk5;have HK15:=kp (HK14.out.below hw5 hl14);have HW5:=kp (HW4.out.trans (hw5.mono hs4));have hs5:=HW5.out.size;have hl35:=hk5.lt;clear hk5 hw5)
        | ((with_reducible show Sn);go_must (refine j5 rfl 66 (.tmp 7) (.tmp 14) rfl g3 (ndC (x)) rfl rfl _ _ HK35.out jD rfl (jK _) ?_);intro w6 hk6 hg6 hs6
           have HK16:=kp (HK15.out.grown hg6 (fun e => by cases e;omega));have HK36:=kp hk6;have HW6:=kp (HW5.out.grown hg6 hs5 (fun k e => by cases e;omega));clear hg6
           rw [hEx.out] at hk6;have hx0:=hk6.cell 0;simp only [List.getElem?_cons_zero] at hx0;have HX6:=kp hk6;clear hk6))
      have hd1:=HK16.out.lt;have hd3:=HK36.out.lt
      apply jR (.is (pcA q) :: .is _ :: .is _ :: .is _ :: .is _ :: .is _ :: .is _ :: .is _ :: .is _ :: .is _ :: .is _ :: .is _ :: .is _ :: .is _ :: [])
        [[],[],[(1,31)],[],[],[(4,34)],[(2,32),(3,33)],[(6,36)],[(7,37),(5,35)],[(8,38)],[(9,39)],[(0,30),(10,40)],[(11,41)],[(12,42)]]
        [(0,30),(1,31),(2,32),(3,33),(4,34),(5,35),(6,36),(7,37),(8,38),(9,39),(10,40),(11,41),(12,42),(13,6)] (by kernel_rfl) (by kernel_rfl)
      case hob =>
        refine ⟨?o0,?o1,?o2,?o3,?o4,?o5,?o6,?o7,?o8,?o9,?o10,?o11,?o12,?o13,trivial⟩
        case o0 =>
          intro W hW;change wpList _ _ _ _ _ _
          have HKw:=kp (HK16.out.below hW hd1)
          go_wp2_with ((with_reducible show Sl 30);go_must (refine j6 rfl 43 (.tmp 3) rfl g1 rfl _ (pcC q) _ HKw.out Tryd.underlying43 rfl (by rw [HQ17.out];exact jH) ?_))
          exact j3 rfl rfl rfl
        case o1 => intro W hW;change wpList _ _ _ _ _ _;go_wp2;exact j3 rfl rfl rfl
        case o2 =>
          intro W hW;rintro _ rfl;change wpList _ _ _ _ _ _
          have hc:=(HK16.out.below hW hd1).cell 0
          rw [HE.out,List.getElem?_cons_zero] at hc
          go_wp2;exact j3 rfl rfl rfl
        case o3 => intro W hW;change wpList _ _ _ _ _ _;go_wp2;exact j3 rfl rfl rfl
        case o4 => intro W hW;change wpList _ _ _ _ _ _;go_wp2;exact j3 rfl rfl rfl
        case o5 =>
          intro W hW;rintro _ rfl;change wpList _ _ _ _ _ _
          have hc:=(HX6.out.below hW hd3).cell 1
          simp only [List.getElem?_cons_zero,List.getElem?_cons_succ] at hc
          go_wp2;exact j3 rfl rfl rfl
        case o6 => intro W hW;rintro _ rfl;rintro _ rfl;change wpList _ _ _ _ _ _;go_wp2;exact j3 rfl rfl rfl
        case o7 => intro W hW;rintro _ rfl;change wpList _ _ _ _ _ _;go_wp2;exact j3 rfl rfl rfl
        case o8 => intro W hW;rintro _ rfl;rintro _ rfl;change wpList _ _ _ _ _ _;go_wp2;exact j3 rfl rfl rfl
        case o9 =>
          intro W hW;rintro _ rfl;change wpList _ _ _ _ _ _
          have hc:=((HW6.out.trans (hW.mono HW6.out.size)).cell (p:=⟨(ad.add (k * 9)).block,(ad.add (k * 9)).off + 1 + a,none⟩) (by show (ad.add (k * 9)).block < _;rw [add_block];omega)).trans HOc.out
          go_wp2;exact j3 rfl rfl rfl
        case o10 =>
          intro W hW;rintro _ rfl;change wpList _ _ _ _ _ _
          go_wp2_with fail
          refine (QC o (by omega) W).mono ?_
          rintro e w2 ⟨rfl,rfl⟩
          go_wp2
          exact j3 rfl rfl rfl
        case o11 =>
          intro W hW;rintro _ rfl;rintro _ rfl;change wpList _ _ _ _ _ _
          go_wp2_with fail
          refine (qM B q W (HQ.out.below ((HW6.out.trans (hW.mono HW6.out.size)).mono hB)) (by have:=(HW6.out.trans (hW.mono HW6.out.size)).size;omega) (by omega) ((o : Int) - 1) HI1.out bl HBl.out).mono ?_
          rintro e w2 ⟨rfl,hb2⟩
          have HB2:=kp hb2;clear hb2
          go_wp2
          exact jE rfl rfl rfl HB2.out rfl
        case o12 => intro W hW;rintro _ rfl;change wpList _ _ _ _ _ _;go_wp2;exact j3 rfl rfl rfl
        case o13 => intro W hW;rintro _ rfl;change wpList _ _ _ _ _ _;go_wp2;exact j3 rfl rfl rfl
      case hend =>
        intro W hW;rintro _ rfl;rintro _ rfl;rintro _ rfl;rintro _ rfl;rintro _ rfl;rintro _ rfl;rintro _ rfl;rintro _ rfl;rintro _ rfl;rintro _ rfl;rintro _ rfl;rintro _ rfl;rintro _ rfl;rintro _ rfl
        simp only [given,jI,List.set]
        have HWw:=kp (HW6.out.trans (hW.mono HW6.out.size))
        clear hW
        go_wp2
        go_ret
        exact ⟨rfl,HWw.out⟩
    rw [if_neg k6] at hb
    have e6 : (x.kind == 6) = false:=by rw [beq_eq_false_iff_ne];exact k6
    by_cases k5 : x.kind = 5
    · rw [if_pos k5,hq.len] at hb
      have e5 : (x.kind == 5) = true:=by rw [beq_iff_eq];exact k5
      have HB : Kept (decide ((q.len : Int) < 8) = b):=kp (by rw [← hb,Bool.eq_iff_iff,decide_eq_true_eq,decide_eq_true_eq];omega)
      clear hp hq ht hg hf hq17 hlv hlv2 hb hx hfit hth hsok hthc hsl hc0 hcs ha hA hfn k3 k6 k5
      rw [x7,jM]
      go_enter Tryd.func31,Tryd.ntmps31
      go_wp2_with (first
        | ((with_reducible refine j4 rfl 43 (.tmp 0) rfl (pcC q) rfl ?_);intro g1 w1 hg1 hk1 hw1;have HK1:=kp hk1;have HW1:=kp hw1;have hs1:=hw1.size;have hl1:=hk1.lt;clear hk1 hw1)
        | ((with_reducible refine j4 rfl 24 (.tmp 1) rfl (pgC p) rfl ?_);intro g2 w2 hg2 hk2 hw2;have HK12:=kp (HK1.out.below hw2 hl1);have HK2:=kp hk2;have HW2:=kp (HW1.out.trans (hw2.mono hs1));have hs2:=HW2.out.size;have hl12:=HK12.out.lt;have hl2:=hk2.lt;clear hk2 hw2)
        | ((with_reducible show Sl 10);go_must (refine j6 rfl 43 (.tmp 3) rfl g1 rfl _ (pcC q) _ HK12.out Tryd.underlying43 rfl (by rw [HQ17.out];exact jH) ?_))
        | ((with_reducible show Sl 11);go_must (refine j6 rfl 24 (.tmp 4) rfl g2 rfl _ (pgC p) _ HK2.out Tryd.underlying24 rfl jL ?_))
        | (go_at_call 32;go_must (refine (zT B p HFine.out q w2 (HP.out.below (HW2.out.mono hB)) (HQ.out.below (HW2.out.mono hB)) HG.out (by omega) ((k : Int)) HT.out true HLv.out (x) HX.out).mono ?_);rintro e w4 ⟨rfl,hb4⟩
           have HW4:=kp (HW2.out.trans (hb4.mono hs2));have HK14:=kp (HK12.out.below hb4 hl12);have hl14:=HK14.out.lt;have hs4:=HW4.out.size;clear hb4)
        | ((with_reducible show Sl 7);go_must (refine j7 rfl 66 rfl (ndC ⟨0,0,0,0⟩) jU ?_);intro g3 w5 hg3 hk5 hw5
           have HK35:=kp hk5;have HK15:=kp (HK14.out.below hw5 hl14);have HW5:=kp (HW4.out.trans (hw5.mono hs4));have hs5:=HW5.out.size;have hl35:=hk5.lt;clear hk5 hw5)
        | ((with_reducible show Sn);go_must (refine j5 rfl 66 (.tmp 7) (.tmp 14) rfl g3 (ndC (x)) rfl rfl _ _ HK35.out jD rfl (jK _) ?_);intro w6 hk6 hg6 hs6
           have HK16:=kp (HK15.out.grown hg6 (fun e => by cases e;omega));have HK36:=kp hk6;have HW6:=kp (HW5.out.grown hg6 hs5 (fun k e => by cases e;omega));clear hg6
           rw [hEx.out] at hk6;have hx0:=hk6.cell 0;simp only [List.getElem?_cons_zero] at hx0;clear hk6
           have hc0:=HK16.out.cell 0;rw [HE.out,List.getElem?_cons_zero] at hc0))
      go_ret
      exact ⟨jG HB.out,HW6.out⟩
    rw [if_neg k5] at hb
    subst hb
    have e5 : (x.kind == 5) = false:=by rw [beq_eq_false_iff_ne];exact k5
    clear hp hq ht hg hf hq17 hlv hlv2 hx hfit hth hsok hthc hsl hc0 hcs ha hA hfn k3 k6 k5
    rw [x7,jM]
    go_enter Tryd.func31,Tryd.ntmps31
    go_wp2_with (first
      | ((with_reducible refine j4 rfl 43 (.tmp 0) rfl (pcC q) rfl ?_);intro g1 w1 hg1 hk1 hw1;have HK1:=kp hk1;have HW1:=kp hw1;have hs1:=hw1.size;have hl1:=hk1.lt;clear hk1 hw1)
      | ((with_reducible refine j4 rfl 24 (.tmp 1) rfl (pgC p) rfl ?_);intro g2 w2 hg2 hk2 hw2;have HK12:=kp (HK1.out.below hw2 hl1);have HK2:=kp hk2;have HW2:=kp (HW1.out.trans (hw2.mono hs1));have hs2:=HW2.out.size;have hl12:=HK12.out.lt;have hl2:=hk2.lt;clear hk2 hw2)
      | ((with_reducible show Sl 10);go_must (refine j6 rfl 43 (.tmp 3) rfl g1 rfl _ (pcC q) _ HK12.out Tryd.underlying43 rfl (by rw [HQ17.out];exact jH) ?_))
      | ((with_reducible show Sl 11);go_must (refine j6 rfl 24 (.tmp 4) rfl g2 rfl _ (pgC p) _ HK2.out Tryd.underlying24 rfl jL ?_))
      | (go_at_call 32;go_must (refine (zT B p HFine.out q w2 (HP.out.below (HW2.out.mono hB)) (HQ.out.below (HW2.out.mono hB)) HG.out (by omega) ((k : Int)) HT.out true HLv.out (x) HX.out).mono ?_);rintro e w4 ⟨rfl,hb4⟩
         have HW4:=kp (HW2.out.trans (hb4.mono hs2));have HK14:=kp (HK12.out.below hb4 hl12);have hl14:=HK14.out.lt;have hs4:=HW4.out.size;clear hb4)
      | ((with_reducible show Sl 7);go_must (refine j7 rfl 66 rfl (ndC ⟨0,0,0,0⟩) jU ?_);intro g3 w5 hg3 hk5 hw5
         have HK35:=kp hk5;have HK15:=kp (HK14.out.below hw5 hl14);have HW5:=kp (HW4.out.trans (hw5.mono hs4));have hs5:=HW5.out.size;have hl35:=hk5.lt;clear hk5 hw5)
      | ((with_reducible show Sn);go_must (refine j5 rfl 66 (.tmp 7) (.tmp 14) rfl g3 (ndC (x)) rfl rfl _ _ HK35.out jD rfl (jK _) ?_);intro w6 hk6 hg6 hs6
         have HK16:=kp (HK15.out.grown hg6 (fun e => by cases e;omega));have HK36:=kp hk6;have HW6:=kp (HW5.out.grown hg6 hs5 (fun k e => by cases e;omega));clear hg6
         rw [hEx.out] at hk6;have hx0:=hk6.cell 0;simp only [List.getElem?_cons_zero] at hx0;clear hk6))
    go_ret
    exact ⟨rfl,HW6.out⟩
set_option maxRecDepth 100000 in
set_option maxHeartbeats 1600000 in
theorem QI (A : Option Addr) (n c : Nat) (l : List (Nat × Nat)) (w : World) (hr : Recs 2 frV w w.heap.size A n l) (hn : n ≤ 1000) :
    Calls Tryd.prog 49 #[.slice A n c] w fun e w' => ∃ v,e = .returned v ∧ OwnR 2 frV w' w.heap.size 52 v l ∧ Below w.heap.size w w':=by
  have HR:=kp hr
  have hlen:=hr.len
  have HLen:=kp hlen
  clear hr hlen
  cases A with
  | none =>
    have hl : l = []:=by
      have h0 : n = 0:=by
        rcases Nat.eq_zero_or_pos n with h0 | h0
        · exact h0
        · obtain ⟨_,h,_⟩:=HR.out.cells h0;cases h
      exact List.eq_nil_of_length_eq_zero (by rw [HLen.out];exact h0)
    subst hl
    have hnil : (binOp .eql 47 (.slice none n c) (.slice none 0 0)).run Tryd.prog w = .ok (.bool true) w:=Lib.run_eql_slice_nil w _ _ none n c 0 0 Tryd.underlying47
    go_enter Tryd.func49,Tryd.ntmps49
    go_wp2
    go_ret
    exact ⟨_,rfl,OwnR.nil _ _ _ _ _,Below.refl _ _⟩
  | some ad =>
    have hnil : (binOp .eql 47 (.slice (some ad) n c) (.slice none 0 0)).run Tryd.prog w = .ok (.bool false) w:=Lib.run_eql_slice_nil w _ _ (some ad) n c 0 0 Tryd.underlying47
    go_enter Tryd.func49,Tryd.ntmps49
    have HB : Kept (Below w.heap.size w (w.alloc (.cells #[] 52))):=kp ((Below.refl _ _).alloc (Nat.le_refl _) _)
    have HE : Kept (OwnR 2 frV (w.alloc (.cells #[] 52)) w.heap.size 52 (.slice (some ⟨w.heap.size,0,none⟩) 0 0) []):=kp (OwnR.empty _ _ _ _ _ (Nat.le_refl _))
    have HS : Kept (w.heap.size ≤ (w.alloc (.cells #[] 52)).heap.size):=kp HB.out.size
    go_wp2_with (at_builtin;go_must (refine qO rfl (.tmp 5) (.tmp 6) 47 rfl w.heap.size 52 2 _ 16 Tryd.underlying47 yX rfl (by omega) frV JM _ _ [] rfl HE.out (some ad) n c w.heap.size l rfl (HR.out.below HB.out) (by unfold maxLen;simp;omega) (by simp;omega) HS.out ?_);intro v' w' hown hgr;rw [List.nil_append] at hown;have HOw:=kp hown;have HBe:=kp (HB.out.grown hgr.1 HS.out (fun k e => by cases e;exact Nat.le_refl _));clear hown hgr)
    go_ret
    exact ⟨_,rfl,HOw.out,HBe.out⟩
set_option maxRecDepth 100000 in
set_option maxHeartbeats 1600000 in
theorem QH (A : Option Addr) (n c : Nat) (l : List Tv) (w : World) (hr : Recs 9 tvV w w.heap.size A n l) (hn : n ≤ 1000) :
    Calls Tryd.prog 48 #[.slice A n c] w fun e w' => ∃ v,e = .returned v ∧ OwnR 9 tvV w' w.heap.size 50 v l ∧ Below w.heap.size w w':=by
  have HR:=kp hr
  have hlen:=hr.len
  have HLen:=kp hlen
  clear hr hlen
  cases A with
  | none =>
    have hl : l = []:=by
      have h0 : n = 0:=by
        rcases Nat.eq_zero_or_pos n with h0 | h0
        · exact h0
        · obtain ⟨_,h,_⟩:=HR.out.cells h0;cases h
      exact List.eq_nil_of_length_eq_zero (by rw [HLen.out];exact h0)
    subst hl
    have hnil : (binOp .eql 40 (.slice none n c) (.slice none 0 0)).run Tryd.prog w = .ok (.bool true) w:=Lib.run_eql_slice_nil w _ _ none n c 0 0 Tryd.underlying40
    go_enter Tryd.func48,Tryd.ntmps48
    go_wp2
    go_ret
    exact ⟨_,rfl,OwnR.nil _ _ _ _ _,Below.refl _ _⟩
  | some ad =>
    have hnil : (binOp .eql 40 (.slice (some ad) n c) (.slice none 0 0)).run Tryd.prog w = .ok (.bool false) w:=Lib.run_eql_slice_nil w _ _ (some ad) n c 0 0 Tryd.underlying40
    go_enter Tryd.func48,Tryd.ntmps48
    have HB : Kept (Below w.heap.size w (w.alloc (.cells #[] 50))):=kp ((Below.refl _ _).alloc (Nat.le_refl _) _)
    have HE : Kept (OwnR 9 tvV (w.alloc (.cells #[] 50)) w.heap.size 50 (.slice (some ⟨w.heap.size,0,none⟩) 0 0) []):=kp (OwnR.empty _ _ _ _ _ (Nat.le_refl _))
    have HS : Kept (w.heap.size ≤ (w.alloc (.cells #[] 50)).heap.size):=kp HB.out.size
    go_wp2_with (at_builtin;go_must (refine qO rfl (.tmp 5) (.tmp 6) 40 rfl w.heap.size 50 9 _ 88 Tryd.underlying40 xW rfl (by omega) tvV JB _ _ [] rfl HE.out (some ad) n c w.heap.size l rfl (HR.out.below HB.out) (by unfold maxLen;simp;omega) (by simp;omega) HS.out ?_);intro v' w' hown hgr;rw [List.nil_append] at hown;have HOw:=kp hown;have HBe:=kp (HB.out.grown hgr.1 HS.out (fun k e => by cases e;exact Nat.le_refl _));clear hown hgr)
    go_ret
    exact ⟨_,rfl,HOw.out,HBe.out⟩
theorem J0 : (Tryd.prog.info? 40).map (·.size) = some 1:=by kernel_rfl
def Fact.ownN {α : Type} (sz : Nat) (f : α → Nat → Value) (B : Nat) (e : TypeId) (K : Nat) (l : List α) : Fact :=
  ⟨fun v W => OwnR sz f W B e v l ∧ ∀ b,v.ownBlock = some b → K ≤ b,fun _ _ _ hb ⟨h1,h2⟩ => ⟨h1.below hb (Nat.le_refl _),h2⟩⟩
structure Mine (w : World) (B : Nat) (q : Pc) : Prop where
  row : OwnR 9 tvV w B 50 (.slice q.A q.len q.cap) q.tvs
  fam : Fam 52 w B (fun b => (Value.slice q.A q.len q.cap).ownBlock = some b) (q.tvs.map (·.sv))
theorem Mine.st {w1 w : World} {B gN gU : Nat} {q : Pc} (h : Mine w1 B q) (hw : Below w1.heap.size w1 w) (hc : Blk w gN 43 (pcC q)) (hN : w1.heap.size ≤ gN) (hU : w1.heap.size ≤ gU) (hl : gU < w.heap.size) (hB : B ≤ gN) : St w B gN gU q :=
  ⟨hc,h.row.below hw (Nat.le_refl _),(h.fam.less fun b hb => by
    rcases hb with rfl | rfl | hb
    · exact .inr hN
    · exact .inr hU
    · exact .inl hb).below hw (Nat.le_refl _),fun b hb => by
    have:=(h.row.block b hb).2
    constructor <;> omega,hB,hl⟩
theorem Mine.far {w w' : World} {B g : Nat} {q : Pc} (h : Mine w B q) (hg : w.grownBy w' (some g)) (hr : ∀ b,(Value.slice q.A q.len q.cap).ownBlock = some b → b ≠ g) (hf : ∀ (k : Nat) (y : Sv) (b : Nat),(q.tvs.map (·.sv))[k]? = some y → (svV y).ownBlock = some b → b ≠ g) : Mine w' B q :=
  ⟨h.row.far hg (by
    cases hv : (Value.slice q.A q.len q.cap).ownBlock with
    | none => exact .inl rfl
    | some b => exact .inr fun e => hr b hv (by cases e;rfl)),⟨fun k x hx => (h.fam.own k x hx).far hg (by
    cases hv : (svV x).ownBlock with
    | none => exact .inl rfl
    | some b => exact .inr fun e => hf k x b hx hv (by cases e;rfl)),h.fam.out,h.fam.apart⟩⟩
theorem cp_row {W w7 : World} {B0 gT n cap i : Nat} {tvs tvs1 : List Tv} {x : Tv} {A5 : Option Addr} {c5 : Nat} {cur : List Value} (hr : OwnR 9 tvV W B0 50 (.slice (some ⟨gT,0,none⟩) n cap) (tvs1 ++ tvs.drop i)) (hx : tvs[i]? = some x) (hl : tvs1.length = i) (_h9 : True)
    (hb : Blk W gT 50 cur) (hb7 : Blk w7 gT 50 (cur.set (i * 9) (.slice A5 x.sv.len c5))) : OwnR 9 tvV w7 B0 50 (.slice (some ⟨gT,0,none⟩) n cap) ((tvs1 ++ [⟨⟨A5,x.sv.len,c5,x.sv.stack⟩,x.slots⟩]) ++ tvs.drop (i + 1)):=by
  have hi : i < tvs.length:=(List.getElem?_eq_some_iff.1 hx).1
  have hd : tvs.drop i = x :: tvs.drop (i + 1):=by
    rw [List.drop_eq_getElem_cons hi]
    have : tvs[i] = x:=by rw [List.getElem?_eq_getElem hi] at hx;exact Option.some.inj hx
    rw [this]
  have hk : (tvs1 ++ tvs.drop i)[i]? = some x:=by
    rw [List.getElem?_append_right (by omega),hl,Nat.sub_self,hd];rfl
  have h:=hr.set (k:=i) (j:=0) (x':=⟨⟨A5,x.sv.len,c5,x.sv.stack⟩,x.slots⟩) (v:=.slice A5 x.sv.len c5) hk (by omega) (fun j hj => by
    match j,hj with
    | 0,_ => rfl
    | j + 1,_ => rfl) hb rfl hb7
  have e : (tvs1 ++ tvs.drop i).set i ⟨⟨A5,x.sv.len,c5,x.sv.stack⟩,x.slots⟩ = (tvs1 ++ [⟨⟨A5,x.sv.len,c5,x.sv.stack⟩,x.slots⟩]) ++ tvs.drop (i + 1):=by
    rw [hd,List.set_append_right _ _ (by omega),hl,Nat.sub_self,List.set_cons_zero,List.append_assoc];rfl
  rw [e] at h
  exact h
theorem cp_fam {W w7 : World} {B0 gN g2 gT K n5 c5 : Nat} {tvs1 : List Tv} {A5 : Option Addr} {l : List (Nat × Nat)} {sl : List Nat} (hf : Fam 52 W B0 (fun b => b = gN ∨ b = g2 ∨ b = gT) (tvs1.map (·.sv))) (ho : OwnR 2 frV W B0 52 (.slice A5 n5 c5) l) (hk : ∀ b,(Value.slice A5 n5 c5).ownBlock = some b → K ≤ b)
    (hS : ∀ b,(b = gN ∨ b = g2 ∨ b = gT) → b < K) (hb : ∀ (k : Nat) (y : Sv) (b : Nat),(tvs1.map (·.sv))[k]? = some y → (svV y).ownBlock = some b → B0 ≤ b ∧ b < K) (hg : W.grownBy w7 (some gT)) :
    Fam 52 w7 B0 (fun b => b = gN ∨ b = g2 ∨ b = gT) ((tvs1 ++ [(⟨⟨A5,n5,c5,l⟩,sl⟩ : Tv)]).map (·.sv)):=by
  rw [List.map_append]
  refine (hf.add (x:=⟨A5,n5,c5,l⟩) ho (fun b h1 h2 => ?_) fun k y b hy h1 h2 => ?_).turn hg fun b e => by cases e;exact .inr (.inr rfl)
  · have:=hk b h1;have:=hS b h2;omega
  · have:=hk b h1;have:=(hb k y b hy h2).2;omega
set_option maxRecDepth 100000 in
set_option maxHeartbeats 1600000 in
theorem u9 (q : Pc) (w : World) (hq : q.Ok w w.heap.size) (h8 : q.len ≤ 8) (h0 : 0 < q.len) (h16 : q.ow.length = 16) (hst : ∀ x ∈ q.tvs,x.sv.len ≤ 1000) :
    Calls Tryd.prog 30 #[pcA q] w fun e w' => ∃ q',e = .returned (pcA q') ∧ Mine w' w.heap.size q' ∧ q'.cf = q.cf ∧ q'.len = q.len ∧ q'.ow = q.ow ∧ Below w.heap.size w w':=by
  have HQ:=kp hq
  have hlen:=hq.row.len
  have HQl:=kp hlen
  have HQ17:=kp (lQ h16)
  have HSt:=kp hst
  obtain ⟨tvs,htv⟩ : ∃ tvs,q.tvs = tvs:=⟨_,rfl⟩
  obtain ⟨n,hn⟩ : ∃ n,q.len = n:=⟨_,rfl⟩
  have HTv0:=kp htv;have HN:=kp hn
  rw [htv,hn] at HQl;rw [htv] at HSt
  rw [hn] at h8 h0
  have HE0 : Kept (pcC q = .slice q.A n q.cap :: q.ow.map natV):=kp (by unfold pcC;rw [hn])
  have HRec : Kept (Recs 9 tvV w w.heap.size q.A n tvs):=kp (by rw [← htv,← hn];exact hq.row)
  have HSv : Kept (∀ x ∈ tvs,x.sv.Ok w w.heap.size):=kp (by rw [← htv];exact hq.svs)
  clear hq hlen hst htv hn
  rw [x7]
  go_enter Tryd.func30,Tryd.ntmps30
  go_wp2_with (first
    | ((with_reducible refine j4 rfl 43 (.tmp 0) rfl (pcC q) rfl ?_);intro gN w1 hgN0 hk1 hw1;have HK1:=kp hk1;have HW1:=kp hw1;have hs1:=hw1.size;have hl1:=hk1.lt;clear hk1 hw1)
    | ((with_reducible show Sl 2);go_must (refine j7 rfl 43 rfl _ lD ?_);intro g2 w2 hg20 hk2 hw2
       have HK22:=kp hk2;have HK12:=kp (HK1.out.below hw2 hl1);have HW2:=kp (HW1.out.trans (hw2.mono hs1));have hs2:=HW2.out.size;have hl12:=HK12.out.lt;have hl2:=hk2.lt
       have hc0:=HK12.out.cell 0
       rw [HE0.out,List.getElem?_cons_zero] at hc0
       have HRec2:=kp ((HRec.out.below HW2.out).more hs2)
       clear hk2 hw2)
    | (go_at_call 48;go_must (refine (QH q.A n q.cap tvs w2 HRec2.out (by omega)).mono ?_);rintro e w3 ⟨v3,rfl,hown3,hb3⟩
       obtain ⟨A3,c3,rfl,hl3,hm3,_⟩:=hown3.form
       rw [HQl.out] at hown3 hl3 ⊢
       obtain ⟨gT,curT0,hA3,hbT3,hcT3,_,hgT3,_,_,_⟩:=hown3.blk h0
       subst hA3
       have HOw3:=kp (hown3.less (show w.heap.size ≤ w2.heap.size by omega));have HbT3:=kp hbT3;have hTl3:=hbT3.lt
       unfold maxLen at hm3
       have HNe : Kept (gT ≠ gN ∧ g2 ≠ gN ∧ gT ≠ g2 ∧ w.heap.size ≤ gN ∧ w.heap.size ≤ g2 ∧ w.heap.size ≤ gT):=kp (by omega)
       have HK13:=kp (HK12.out.below hb3 hl12);have HK23:=kp (HK22.out.below hb3 hl2);have HW3:=kp (HW2.out.trans (hb3.mono hs2));have hs3:=HW3.out.size;have hs23:=hb3.size;clear hown3 hb3 hc0 hbT3)
    | ((with_reducible show Sn);go_must (refine jF rfl 40 (.tmp 7) (.tmp 6) rfl gN 0 (.slice (some ⟨gT,0,none⟩) n c3) rfl rfl rfl rfl _ _ HK13.out (by rw [HQ17.out];omega) J0 ?_);intro w4 hk4 hg4 hs4
       have HK4 : Kept (Blk w4 gN 43 (.slice (some ⟨gT,0,none⟩) n c3 :: q.ow.map natV)):=kp (by rw [HE0.out] at hk4;exact hk4)
       have HRow4:=kp (HOw3.out.far hg4 (.inr (fun e => by cases e;exact HNe.out.1 rfl)))
       have HK24:=kp (HK23.out.grown hg4 (fun e => by cases e;exact HNe.out.2.1 rfl))
       have HW4:=kp (HW3.out.grown hg4 HW3.out.size (fun k e => by cases e;exact HNe.out.2.2.2.1));have hs4':=HW4.out.size
       have hc0:=HK4.out.cell 0
       rw [List.getElem?_cons_zero] at hc0
       clear hk4 hg4 hs4))
  go_loopw [11] (fun v11 wr => ∃ (i : Nat) (tvs1 : List Tv),i ≤ n ∧ v11 = .int .i64 i ∧ tvs1.length = i ∧ tvs1.map tvT = (tvs.take i).map tvT ∧ OwnR 9 tvV wr w.heap.size 50 (.slice (some ⟨gT,0,none⟩) n c3) (tvs1 ++ tvs.drop i) ∧
      Fam 52 wr w.heap.size (fun b => b = gN ∨ b = g2 ∨ b = gT) (tvs1.map (·.sv)) ∧ Blk wr gN 43 (.slice (some ⟨gT,0,none⟩) n c3 :: q.ow.map natV) ∧ Blk wr g2 43 (Value.slice none 0 0 :: zeros 16) ∧ Below w.heap.size w wr) (fun v11 _ => n - (intOf v11).toNat)
  case atStart => exact ⟨0,[],by omega,rfl,rfl,rfl,by simpa using HRow4.out,Fam.nil _ _ _ _,HK4.out,HK24.out,HW4.out⟩
  case round =>
    obtain ⟨i,tvs1,hi,rfl,htl,htt,hrow,hfam,hkN,hk2,hbl⟩:=hrel
    have HTl:=kp htl;have HTt:=kp htt;have HRow:=kp hrow;have HFam:=kp hfam;have HK:=kp hkN;have HK2:=kp hk2;have HB:=kp hbl
    have hBs:=hbl.size
    have hgN:=hkN.lt;have hg2:=hk2.lt
    have hcN:=hkN.cell 0
    rw [List.getElem?_cons_zero] at hcN
    clear htl htt hrow hfam hkN hk2 hbl
    by_cases hlt : i < n
    · have hxi : tvs[i]? = some (tvs[i]'(by rw [HQl.out];exact hlt)):=List.getElem?_eq_getElem _
      obtain ⟨x,hx⟩ : ∃ x,tvs[i]'(by rw [HQl.out];exact hlt) = x:=⟨_,rfl⟩
      rw [hx] at hxi
      have hxm:=List.mem_of_getElem? hxi
      have HX:=kp (HSv.out x hxm)
      have hx1000:=HSt.out x hxm
      have HTv:=kp hxi
      obtain ⟨gT2,curT,hAT,hbT,hcTl,hcTt,hBT,hnc,hcm,_⟩:=HRow.out.blk h0
      have eT : gT = gT2:=by injection hAT with e;injection e
      subst eT
      have hk : (tvs1 ++ tvs.drop i)[i]? = some x:=by
        rw [List.getElem?_append_right (by rw [HTl.out];exact Nat.le_refl _),HTl.out,Nat.sub_self,List.getElem?_drop];exact hxi
      have hcx : curT[i * 9]? = some (.slice x.sv.A x.sv.len x.sv.cap):=by
        have h1:=lM 9 tvV (tvs1 ++ tvs.drop i) i 0 _ hk (by omega)
        rw [← hcTt,List.getElem?_take] at h1
        split at h1
        · exact h1
        · cases h1
      have HC0:=kp hcx;have HT:=kp hbT
      have hgT:=hbT.lt
      have hTlen : i * 9 < curT.length:=by rw [hcTl];omega
      have hTN : gT ≠ gN:=HNe.out.1
      have hT2 : gT ≠ g2:=HNe.out.2.2.1
      have HX9 : Kept True:=kp trivial
      have HTw : Kept (∀ (A5 : Option Addr) (c5 : Nat),(tvs1 ++ [(⟨⟨A5,x.sv.len,c5,x.sv.stack⟩,x.slots⟩ : Tv)]).map tvT = (tvs.take (i + 1)).map tvT):=kp (fun A5 c5 => by
        rw [List.map_append,HTt.out,List.take_add_one,hxi,List.map_append];rfl)
      have hxlc:=HX.out.lc;have hxcm:=HX.out.cm
      unfold maxLen at hxcm hcm
      clear hxi hx hxm hk hcx hbT hcTt hAT hcTl
      go_wp2
      apply jJ 12 (.is _ :: .is _ :: .is _ :: .is _ :: .is _ :: .is _ :: .is _ :: .is _ :: .is _ :: Fact.ownN 2 frV w.heap.size 52 wr.heap.size x.sv.stack :: .is _ :: .is _ :: [])
        [[],[(0,14)],[],[],[(3,17)],[],[(4,18),(5,19)],[(6,20)],[(7,21)],[(8,22)],[(1,15),(2,16)],[(10,24)],[(11,25),(9,23)]]
        [(0,14),(1,15),(2,16),(3,17),(4,18),(5,19),(6,20),(7,21),(8,22),(9,23),(10,24),(11,25)] (by kernel_rfl) (by kernel_rfl) (by kernel_rfl) (by kernel_rfl) (by kernel_rfl)
      case hob =>
        refine ⟨?o0,?o1,?o2,?o3,?o4,?o5,?o6,?o7,?o8,?o9,?o10,?o11,trivial⟩
        case o0 => intro W hW;change wpList _ _ _ _ _ _;go_wp2;exact j3 rfl rfl rfl
        case o1 =>
          intro W hW;rintro _ rfl;change wpList _ _ _ _ _ _
          have hc:=((HK.out.below hW hgN).cell 0)
          rw [List.getElem?_cons_zero] at hc
          go_wp2;exact j3 rfl rfl rfl
        case o2 => intro W hW;change wpList _ _ _ _ _ _;go_wp2;exact j3 rfl rfl rfl
        case o3 => intro W hW;change wpList _ _ _ _ _ _;go_wp2;exact j3 rfl rfl rfl
        case o4 =>
          intro W hW;rintro _ rfl;change wpList _ _ _ _ _ _
          have hc:=((HK.out.below hW hgN).cell 0)
          rw [List.getElem?_cons_zero] at hc
          go_wp2;exact j3 rfl rfl rfl
        case o5 => intro W hW;change wpList _ _ _ _ _ _;go_wp2;exact j3 rfl rfl rfl
        case o6 => intro W hW;rintro _ rfl;rintro _ rfl;change wpList _ _ _ _ _ _;go_wp2;exact j3 rfl rfl rfl
        case o7 => intro W hW;rintro _ rfl;change wpList _ _ _ _ _ _;go_wp2;exact j3 rfl rfl rfl
        case o8 =>
          intro W hW;rintro _ rfl;change wpList _ _ _ _ _ _
          have hc:=(HT.out.below hW hgT).cell (i * 9)
          rw [HC0.out] at hc
          go_wp2;exact j3 rfl rfl rfl
        case o9 =>
          intro W hW;rintro _ rfl;change wpList _ _ _ _ _ _
          have HRw:=kp ((HX.out.row.below (HB.out.trans (hW.mono hBs))).more (show w.heap.size ≤ W.heap.size by have:=hW.size;omega))
          have hWs:=hW.size
          clear hW
          go_wp2_with fail
          refine (QI x.sv.A x.sv.len x.sv.cap x.sv.stack W HRw.out hx1000).mono ?_
          rintro e w2 ⟨v5,rfl,hown5,hb5⟩
          have HOw5:=kp (hown5.less (show w.heap.size ≤ W.heap.size by omega));have HB5:=kp hb5;have HBk:=kp hown5.block
          clear hown5 hb5
          go_wp2
          exact jE rfl rfl rfl HB5.out ⟨HOw5.out,fun b hb => Nat.le_trans hWs (HBk.out b hb).1⟩
        case o10 => intro W hW;rintro _ rfl;rintro _ rfl;change wpList _ _ _ _ _ _;go_wp2;exact j3 rfl rfl rfl
        case o11 => intro W hW;rintro _ rfl;change wpList _ _ _ _ _ _;go_wp2;exact j3 rfl rfl rfl
      case hend =>
        intro W hW;rintro _ rfl;rintro _ rfl;rintro _ rfl;rintro _ rfl;rintro _ rfl;rintro _ rfl;rintro _ rfl;rintro _ rfl;rintro _ rfl;rintro v5 ⟨hown5,hk5⟩;rintro _ rfl;rintro _ rfl
        simp only [given,jI,List.set,List.drop]
        obtain ⟨A5,c5,rfl,hl5,hm5,_⟩:=hown5.form
        rw [HX.out.row.len] at hown5 hk5 hl5
        have HOw5:=kp hown5;have HK5:=kp hk5
        have HKw:=kp (HT.out.below hW hgT)
        have HNw:=kp (HK.out.below hW hgN)
        have HRw:=kp (HRow.out.below hW (Nat.le_refl _))
        have HFw:=kp (HFam.out.below hW (Nat.le_refl _))
        have HK2w:=kp (HK2.out.below hW hg2)
        have HBw:=kp (HB.out.trans (hW.mono hBs))
        have hWs:=hW.size
        have HFb:=kp (fun (k : Nat) (y : Sv) (b : Nat) (hy : (tvs1.map (·.sv))[k]? = some y) (hb : (svV y).ownBlock = some b) => HFam.out.block hy hb)
        clear hW hown5 hk5 hl5
        rw [HX.out.row.len]
        go_wp2_with (first
          | ((with_reducible show Sn);go_must (refine jF rfl 47 (.tmp 25) (.tmp 23) rfl gT (i * 9) (.slice A5 x.sv.len c5) rfl rfl rfl rfl _ _ HKw.out hTlen xP ?_);intro w7 hk7 hg7 hs7
             have HRow7:=kp (cp_row HRw.out HTv.out HTl.out HX9.out HKw.out hk7 (A5:=A5) (c5:=c5))
             have HFam7:=kp (cp_fam (sl:=x.slots) HFw.out HOw5.out HK5.out (fun b hb => by rcases hb with rfl | rfl | rfl <;> omega) HFb.out hg7)
             have HK7:=kp (HNw.out.grown hg7 (fun e => hTN (by cases e;rfl)))
             have HK27:=kp (HK2w.out.grown hg7 (fun e => hT2 (by cases e;rfl)))
             have HB7:=kp (HBw.out.grown hg7 (by omega) (fun k e => by cases e;exact hBT))
             have hbt7:=hk7
             clear hk7 hg7 hs7))
        go_roundw
        case rel => exact ⟨i + 1,tvs1 ++ [⟨⟨A5,x.sv.len,c5,x.sv.stack⟩,x.slots⟩],by omega,by go_num,by rw [List.length_append,HTl.out];rfl,HTw.out _ _,HRow7.out,HFam7.out,HK7.out,HK27.out,HB7.out⟩
        case measure => simp [intOf];omega
    · have hie : i = n:=by omega
      have hkN:=HK.out
      have HM : Kept (Mine wr w.heap.size ⟨some ⟨gT,0,none⟩,n,c3,tvs1,q.ow⟩ ∧ (⟨some ⟨gT,0,none⟩,n,c3,tvs1,q.ow⟩ : Pc).cf = q.cf):=kp (by
        have hd : tvs.drop i = []:=List.drop_of_length_le (by rw [HQl.out,hie];exact Nat.le_refl _)
        have h1:=HRow.out
        rw [hd,List.append_nil] at h1
        refine ⟨⟨h1,HFam.out.less fun b hb => ?_⟩,?_⟩
        · cases hb;exact .inl (.inr (.inr rfl))
        · have h2:=HTt.out
          rw [List.take_of_length_le (by rw [HQl.out,hie];exact Nat.le_refl _)] at h2
          show (⟨tvs1.map tvT,q.ow⟩ : M.Cf) = ⟨q.tvs.map tvT,q.ow⟩
          rw [h2,HTv0.out])
      have HC17 : Kept ((.slice (some ⟨gT,0,none⟩) n c3 :: q.ow.map natV : List Value).length = 17):=kp (by simp [h16])
      have hge : n ≤ i:=by omega
      clear hlt hie hkN
      go_wp2_with (first
        | ((with_reducible show Sl 27);go_must (refine j6 rfl 43 (.tmp 1) rfl gN rfl _ (.slice (some ⟨gT,0,none⟩) n c3 :: q.ow.map natV) _ HK.out Tryd.underlying43 rfl (by rw [HC17.out];exact jH) ?_))
        | ((with_reducible show Sn);go_must (refine j5 rfl 43 (.tmp 2) (.tmp 27) rfl g2 (.slice (some ⟨gT,0,none⟩) n c3 :: q.ow.map natV) rfl rfl _ _ HK2.out (by rw [HC17.out];exact jH) (by rw [HC17.out];rfl) (lK ⟨some ⟨gT,0,none⟩,n,c3,[],q.ow⟩) ?_);intro w8 hk8 hg8 hs8
           have HK8:=kp hk8
           have HM8 : Kept (Mine w8 w.heap.size ⟨some ⟨gT,0,none⟩,n,c3,tvs1,q.ow⟩):=kp (HM.out.1.far hg8 (fun b e => by cases e;exact HNe.out.2.2.1) (fun k y b hy hb => by have:=HFam.out.out k y b hy hb;intro e;exact this (.inr (.inl e))))
           have HB8:=kp (HB.out.grown hg8 HB.out.size (fun k e => by cases e;exact HNe.out.2.2.2.2.1))
           clear hk8 hg8 hs8)
        | ((with_reducible show bodyPost _ _ _ _ _ _);exact bodyPost_ret (jZ (P:=Tryd.prog) (fn:=Tryd.f30) rfl _ _ g2 43 _ _ rfl HK8.out Tryd.underlying43 rfl (by rw [HC17.out];exact jH)) rfl ⟨⟨some ⟨gT,0,none⟩,n,c3,tvs1,q.ow⟩,rfl,HM8.out,HM.out.2,HN.out.symm,rfl,HB8.out⟩))
def fn9 (f : Nat) : Value:=.func (.func f) #[] #[]
def deedL : List Value:=[fn9 53,fn9 53,fn9 53,fn9 54,fn9 55,fn9 56,fn9 53,fn9 57,fn9 58,fn9 59]
theorem X5 : (Tryd.prog.info? 89).map (·.zero) = some (some (.agg (List.replicate 10 Value.nilFunc).toArray)):=by kernel_rfl
theorem uS : (Tryd.prog.info? 89).map (·.size) = some 10:=by kernel_rfl
theorem LT : Tryd.prog.built 89 [(0,fn9 53),(1,fn9 53),(2,fn9 53),(3,fn9 54),(4,fn9 55),(5,fn9 56),(6,fn9 53),(7,fn9 57),(8,fn9 58),(9,fn9 59)] = some deedL.toArray:=by kernel_rfl
theorem XV : (Tryd.prog.info? 88).map (·.size) = some 1:=by kernel_rfl
theorem deed_ones : ∀ u ∈ deedL,u.oneCell' = true:=by
  intro u hu
  simp only [deedL,List.mem_cons,List.not_mem_nil,or_false] at hu
  rcases hu with rfl | rfl | rfl | rfl | rfl | rfl | rfl | rfl | rfl | rfl <;> rfl
set_option maxRecDepth 100000 in
set_option maxHeartbeats 1600000 in
theorem Y1 (w : World) : Calls Tryd.prog 33 #[] w fun e w' => e = .returned (.agg deedL.toArray) ∧ Below w.heap.size w w':=by
  go_enter Tryd.func33,Tryd.ntmps33
  go_wp2_with (first
    | ((with_reducible show Sl 0);go_must (refine j7 rfl 89 rfl _ X5 ?_);intro g1 w1 hg1 hk1 hw1;have HK1:=kp hk1;have HW1:=kp hw1;have hs1:=hw1.size;clear hk1 hw1)
    | ((with_reducible show Sl 1);go_must (refine qJ rfl 89 _ rfl [(0,fn9 53),(1,fn9 53),(2,fn9 53),(3,fn9 54),(4,fn9 55),(5,fn9 56),(6,fn9 53),(7,fn9 57),(8,fn9 58),(9,fn9 59)] (by simp [Act.eval,fn9]) deedL LT ?_))
    | ((with_reducible show Sn);go_must (refine j5 rfl 89 (.tmp 0) (.tmp 1) rfl g1 deedL rfl rfl _ _ HK1.out uS rfl deed_ones ?_);intro w3 hk3 hg3 hs3;have HK3:=kp hk3;have HW3:=kp (HW1.out.grown hg3 hs1 (fun k e => by cases e;omega));clear hk3 hg3)
    | ((with_reducible show bodyPost _ _ _ _ _ _);exact bodyPost_ret (jZ (P:=Tryd.prog) (fn:=Tryd.f33) rfl _ _ g1 89 _ _ rfl HK3.out Tryd.underlying89 rfl uS) rfl ⟨rfl,HW3.out⟩))
theorem Mine.away2 {w w' : World} {B B' g : Nat} {q : Pc} (h : Mine w B q) (hg : w.grownBy w' (some g)) (hB : g < B) (hB' : B' ≤ B) : Mine w' B' q :=
  ⟨(h.row.far hg (by
    cases hv : (Value.slice q.A q.len q.cap).ownBlock with
    | none => exact .inl rfl
    | some b => exact .inr fun e => by have:=(h.row.block b hv).1;cases e;omega)).less hB',⟨fun k x hx => ((h.fam.own k x hx).far hg (by
    cases hv : (svV x).ownBlock with
    | none => exact .inl rfl
    | some b => exact .inr fun e => by have:=((h.fam.own k x hx).block b hv).1;cases e;omega)).less hB',h.fam.out,h.fam.apart⟩⟩
theorem Mine.ok {w : World} {B : Nat} {q : Pc} (h : Mine w B q) : q.Ok w w.heap.size :=
  ⟨h.row.recs,h.row.len_is.2.1,h.row.len_is.2.2,fun x hx => by
    obtain ⟨k,hk⟩:=List.mem_iff_getElem?.1 hx
    have ho:=h.fam.own k x.sv (by rw [List.getElem?_map,hk];rfl)
    exact ⟨ho.recs,ho.len_is.2.1,ho.len_is.2.2⟩⟩
theorem Mine.less {w : World} {B B' : Nat} {q : Pc} (h : Mine w B q) (hB : B' ≤ B) : Mine w B' q:=⟨h.row.less hB,⟨fun k x hx => (h.fam.own k x hx).less hB,h.fam.out,h.fam.apart⟩⟩
theorem Mine.below {w w' : World} {B C : Nat} {q : Pc} (h : Mine w B q) (hb : Below C w w') (hC : w.heap.size ≤ C) : Mine w' B q:=⟨h.row.below hb hC,h.fam.below hb hC⟩
theorem St.mine {w : World} {B gN gU : Nat} {q : Pc} (h : St w B gN gU q) : Mine w B q:=⟨h.row,h.fam.less fun _ hb => .inl (.inr (.inr hb))⟩
def Fact.turn (gN k : Nat) (way : Bool) (x : Nd) (K : Nat) : Fact :=
  ⟨fun v W => ∃ g,v = .pointer (some ⟨g,0,none⟩) ∧ Blk W g 94 [.pointer (some ⟨gN,0,none⟩),.int .i64 (k : Int),.bool way,.int .i64 x.kind,.int .i64 x.arg,.int .i64 x.next,.int .i64 x.alt] ∧ K ≤ g,fun _ _ _ hb ⟨g,h1,h2,h3⟩ => ⟨g,h1,h2.below hb h2.lt,h3⟩⟩
set_option maxRecDepth 100000 in
set_option maxHeartbeats 8000000 in
theorem JZ (B : Nat) (p : Pg) (hf : Fine p) (q : Pc) (w : World) (hp : p.Ok w B) (hq : q.Ok w B) (hg : M.Good p q.cf) (hB : B ≤ w.heap.size) (t : Int) (ht : I64 t) (way : Bool) (hen : M.enabled p q.cf t = false) :
    Calls Tryd.prog 17 #[pcA q,pgA p,.agg #[.int .i64 t,.bool way]] w fun e w' => ∃ q',e = .returned (pcA q') ∧ Mine w' w.heap.size q' ∧ q'.cf = M.step p q.cf t way ∧ Below w.heap.size w w':=by
  have h8 : q.len ≤ 8:=by rw [← hq.len];exact hg.most
  have h0q : 0 < q.len:=by rw [← hq.len];exact hg.one
  have HOw:=kp hg.owns
  have HQ17:=kp (lQ hg.owns)
  have HStk : Kept (∀ x ∈ q.tvs,x.sv.len ≤ 1000):=kp (fun x hx => by
    have h1:=M.high hf hp.row.len hg (x:=tvT x) (List.mem_map_of_mem hx)
    have h2:=hf.counts.f
    have h3 : (tvT x).stack.length = x.sv.len:=(hq.svs x hx).row.len
    omega)
  have HP:=kp hp;have HQ:=kp hq;have HG:=kp hg;have HFine:=kp hf;have HT:=kp ht;have HEn:=kp hen
  have HStep : Kept (M.step p q.cf t way = q.cf):=kp (M.step_same hen)
  clear hp hq hg hf ht hen
  rw [x7,jM]
  go_enter Tryd.func17,Tryd.ntmps17
  go_wp2_with (first
    | ((with_reducible refine j4 rfl 43 (.tmp 0) rfl (pcC q) rfl ?_);intro g1 w1 hg1 hk1 hw1;have HK1:=kp hk1;have HW1:=kp hw1;have hs1:=hw1.size;have hl1:=hk1.lt;clear hk1 hw1)
    | ((with_reducible refine j4 rfl 24 (.tmp 1) rfl (pgC p) rfl ?_);intro g2 w2 hg2 hk2 hw2;have HK12:=kp (HK1.out.below hw2 hl1);have HK2:=kp hk2;have HW2:=kp (HW1.out.trans (hw2.mono hs1));have hs2:=HW2.out.size;have hl12:=HK12.out.lt;have hl2:=hk2.lt;clear hk2 hw2)
    | ((with_reducible refine j4 rfl 60 (.tmp 2) rfl [.int .i64 t,.bool way] rfl ?_);intro g3 w3 hg3 hk3 hw3;have HK13:=kp (HK12.out.below hw3 hl12);have HK23:=kp (HK2.out.below hw3 hl2);have HK3:=kp hk3;have HW3:=kp (HW2.out.trans (hw3.mono hs2));have hs3:=HW3.out.size;have hl13:=HK13.out.lt;have hl23:=HK23.out.lt;have hl3:=hk3.lt;clear hk3 hw3)
    | ((with_reducible show Sl 6);go_must (refine j7 rfl 43 rfl _ lD ?_);intro g4 w4 hg4 hk4 hw4
       have HA1:=kp (HK13.out.below hw4 hl13);have HA2:=kp (HK23.out.below hw4 hl23);have HA3:=kp (HK3.out.below hw4 hl3);have HA4:=kp hk4;have HW4:=kp (HW3.out.trans (hw4.mono hs3));have hs4:=HW4.out.size
       have ha1:=HA1.out.lt;have ha2:=HA2.out.lt;have ha3:=HA3.out.lt;have ha4:=hk4.lt
       have HQ4:=kp ((HQ.out.below (HW4.out.mono hB)).more (show B ≤ w4.heap.size by omega))
       have hwg4 : w.heap.size ≤ g4:=by omega
       clear hk4 hw4)
    | ((with_reducible show Sl 10);go_must (refine j6 rfl 43 (.tmp 3) rfl g1 rfl _ (pcC q) _ HA1.out Tryd.underlying43 rfl (by rw [HQ17.out];exact jH) ?_))
    | (go_at_call 30;go_must (refine (u9 q w4 HQ4.out h8 h0q HOw.out HStk.out).mono ?_);rintro e w5 ⟨q',rfl,hmine,hcf,hqln,hqow,hb5⟩
       have HMi:=kp hmine;have HCfq:=kp hcf;have HQow:=kp hqow;have HL5:=kp hb5;have hs5:=hb5.size
       have HQ17' : Kept ((pcC q').length = 17):=kp (lQ (by rw [hqow];exact HOw.out))
       have HQln:=kp hqln
       clear hmine hcf hqow hqln hb5)
    | ((with_reducible show Sl 7);go_must (refine j7 rfl 43 rfl _ lD ?_);intro gN w6 hgN hk6 hw6;have HKN6:=kp hk6;have HM6:=kp hw6;have HL6:=kp (HL5.out.trans (hw6.mono hs5));have hs56:=hw6.size;clear hk6 hw6)
    | ((with_reducible show Sn);(refine j5 rfl 43 (.tmp 7) (.tmp 11) rfl gN (pcC q') rfl rfl _ _ HKN6.out (by rw [HQ17'.out];exact jH) (by rw [HQ17'.out];rfl) (lK q') ?_);intro w7 hk7 hg7 hs7
       have HKN7:=kp hk7;have HM7:=kp (HM6.out.grown hg7 hs56 (fun k e => by cases e;exact hgN));have HL7:=kp (HL6.out.grown hg7 (by omega) (fun k e => by cases e;omega));have hs47:=HL7.out.size
       have hp3:=(HA3.out.below HL7.out ha3).cell 0
       have HW7:=kp (HW4.out.trans (HL7.out.mono hs4))
       have HB7:=kp (HA1.out.below HL7.out ha1);have HB72:=kp (HA2.out.below HL7.out ha2)
       simp only [List.getElem?_cons_zero] at hp3
       clear hk7 hg7 hs7)
    | ((with_reducible show Sl 12);go_must (refine j6 rfl 43 (.tmp 3) rfl g1 rfl _ (pcC q) _ HB7.out Tryd.underlying43 rfl (by rw [HQ17.out];exact jH) ?_))
    | ((with_reducible show Sl 13);go_must (refine j6 rfl 24 (.tmp 4) rfl g2 rfl _ (pgC p) _ HB72.out Tryd.underlying24 rfl jL ?_))
    | (go_at_call 31;go_must (refine (vF B p HFine.out q w7 (HP.out.below (HW7.out.mono hB)) (HQ.out.below (HW7.out.mono hB)) HG.out (by have:=HW7.out.size;omega) t HT.out false HEn.out).mono ?_);rintro e w8 ⟨rfl,hb8⟩
       have HM8:=kp (HM7.out.trans (hb8.mono HM7.out.size));have HL8:=kp (HL7.out.trans (hb8.mono hs47));have HKN8:=kp (HKN7.out.below hb8 HKN7.out.lt);have hs48:=HL8.out.size;have hs58:=HM8.out.size
       have HW8:=kp (HW4.out.trans (HL8.out.mono hs4))
       have HC8:=kp (HA1.out.below HL8.out ha1);have HC82:=kp (HA2.out.below HL8.out ha2);have HC84:=kp (HA4.out.below HL8.out ha4)
       have hp8:=(HA3.out.below HL8.out ha3).cell 0
       simp only [List.getElem?_cons_zero] at hp8
       have hgN8:=HKN8.out.lt
       clear hb8 hp3)
    | ((with_reducible show Sl 34);go_must (refine j6 rfl 43 (.tmp 7) rfl gN rfl _ (pcC q') _ HKN8.out Tryd.underlying43 rfl (by rw [HQ17'.out];exact jH) ?_))
    | ((with_reducible show Sn);(refine j5 rfl 43 (.tmp 6) (.tmp 34) rfl g4 (pcC q') rfl rfl _ _ HC84.out (by rw [HQ17'.out];exact jH) (by rw [HQ17'.out];rfl) (lK q') ?_);intro we hke hge hse
       have HKe:=kp hke;have HOk:=kp ((HMi.out.below HM8.out (Nat.le_refl _)).away2 hge ha4 HW4.out.size);have HWe:=kp (HW8.out.grown hge HW8.out.size (fun k e => by cases e;exact hwg4))
       clear hke hge hse)
    | ((with_reducible show bodyPost _ _ _ _ _ _);exact bodyPost_ret (jZ (P:=Tryd.prog) (fn:=Tryd.f17) rfl _ _ g4 43 _ _ rfl HKe.out Tryd.underlying43 rfl (by rw [HQ17'.out];exact jH)) rfl ⟨q',rfl,HOk.out,by rw [HCfq.out,HStep.out],HWe.out⟩))
end Go.Proofs.YtoekiejipdabmaaDoor
