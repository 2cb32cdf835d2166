/- The program's interpreter, walked: Enabled. -/
import Derived.Test.YtnaomfmmkhgbhaaPk8
namespace Go.Proofs.Ytnaomfmmkhgbhaa
open Go.RowKit
theorem LD {p : Pg} {c : M.Cf} {t : Int} (h : M.lives c t = false) : M.enabled p c t = false:=by
  cases he : M.enabled p c t with
  | false => rfl
  | true =>
    obtain ⟨h0,h1⟩:=M.enabled_split he
    have h2:=M.enabled_lives h1
    unfold M.lives at h
    rw [h2,decide_eq_true h0] at h
    cases h
theorem LE {p : Pg} {c : M.Cf} {k : Nat} {x : Nd} (h : M.lives c (k : Int) = true) (hx : M.node p c k = x) : M.enabled p c (k : Int) =
    (if x.kind = 3 then decide (c.owners.getD x.arg.toNat 0 = 0) else if x.kind = 6 then !M.lives c (((M.th c k).slots.getD x.arg.toNat 0 : Int) - 1) else if x.kind = 5 then decide (c.ths.length < 8) else true):=by
  unfold M.enabled M.enabledN
  rw [M.lives_nat] at h
  rw [Int.toNat_natCast,h,hx]
  simp
theorem atNd_is {p : Pg} {c : M.Cf} {k : Nat} {x : Nd} (h : M.lives c (k : Int) = true) (hx : M.node p c k = x) : atNd p c (k : Int) = x:=by
  unfold atNd;rw [h,← hx];rfl
set_option maxRecDepth 100000 in
set_option maxHeartbeats 1600000 in
theorem x8 (B : Nat) (p : Pg) (hf : Fine p) (q : Pc) (w : World) (hp : p.Ok w B) (hq : q.Ok w B) (hg : M.Good p q.cf) (hB : B ≤ w.heap.size) (t : Int) (ht : I64 t) (b : Bool) (hb : M.enabled p q.cf t = b) :
    Calls Try.prog 16 #[pcA q,pgA p,.int .i64 t] w fun e w' => e = .returned (.bool b) ∧ Below w.heap.size w w':=by
  have h8 : q.len ≤ 8:=by rw [← hq.len];exact hg.most
  have hq17 : (pcC q).length = 17:=jT hg.owns
  have HQ17:=kp hq17
  have HP:=kp hp;have HQ:=kp hq;have HT:=kp ht;have HG:=kp hg;have HFine:=kp hf
  have hqc:=hq.lc;have hqm:=hq.cm
  unfold maxLen at hqm
  cases hlv : M.lives q.cf t
  · have hbf:=LD (p:=p) hlv
    rw [hbf] at hb
    subst hb
    have HLv:=kp hlv
    have HX : Kept (atNd p q.cf t = ⟨0,0,0,0⟩):=kp (by unfold atNd;rw [hlv];rfl)
    clear hp hq ht hg hf hq17 hlv hbf
    rw [qD,jI]
    go_enter Try.func16,Try.ntmps16
    go_wp2_with (first
      | ((with_reducible refine j2 rfl 46 (.tmp 0) rfl (pcC q) rfl ?_);intro g1 w1 hg1 hk1 hw1;have HK1:=kp hk1;have HW1:=kp hw1;have hs1:=hw1.size;have hl1:=hk1.lt;clear hk1 hw1)
      | ((with_reducible refine j2 rfl 24 (.tmp 1) rfl (pgC p) rfl ?_);intro g2 w2 hg2 hk2 hw2;have HK12:=kp (HK1.out.below hw2 hl1);have HK2:=kp hk2;have HW2:=kp (HW1.out.trans (hw2.mono hs1));have hs2:=HW2.out.size;have hl12:=HK12.out.lt;have hl2:=hk2.lt;clear hk2 hw2)
      | ((with_reducible show Sl 10);go_must (refine j1 rfl 46 (.tmp 3) rfl g1 rfl _ (pcC q) _ HK12.out Try.underlying46 rfl (by rw [HQ17.out];exact jA) ?_))
      | ((with_reducible show Sl 11);go_must (refine j1 rfl 24 (.tmp 4) rfl g2 rfl _ (pgC p) _ HK2.out Try.underlying24 rfl jD ?_))
      | (go_at_call 35;go_must (refine (yA B p HFine.out q w2 (HP.out.below (HW2.out.mono hB)) (HQ.out.below (HW2.out.mono hB)) HG.out (by omega) (t) HT.out false HLv.out (⟨0,0,0,0⟩) HX.out).mono ?_);rintro e w4 ⟨rfl,hb4⟩
         have HW4:=kp (HW2.out.trans (hb4.mono hs2));have HK14:=kp (HK12.out.below hb4 hl12);have hl14:=HK14.out.lt;have hs4:=HW4.out.size;clear hb4)
      | ((with_reducible show Sl 7);go_must (refine j3 rfl 55 rfl (ndC ⟨0,0,0,0⟩) jQ ?_);intro g3 w5 hg3 hk5 hw5
         have HK35:=kp hk5;have HK15:=kp (HK14.out.below hw5 hl14);have HW5:=kp (HW4.out.trans (hw5.mono hs4));have hs5:=HW5.out.size;have hl35:=hk5.lt;clear hk5 hw5)
      | ((with_reducible show Sn);go_must (refine j4 rfl 55 (.tmp 7) (.tmp 14) rfl g3 (ndC (⟨0,0,0,0⟩)) rfl rfl _ _ HK35.out jH rfl (jR _) ?_);intro w6 hk6 hg6 hs6
         have HK16:=kp (HK15.out.grown hg6 (fun e => by cases e;omega));have HK36:=kp hk6;have HW6:=kp (HW5.out.grown hg6 hs5 (fun k e => by cases e;omega));clear hg6;clear hk6))
    go_ret
    exact ⟨rfl,HW6.out⟩
  · obtain ⟨k,rfl⟩ : ∃ k : Nat,t = (k : Int):=⟨t.toNat,by
      unfold M.lives at hlv
      rw [Bool.and_eq_true,decide_eq_true_eq] at hlv
      omega⟩
    obtain ⟨x,hx⟩ : ∃ x,M.node p q.cf k = x:=⟨_,rfl⟩
    have hlv2:=hlv
    rw [M.lives_nat] at hlv2
    have hkl : k < q.len:=by rw [← hq.len];exact M.lives_lt hlv2
    obtain ⟨fn,hfn,_,_⟩:=M.node_is hg hlv2
    have hfit:=M.node_fit hf hg hlv2 hfn
    rw [hx] at hfit
    have HLv:=kp hlv
    have HX:=kp (atNd_is hlv hx)
    rw [LE hlv hx] at hb
    obtain ⟨ad,th,hA,hadB,hth,hsok,hthc,hsl,hc0,hcs⟩:=hq.thread hkl
    rw [hthc] at hb
    obtain ⟨a,ha⟩ : ∃ a : Nat,x.arg = (a : Int):=⟨x.arg.toNat,by have:=hfit.arg;omega⟩
    rw [ha,Int.toNat_natCast] at hb
    have h16:=hg.owns
    have HE : Kept (pcC q = .slice (some ad) q.len q.cap :: q.ow.map natV):=kp (by unfold pcC;rw [hA])
    have hEx : Kept (ndC x = [.int .i64 x.kind,.int .i64 (a : Int),.int .i64 x.next,.int .i64 x.alt]):=kp (by unfold ndC;rw [ha])
    by_cases k3 : x.kind = 3
    · rw [if_pos k3] at hb
      have hal:=hfit.lock (.inl k3)
      have HO : Kept ((pcC q)[1 + a]? = some (.int .i64 (q.ow.getD a 0 : Int))):=kp (by rw [HE.out,show 1 + a = a + 1 by omega,List.getElem?_cons_succ];exact JX h16 (by omega))
      have HB : Kept (((q.ow.getD a 0 : Int) == 0) = b):=kp (by rw [← hb,Bool.eq_iff_iff,beq_iff_eq,decide_eq_true_eq];show _ ↔ q.ow.getD a 0 = 0;omega)
      obtain ⟨o,ho⟩ : ∃ o,q.ow.getD a 0 = o:=⟨_,rfl⟩
      rw [ho] at HO HB
      have e3 : (x.kind == 3) = true:=by rw [beq_iff_eq];exact k3
      have ha16 : a < 16:=by omega
      clear hp hq ht hg hf hq17 hlv hlv2 hb hx hfit hth hsok hthc hsl hc0 hcs ha hA hfn ho k3 hal
      rw [qD,jI]
      go_enter Try.func16,Try.ntmps16
      go_wp2_with (first
        | ((with_reducible refine j2 rfl 46 (.tmp 0) rfl (pcC q) rfl ?_);intro g1 w1 hg1 hk1 hw1;have HK1:=kp hk1;have HW1:=kp hw1;have hs1:=hw1.size;have hl1:=hk1.lt;clear hk1 hw1)
        | ((with_reducible refine j2 rfl 24 (.tmp 1) rfl (pgC p) rfl ?_);intro g2 w2 hg2 hk2 hw2;have HK12:=kp (HK1.out.below hw2 hl1);have HK2:=kp hk2;have HW2:=kp (HW1.out.trans (hw2.mono hs1));have hs2:=HW2.out.size;have hl12:=HK12.out.lt;have hl2:=hk2.lt;clear hk2 hw2)
        | ((with_reducible show Sl 10);go_must (refine j1 rfl 46 (.tmp 3) rfl g1 rfl _ (pcC q) _ HK12.out Try.underlying46 rfl (by rw [HQ17.out];exact jA) ?_))
        | ((with_reducible show Sl 11);go_must (refine j1 rfl 24 (.tmp 4) rfl g2 rfl _ (pgC p) _ HK2.out Try.underlying24 rfl jD ?_))
        | (go_at_call 35;go_must (refine (yA B p HFine.out q w2 (HP.out.below (HW2.out.mono hB)) (HQ.out.below (HW2.out.mono hB)) HG.out (by omega) ((k : Int)) HT.out true HLv.out (x) HX.out).mono ?_);rintro e w4 ⟨rfl,hb4⟩
           have HW4:=kp (HW2.out.trans (hb4.mono hs2));have HK14:=kp (HK12.out.below hb4 hl12);have hl14:=HK14.out.lt;have hs4:=HW4.out.size;clear hb4)
        | ((with_reducible show Sl 7);go_must (refine j3 rfl 55 rfl (ndC ⟨0,0,0,0⟩) jQ ?_);intro g3 w5 hg3 hk5 hw5
           have HK35:=kp hk5;have HK15:=kp (HK14.out.below hw5 hl14);have HW5:=kp (HW4.out.trans (hw5.mono hs4));have hs5:=HW5.out.size;have hl35:=hk5.lt;clear hk5 hw5)
        | ((with_reducible show Sn);go_must (refine j4 rfl 55 (.tmp 7) (.tmp 14) rfl g3 (ndC (x)) rfl rfl _ _ HK35.out jH rfl (jR _) ?_);intro w6 hk6 hg6 hs6
           have HK16:=kp (HK15.out.grown hg6 (fun e => by cases e;omega));have HK36:=kp hk6;have HW6:=kp (HW5.out.grown hg6 hs5 (fun k e => by cases e;omega));clear hg6
           rw [hEx.out] at hk6;have hx0:=hk6.cell 0;have hx1:=hk6.cell 1;simp only [List.getElem?_cons_zero,List.getElem?_cons_succ] at hx0 hx1;clear hk6
           have hc1:=(HK16.out.cell (1 + a)).trans HO.out))
      go_ret
      exact ⟨jG HB.out,HW6.out⟩
    rw [if_neg k3] at hb
    have e3 : (x.kind == 3) = false:=by rw [beq_eq_false_iff_ne];exact k3
    by_cases k6 : x.kind = 6
    · rw [if_pos k6] at hb
      have hal:=hfit.join k6
      have e6 : (x.kind == 6) = true:=by rw [beq_iff_eq];exact k6
      have ha8 : a < 8:=by omega
      obtain ⟨o,ho⟩ : ∃ o,(tvT th).slots.getD a 0 = o:=⟨_,rfl⟩
      rw [ho] at hb
      have hoc : w.cell? ⟨(ad.add (k * 9)).block,(ad.add (k * 9)).off + 1 + a,none⟩ = some (.int .i64 (o : Int)):=by
        rcases hcs a with h | h
        · rw [show (ad.add (k * 9)).off + 1 + a = (ad.add (k * 9)).off + (a + 1) by omega,h,← ho];rfl
        · omega
      have HOc:=kp hoc
      have ho8 : o ≤ 8:=by
        have h1:=hg.slot (tvT th) (List.mem_map_of_mem (List.mem_of_getElem? hth))
        have h2:=hg.eight (tvT th) (List.mem_map_of_mem (List.mem_of_getElem? hth))
        rw [← ho,List.getD_eq_getElem?_getD,List.getElem?_eq_getElem (by omega)]
        exact h1 _ (List.getElem_mem _)
      obtain ⟨bl,hbl⟩ : ∃ bl,M.lives q.cf ((o : Int) - 1) = bl:=⟨_,rfl⟩
      rw [hbl] at hb
      have HBl:=kp hbl
      have HI1 : Kept (I64 ((o : Int) - 1)):=kp (by unfold I64;omega)
      subst hb
      clear hp hq ht hg hf hq17 hlv hlv2 hx hfit hth hsok hthc hsl hc0 hcs ha hA hfn ho k3 hal hoc hbl k6
      rw [qD,jI]
      go_enter Try.func16,Try.ntmps16
      go_wp2_with (first
        | ((with_reducible refine j2 rfl 46 (.tmp 0) rfl (pcC q) rfl ?_);intro g1 w1 hg1 hk1 hw1;have HK1:=kp hk1;have HW1:=kp hw1;have hs1:=hw1.size;have hl1:=hk1.lt;clear hk1 hw1)
        | ((with_reducible refine j2 rfl 24 (.tmp 1) rfl (pgC p) rfl ?_);intro g2 w2 hg2 hk2 hw2;have HK12:=kp (HK1.out.below hw2 hl1);have HK2:=kp hk2;have HW2:=kp (HW1.out.trans (hw2.mono hs1));have hs2:=HW2.out.size;have hl12:=HK12.out.lt;have hl2:=hk2.lt;clear hk2 hw2)
        | ((with_reducible show Sl 10);go_must (refine j1 rfl 46 (.tmp 3) rfl g1 rfl _ (pcC q) _ HK12.out Try.underlying46 rfl (by rw [HQ17.out];exact jA) ?_))
        | ((with_reducible show Sl 11);go_must (refine j1 rfl 24 (.tmp 4) rfl g2 rfl _ (pgC p) _ HK2.out Try.underlying24 rfl jD ?_))
        | (go_at_call 35;go_must (refine (yA B p HFine.out q w2 (HP.out.below (HW2.out.mono hB)) (HQ.out.below (HW2.out.mono hB)) HG.out (by omega) ((k : Int)) HT.out true HLv.out (x) HX.out).mono ?_);rintro e w4 ⟨rfl,hb4⟩
           have HW4:=kp (HW2.out.trans (hb4.mono hs2));have HK14:=kp (HK12.out.below hb4 hl12);have hl14:=HK14.out.lt;have hs4:=HW4.out.size;clear hb4)
        | ((with_reducible show Sl 7);go_must (refine j3 rfl 55 rfl (ndC ⟨0,0,0,0⟩) jQ ?_);intro g3 w5 hg3 hk5 hw5
           have HK35:=kp hk5;have HK15:=kp (HK14.out.below hw5 hl14);have HW5:=kp (HW4.out.trans (hw5.mono hs4));have hs5:=HW5.out.size;have hl35:=hk5.lt;clear hk5 hw5)
        | ((with_reducible show Sn);go_must (refine j4 rfl 55 (.tmp 7) (.tmp 14) rfl g3 (ndC (x)) rfl rfl _ _ HK35.out jH rfl (jR _) ?_);intro w6 hk6 hg6 hs6
           have HK16:=kp (HK15.out.grown hg6 (fun e => by cases e;omega));have HK36:=kp hk6;have HW6:=kp (HW5.out.grown hg6 hs5 (fun k e => by cases e;omega));clear hg6
           rw [hEx.out] at hk6;have hx0:=hk6.cell 0;simp only [List.getElem?_cons_zero] at hx0;have HX6:=kp hk6;clear hk6))
      have hd1:=HK16.out.lt;have hd3:=HK36.out.lt
      apply lN (.is (pcA q) :: .is _ :: .is _ :: .is _ :: .is _ :: .is _ :: .is _ :: .is _ :: .is _ :: .is _ :: .is _ :: .is _ :: .is _ :: .is _ :: [])
        [[],[],[(1,31)],[],[],[(4,34)],[(2,32),(3,33)],[(6,36)],[(7,37),(5,35)],[(8,38)],[(9,39)],[(0,30),(10,40)],[(11,41)],[(12,42)]]
        [(0,30),(1,31),(2,32),(3,33),(4,34),(5,35),(6,36),(7,37),(8,38),(9,39),(10,40),(11,41),(12,42),(13,6)] (by kernel_rfl) (by kernel_rfl)
      case hob =>
        refine ⟨?o0,?o1,?o2,?o3,?o4,?o5,?o6,?o7,?o8,?o9,?o10,?o11,?o12,?o13,trivial⟩
        case o0 =>
          intro W hW;change wpList _ _ _ _ _ _
          have HKw:=kp (HK16.out.below hW hd1)
          go_wp2_with ((with_reducible show Sl 30);go_must (refine j1 rfl 46 (.tmp 3) rfl g1 rfl _ (pcC q) _ HKw.out Try.underlying46 rfl (by rw [HQ17.out];exact jA) ?_))
          exact j0 rfl rfl rfl
        case o1 => intro W hW;change wpList _ _ _ _ _ _;go_wp2;exact j0 rfl rfl rfl
        case o2 =>
          intro W hW;rintro _ rfl;change wpList _ _ _ _ _ _
          have hc:=(HK16.out.below hW hd1).cell 0
          rw [HE.out,List.getElem?_cons_zero] at hc
          go_wp2;exact j0 rfl rfl rfl
        case o3 => intro W hW;change wpList _ _ _ _ _ _;go_wp2;exact j0 rfl rfl rfl
        case o4 => intro W hW;change wpList _ _ _ _ _ _;go_wp2;exact j0 rfl rfl rfl
        case o5 =>
          intro W hW;rintro _ rfl;change wpList _ _ _ _ _ _
          have hc:=(HX6.out.below hW hd3).cell 1
          simp only [List.getElem?_cons_zero,List.getElem?_cons_succ] at hc
          go_wp2;exact j0 rfl rfl rfl
        case o6 => intro W hW;rintro _ rfl;rintro _ rfl;change wpList _ _ _ _ _ _;go_wp2;exact j0 rfl rfl rfl
        case o7 => intro W hW;rintro _ rfl;change wpList _ _ _ _ _ _;go_wp2;exact j0 rfl rfl rfl
        case o8 => intro W hW;rintro _ rfl;rintro _ rfl;change wpList _ _ _ _ _ _;go_wp2;exact j0 rfl rfl rfl
        case o9 =>
          intro W hW;rintro _ rfl;change wpList _ _ _ _ _ _
          have hc:=((HW6.out.trans (hW.mono HW6.out.size)).cell (p:=⟨(ad.add (k * 9)).block,(ad.add (k * 9)).off + 1 + a,none⟩) (by show (ad.add (k * 9)).block < _;rw [add_block];omega)).trans HOc.out
          go_wp2;exact j0 rfl rfl rfl
        case o10 =>
          intro W hW;rintro _ rfl;change wpList _ _ _ _ _ _
          go_wp2_with fail
          refine (YK o (by omega) W).mono ?_
          rintro e w2 ⟨rfl,rfl⟩
          go_wp2
          exact j0 rfl rfl rfl
        case o11 =>
          intro W hW;rintro _ rfl;rintro _ rfl;change wpList _ _ _ _ _ _
          go_wp2_with fail
          refine (uF B q W (HQ.out.below ((HW6.out.trans (hW.mono HW6.out.size)).mono hB)) (by have:=(HW6.out.trans (hW.mono HW6.out.size)).size;omega) (by omega) ((o : Int) - 1) HI1.out bl HBl.out).mono ?_
          rintro e w2 ⟨rfl,hb2⟩
          have HB2:=kp hb2;clear hb2
          go_wp2
          exact jB rfl rfl rfl HB2.out rfl
        case o12 => intro W hW;rintro _ rfl;change wpList _ _ _ _ _ _;go_wp2;exact j0 rfl rfl rfl
        case o13 => intro W hW;rintro _ rfl;change wpList _ _ _ _ _ _;go_wp2;exact j0 rfl rfl rfl
      case hend =>
        intro W hW;rintro _ rfl;rintro _ rfl;rintro _ rfl;rintro _ rfl;rintro _ rfl;rintro _ rfl;rintro _ rfl;rintro _ rfl;rintro _ rfl;rintro _ rfl;rintro _ rfl;rintro _ rfl;rintro _ rfl;rintro _ rfl
        simp only [given,jF,List.set]
        have HWw:=kp (HW6.out.trans (hW.mono HW6.out.size))
        clear hW
        go_wp2
        go_ret
        exact ⟨rfl,HWw.out⟩
    rw [if_neg k6] at hb
    have e6 : (x.kind == 6) = false:=by rw [beq_eq_false_iff_ne];exact k6
    by_cases k5 : x.kind = 5
    · rw [if_pos k5,hq.len] at hb
      have e5 : (x.kind == 5) = true:=by rw [beq_iff_eq];exact k5
      have HB : Kept (decide ((q.len : Int) < 8) = b):=kp (by rw [← hb,Bool.eq_iff_iff,decide_eq_true_eq,decide_eq_true_eq];omega)
      clear hp hq ht hg hf hq17 hlv hlv2 hb hx hfit hth hsok hthc hsl hc0 hcs ha hA hfn k3 k6 k5
      rw [qD,jI]
      go_enter Try.func16,Try.ntmps16
      go_wp2_with (first
        | ((with_reducible refine j2 rfl 46 (.tmp 0) rfl (pcC q) rfl ?_);intro g1 w1 hg1 hk1 hw1;have HK1:=kp hk1;have HW1:=kp hw1;have hs1:=hw1.size;have hl1:=hk1.lt;clear hk1 hw1)
        | ((with_reducible refine j2 rfl 24 (.tmp 1) rfl (pgC p) rfl ?_);intro g2 w2 hg2 hk2 hw2;have HK12:=kp (HK1.out.below hw2 hl1);have HK2:=kp hk2;have HW2:=kp (HW1.out.trans (hw2.mono hs1));have hs2:=HW2.out.size;have hl12:=HK12.out.lt;have hl2:=hk2.lt;clear hk2 hw2)
        | ((with_reducible show Sl 10);go_must (refine j1 rfl 46 (.tmp 3) rfl g1 rfl _ (pcC q) _ HK12.out Try.underlying46 rfl (by rw [HQ17.out];exact jA) ?_))
        | ((with_reducible show Sl 11);go_must (refine j1 rfl 24 (.tmp 4) rfl g2 rfl _ (pgC p) _ HK2.out Try.underlying24 rfl jD ?_))
        | (go_at_call 35;go_must (refine (yA B p HFine.out q w2 (HP.out.below (HW2.out.mono hB)) (HQ.out.below (HW2.out.mono hB)) HG.out (by omega) ((k : Int)) HT.out true HLv.out (x) HX.out).mono ?_);rintro e w4 ⟨rfl,hb4⟩
           have HW4:=kp (HW2.out.trans (hb4.mono hs2));have HK14:=kp (HK12.out.below hb4 hl12);have hl14:=HK14.out.lt;have hs4:=HW4.out.size;clear hb4)
        | ((with_reducible show Sl 7);go_must (refine j3 rfl 55 rfl (ndC ⟨0,0,0,0⟩) jQ ?_);intro g3 w5 hg3 hk5 hw5
           have HK35:=kp hk5;have HK15:=kp (HK14.out.below hw5 hl14);have HW5:=kp (HW4.out.trans (hw5.mono hs4));have hs5:=HW5.out.size;have hl35:=hk5.lt;clear hk5 hw5)
        | ((with_reducible show Sn);go_must (refine j4 rfl 55 (.tmp 7) (.tmp 14) rfl g3 (ndC (x)) rfl rfl _ _ HK35.out jH rfl (jR _) ?_);intro w6 hk6 hg6 hs6
           have HK16:=kp (HK15.out.grown hg6 (fun e => by cases e;omega));have HK36:=kp hk6;have HW6:=kp (HW5.out.grown hg6 hs5 (fun k e => by cases e;omega));clear hg6
           rw [hEx.out] at hk6;have hx0:=hk6.cell 0;simp only [List.getElem?_cons_zero] at hx0;clear hk6
           have hc0:=HK16.out.cell 0;rw [HE.out,List.getElem?_cons_zero] at hc0))
      go_ret
      exact ⟨jG HB.out,HW6.out⟩
    rw [if_neg k5] at hb
    subst hb
    have e5 : (x.kind == 5) = false:=by rw [beq_eq_false_iff_ne];exact k5
    clear hp hq ht hg hf hq17 hlv hlv2 hx hfit hth hsok hthc hsl hc0 hcs ha hA hfn k3 k6 k5
    rw [qD,jI]
    go_enter Try.func16,Try.ntmps16
    go_wp2_with (first
      | ((with_reducible refine j2 rfl 46 (.tmp 0) rfl (pcC q) rfl ?_);intro g1 w1 hg1 hk1 hw1;have HK1:=kp hk1;have HW1:=kp hw1;have hs1:=hw1.size;have hl1:=hk1.lt;clear hk1 hw1)
      | ((with_reducible refine j2 rfl 24 (.tmp 1) rfl (pgC p) rfl ?_);intro g2 w2 hg2 hk2 hw2;have HK12:=kp (HK1.out.below hw2 hl1);have HK2:=kp hk2;have HW2:=kp (HW1.out.trans (hw2.mono hs1));have hs2:=HW2.out.size;have hl12:=HK12.out.lt;have hl2:=hk2.lt;clear hk2 hw2)
      | ((with_reducible show Sl 10);go_must (refine j1 rfl 46 (.tmp 3) rfl g1 rfl _ (pcC q) _ HK12.out Try.underlying46 rfl (by rw [HQ17.out];exact jA) ?_))
      | ((with_reducible show Sl 11);go_must (refine j1 rfl 24 (.tmp 4) rfl g2 rfl _ (pgC p) _ HK2.out Try.underlying24 rfl jD ?_))
      | (go_at_call 35;go_must (refine (yA B p HFine.out q w2 (HP.out.below (HW2.out.mono hB)) (HQ.out.below (HW2.out.mono hB)) HG.out (by omega) ((k : Int)) HT.out true HLv.out (x) HX.out).mono ?_);rintro e w4 ⟨rfl,hb4⟩
         have HW4:=kp (HW2.out.trans (hb4.mono hs2));have HK14:=kp (HK12.out.below hb4 hl12);have hl14:=HK14.out.lt;have hs4:=HW4.out.size;clear hb4)
      | ((with_reducible show Sl 7);go_must (refine j3 rfl 55 rfl (ndC ⟨0,0,0,0⟩) jQ ?_);intro g3 w5 hg3 hk5 hw5
         have HK35:=kp hk5;have HK15:=kp (HK14.out.below hw5 hl14);have HW5:=kp (HW4.out.trans (hw5.mono hs4));have hs5:=HW5.out.size;have hl35:=hk5.lt;clear hk5 hw5)
      | ((with_reducible show Sn);go_must (refine j4 rfl 55 (.tmp 7) (.tmp 14) rfl g3 (ndC (x)) rfl rfl _ _ HK35.out jH rfl (jR _) ?_);intro w6 hk6 hg6 hs6
         have HK16:=kp (HK15.out.grown hg6 (fun e => by cases e;omega));have HK36:=kp hk6;have HW6:=kp (HW5.out.grown hg6 hs5 (fun k e => by cases e;omega));clear hg6
         rw [hEx.out] at hk6;have hx0:=hk6.cell 0;simp only [List.getElem?_cons_zero] at hx0;clear hk6))
    go_ret
    exact ⟨rfl,HW6.out⟩
end Go.Proofs.Ytnaomfmmkhgbhaa
