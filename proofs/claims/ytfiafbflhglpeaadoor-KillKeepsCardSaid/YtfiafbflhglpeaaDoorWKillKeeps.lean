/- KillKeeps, walked. -/
import Derived.Test.YtfiafbflhglpeaaDoorPk9
import Derived.Test.YtfiafbflhglpeaaDoorKillRow
import Derived.Test.YtfiafbflhglpeaaDoorPk16
import Derived.Test.YtfiafbflhglpeaaDoorPk12
import Derived.Test.YtfiafbflhglpeaaDoorPk14
import Derived.Test.YtfiafbflhglpeaaDoorPk1
namespace Go.Proofs.YtfiafbflhglpeaaDoor
open Go.RowKit
set_option maxRecDepth 1000000 in
set_option maxHeartbeats 8000000 in
theorem walkKillKeeps (pg0 : Pg) (a1 : Option Addr) (len1 cap1 : Nat) (z1 : List (Int × Bool)) (w : World) (w0 : pg0.Ok w w.heap.size) (w1 : Picks w w.heap.size a1 len1 z1) (c1 : len1 ≤ cap1 ∧ cap1 ≤ maxLen) (hL : Tab w) :
    Calls Tryd.prog 5 #[pgA pg0,.slice a1 len1 cap1] w fun e w' => e = .returned (.bool true) ∧ Below w.heap.size w w':=by
  have HPi:=kp w1
  have hc1':=c1.1;have hm1:=c1.2
  unfold maxLen at hm1
  clear w1 c1
  have HP:=kp w0;have HTab:=kp hL
  have hw01:=hL.size
  clear w0 hL
  obtain ⟨r,hr⟩ : ∃ r,Q.small pg0 = r:=⟨_,rfl⟩
  have HR:=kp hr
  clear hr
  rw [jN]
  cases r
  · go_enter Tryd.func5,Tryd.ntmps5
    go_wp2_with (first
      | ((with_reducible refine j4 rfl 24 (.tmp 0) rfl (pgC pg0) rfl ?_);intro g1 u1 hg1 hk1 hu1;have HK1:=kp hk1;have HG1:=kp hg1;have HU1:=kp hu1;have hz1:=hu1.size;clear hg1 hk1 hu1))
    refine (jO u1 (HTab.out.below HU1.out hw01)).mono ?_
    rintro e w1 ⟨rfl,hb1⟩
    have HW1 : Kept (Below w.heap.size w w1):=kp (HU1.out.trans (hb1.mono hz1))
    have hs1:=HW1.out.size
    have HP1:=kp (HP.out.below HW1.out)
    have HKa:=kp (HK1.out.below hb1 HK1.out.lt)
    obtain ⟨hc0,hc1,hc2,hc3⟩:=j8 HKa.out
    clear hb1
    go_wp2_with fail
    refine (lA _ pg0 w1 HP1.out hs1 _ HR.out).mono ?_
    rintro e w2 ⟨rfl,hb2⟩
    have HW2 : Kept (Below w.heap.size w w2):=kp (HW1.out.trans (hb2.mono hs1))
    have hs2:=HW2.out.size
    have HP2:=kp (HP.out.below HW2.out)
    have HKb:=kp (HKa.out.below hb2 HKa.out.lt)
    clear hb2 hc0 hc1 hc2 hc3
    obtain ⟨hc0,hc1,hc2,hc3⟩:=j8 HKb.out
    go_wp2_with fail
    refine (jO w2 (HTab.out.below HW2.out hw01)).mono ?_
    rintro e w9 ⟨rfl,hb9⟩
    have HW9:=kp (HW2.out.trans (hb9.mono hs2))
    clear hb9
    go_wp2
    go_ret
    exact ⟨rfl,HW9.out⟩
  · by_cases hbig : 300 < len1
    · go_enter Tryd.func5,Tryd.ntmps5
      go_wp2_with (first
        | ((with_reducible refine j4 rfl 24 (.tmp 0) rfl (pgC pg0) rfl ?_);intro g1 u1 hg1 hk1 hu1;have HK1:=kp hk1;have HG1:=kp hg1;have HU1:=kp hu1;have hz1:=hu1.size;clear hg1 hk1 hu1))
      refine (jO u1 (HTab.out.below HU1.out hw01)).mono ?_
      rintro e w1 ⟨rfl,hb1⟩
      have HW1 : Kept (Below w.heap.size w w1):=kp (HU1.out.trans (hb1.mono hz1))
      have hs1:=HW1.out.size
      have HP1:=kp (HP.out.below HW1.out)
      have HKa:=kp (HK1.out.below hb1 HK1.out.lt)
      obtain ⟨hc0,hc1,hc2,hc3⟩:=j8 HKa.out
      clear hb1
      go_wp2_with fail
      refine (lA _ pg0 w1 HP1.out hs1 _ HR.out).mono ?_
      rintro e w2 ⟨rfl,hb2⟩
      have HW2 : Kept (Below w.heap.size w w2):=kp (HW1.out.trans (hb2.mono hs1))
      have hs2:=HW2.out.size
      have HP2:=kp (HP.out.below HW2.out)
      have HKb:=kp (HKa.out.below hb2 HKa.out.lt)
      clear hb2 hc0 hc1 hc2 hc3
      obtain ⟨hc0,hc1,hc2,hc3⟩:=j8 HKb.out
      go_wp2_with fail
      refine (jO w2 (HTab.out.below HW2.out hw01)).mono ?_
      rintro e w9 ⟨rfl,hb9⟩
      have HW9:=kp (HW2.out.trans (hb9.mono hs2))
      clear hb9
      go_wp2
      go_ret
      exact ⟨rfl,HW9.out⟩
    · go_enter Tryd.func5,Tryd.ntmps5
      go_wp2_with (first
        | ((with_reducible refine j4 rfl 24 (.tmp 0) rfl (pgC pg0) rfl ?_);intro g1 u1 hg1 hk1 hu1;have HK1:=kp hk1;have HG1:=kp hg1;have HU1:=kp hu1;have hz1:=hu1.size;clear hg1 hk1 hu1))
      refine (jO u1 (HTab.out.below HU1.out hw01)).mono ?_
      rintro e w1 ⟨rfl,hb1⟩
      have HW1 : Kept (Below w.heap.size w w1):=kp (HU1.out.trans (hb1.mono hz1))
      have hs1:=HW1.out.size
      have HP1:=kp (HP.out.below HW1.out)
      have HKa:=kp (HK1.out.below hb1 HK1.out.lt)
      obtain ⟨hc0,hc1,hc2,hc3⟩:=j8 HKa.out
      clear hb1
      go_wp2_with fail
      refine (lA _ pg0 w1 HP1.out hs1 _ HR.out).mono ?_
      rintro e w2 ⟨rfl,hb2⟩
      have HW2 : Kept (Below w.heap.size w w2):=kp (HW1.out.trans (hb2.mono hs1))
      have hs2:=HW2.out.size
      have HP2:=kp (HP.out.below HW2.out)
      have HKb:=kp (HKa.out.below hb2 HKa.out.lt)
      clear hb2 hc0 hc1 hc2 hc3
      obtain ⟨hc0,hc1,hc2,hc3⟩:=j8 HKb.out
      obtain ⟨⟨ca,cb,cc⟩,hcc⟩ : ∃ x,Q.check pg0 = x:=⟨_,rfl⟩
      have HC:=kp hcc
      clear hcc
      obtain ⟨us,hus⟩ : ∃ us,killA pg0 4 4 cc = us:=⟨_,rfl⟩
      obtain ⟨nu,hnu⟩ : ∃ nu,us.length = nu:=⟨_,rfl⟩
      have HUs:=kp hus;have HNus:=kp hnu
      clear hus hnu
      go_wp2_with fail
      refine (lT w.heap.size pg0 w2 (HP.out.below HW2.out) hs2 HR.out (HTab.out.below HW2.out hw01) ca cb cc HC.out us HUs.out).mono ?_
      rintro e w3 ⟨v3,rfl,hown3,hb3⟩
      have HW3 : Kept (Below w.heap.size w w3):=kp (HW2.out.trans (hb3.mono hs2))
      have hs3:=HW3.out.size
      have HK3:=kp (HKb.out.below hb3 HKb.out.lt)
      obtain ⟨A3,c3,rfl,hcl3,hcm3,hr3⟩:=hown3.readsN HNus.out
      have HRw3:=kp hr3
      unfold maxLen at hcm3
      clear hown3 hr3
      clear hb3 hc0 hc1 hc2 hc3
      obtain ⟨hc0,hc1,hc2,hc3⟩:=j8 HK3.out
      have hlk3:=HK3.out.lt
      have hce : ((cc : Int) == (cc : Int)) = true:=by simp
      go_wp2_with (first
        | (go_at_call 16;fail))
      refine (vD w.heap.size pg0 w3 (HP.out.below HW3.out) hs3 ca cb cc HC.out).mono ?_
      unfold StartPost2
      rintro e w4 ⟨q0,rfl,hmi,hcf,hl0,h16,hb4⟩
      have HMi4:=kp hmi;have HCf0:=kp hcf;have H170:=kp (lE h16)
      have HM4:=kp hb4;have hs34:=hb4.size
      clear hmi hcf hl0 h16 hb4 hc0 hc1 hc2 hc3
      by_cases hz : cc = 0
      rotate_left
      · have hb0 : ((cc : Int) != 0) = true:=by simp;omega
        go_wp2_with (first
          | ((with_reducible show Sl 7);go_must (refine j7 rfl 47 rfl _ jX ?_);intro gC w5 hgC hk5 hu5;have HKc:=kp hk5;have HGC:=kp hgC;have HM5:=kp (HM4.out.trans (hu5.mono hs34));clear hk5 hu5 hgC)
          | ((with_reducible show Sn);(refine j5 rfl 47 (.tmp 7) (.tmp 37) rfl gC (pcC q0) rfl rfl _ _ HKc.out (by rw [H170.out];exact j9) (by rw [H170.out];rfl) (jM q0) ?_);intro w6 hk6 hg6 hs6'
             have HW6:=kp (HW3.out.trans ((HM5.out.grown hg6 HM5.out.size (fun k e => by cases e;have:=HGC.out;omega)).mono hs3));clear hk6 hg6 hs6'))
        go_ret
        exact ⟨rfl,HW6.out⟩
      have hb0 : ((cc : Int) != 0) = false:=by rw [hz];rfl
      have HF:=kp (xH (p:=pg0) (a:=ca) (b:=cb) (by rw [HC.out,hz]))
      have HLen:=kp HP.out.row.len
      have HCz:=kp hz
      have HUs0 : Kept (us = killL pg0 4 4):=kp (by rw [← HUs.out,hz,jU])
      have hnu1 : nu = pg0.len:=by rw [← HNus.out,HUs0.out,l2]
      subst hnu1
      have hl16 : pg0.len ≤ 16:=by have h1:=HF.out.counts.f;have h2:=HLen.out;omega
      have HGd : Kept (∀ i,M.Good pg0 (runTo pg0 z1 i)):=kp (x6 HF.out HP.out.row.len z1)
      clear hz
      go_wp2_with (first
        | ((with_reducible show Sl 7);go_must (refine j7 rfl 47 rfl _ jX ?_);intro gC w5 hgC hk5 hu5;have HKc:=kp hk5;have HGC:=kp hgC;have HM5:=kp (HM4.out.trans (hu5.mono hs34));have HMi5:=kp (HMi4.out.below hu5 (Nat.le_refl _));have hs35:=HM5.out.size;have hlC5:=hk5.lt;clear hk5 hu5 hgC)
        | ((with_reducible show Sn);(refine j5 rfl 47 (.tmp 7) (.tmp 37) rfl gC (pcC q0) rfl rfl _ _ HKc.out (by rw [H170.out];exact j9) (by rw [H170.out];rfl) (jM q0) ?_);intro w6 hk6 hg6 hs6'
           have HKC6:=kp hk6;have HM6:=kp (HM5.out.grown hg6 hs35 (fun k e => by cases e;have:=HGC.out;omega));have HMi6:=kp (HMi5.out.typed HKc.out hg6);have hs36:=HM6.out.size;have hlC6:=hk6.lt;clear hk6 hg6 hs6')
        | ((with_reducible show Sl 9);go_must (refine j7 rfl 51 rfl _ XS ?_);intro gK w7 hgK hk7 hu7;have HKK7:=kp hk7;have HGK:=kp hgK;have HM7:=kp (HM6.out.trans (hu7.mono hs36));have HMi7:=kp (HMi6.out.below hu7 (Nat.le_refl _));have HKC7:=kp (HKC6.out.below hu7 hlC6);have hs37:=HM7.out.size;clear hk7 hu7 hgK))
      have HGe : Kept (w3.heap.size ≤ gC ∧ w3.heap.size ≤ gK ∧ gK ≠ gC):=kp ⟨by have:=HGC.out;omega,by have:=HGK.out;omega,by have:=HGK.out;omega⟩
      go_loopw [10] (fun v wr => ∃ (i : Nat) (q : Pc) (kc : List Nat),i ≤ len1 ∧ v = .int .i64 i ∧ Mine wr w3.heap.size q ∧ q.cf = runTo pg0 z1 i ∧ (kc.length = 160 ∧ (∀ x ∈ kc,x < 4294967296) ∧ Stays pg0 kc q.cf) ∧ Blk wr gC 47 (pcC q) ∧ Blk wr gK 51 (kc.map wordV) ∧ Below w3.heap.size w3 wr) (fun v _ => len1 - (intOf v).toNat)
      case atStart => exact ⟨0,q0,List.replicate 160 0,by omega,rfl,HMi7.out,by rw [vG];exact HCf0.out HCz.out,⟨by simp,fun x hx => by rw [List.eq_of_mem_replicate hx];omega,by rw [HCf0.out HCz.out];exact JJ _ _⟩,HKC7.out,HKK7.out,HM7.out⟩
      case round =>
        clear HKC6 HKK7 HM5 HM6 HM7 HMi4 HMi5 HMi6 HMi7 HKC7
        obtain ⟨i,q,kc,hi,rfl,hmq,hcf,⟨hkl,hkb,hkeep⟩,hkc,hkk,hbl⟩:=hrel
        have HMq:=kp hmq;have HOq:=kp hmq.ok;have HCf:=kp hcf;have HKC:=kp hkc;have HKK:=kp hkk;have HB3:=kp hbl
        have HLenK:=kp hkl;have HLtK:=kp hkb;have HKeep:=kp hkeep
        have hs3r:=hbl.size;have hlC:=hkc.lt
        have HKP:=kp (HK3.out.below hbl hlk3);have hlP:=HKP.out.lt
        have HB:=kp (HW3.out.trans (hbl.mono hs3));have hBs:=HB.out.size
        have HPr:=kp (HP.out.below HB.out)
        have H17:=kp (yT (p:=pg0) (q:=q) (by rw [hcf];exact HGd.out i))
        have HGq0:=kp (show M.Good pg0 q.cf by rw [hcf];exact HGd.out i)
        clear hmq hcf hkl hkb hkeep hkc hkk hbl
        by_cases hlt : i < len1
        · skip
          obtain ⟨ad,x,hA,hadB,hx,hx1,hcx0,hcx1⟩:=HPi.out.pick hlt
          have hadw : ad.block < wr.heap.size:=by omega
          have HX:=kp hx;have HX1:=kp hx1
          have HCx : Kept (wr.cell? (ad.add (i * 2)) = some (.int .i64 x.1) ∧ wr.cell? ⟨(ad.add (i * 2)).block,(ad.add (i * 2)).off + 1,none⟩ = some (.bool x.2)):=kp ⟨(HB.out.cell (by rw [add_block];exact hadB)).trans hcx0,(HB.out.cell (by rw [add_block];exact hadB)).trans hcx1⟩
          subst hA
          clear hx hx1 hcx0 hcx1
          obtain ⟨b,hb⟩ : ∃ b,M.lives q.cf x.1 = b:=⟨_,rfl⟩
          obtain ⟨y,hy⟩ : ∃ y,atNd pg0 q.cf x.1 = y:=⟨_,rfl⟩
          have HBv:=kp hb;have HYv:=kp hy
          have hcx0:=HCx.out.1
          clear hb hy
          go_wp2_with (first
            | ((with_reducible show Sl 60);go_must (refine j6 rfl 47 (.tmp 7) rfl gC rfl _ (pcC q) _ HKC.out Tryd.underlying47 rfl (by rw [H17.out];exact j9) ?_))
            | ((with_reducible show Sl 61);go_must (refine j6 rfl 24 (.tmp 2) rfl g1 rfl _ (pgC pg0) _ HKP.out Tryd.underlying24 rfl jH ?_))
            | (go_at_call 17;fail))
          refine (qY wr.heap.size pg0 HF.out q wr (qR HPr.out hBs) HOq.out HGq0.out (Nat.le_refl _) x.1 HX1.out b HBv.out y HYv.out).mono ?_
          rintro e wa ⟨rfl,hba⟩
          have HBa:=kp hba;have hsa:=hba.size
          clear hba hcx0
          go_wp2_with (first
            | ((with_reducible show Sl 12);go_must (refine j7 rfl 41 rfl (ndC ⟨0,0,0,0⟩) jI ?_);intro gN wb hgN hkb hbb;have HGN:=kp hgN;have HKb:=kp hkb;have HBb:=kp (HBa.out.trans (hbb.mono hsa));have hsb:=HBb.out.size;clear hgN hkb hbb)
            | ((with_reducible show Sn);go_must (refine j5 rfl 41 (.tmp 12) (.tmp 64) rfl gN (ndC y) rfl rfl _ _ HKb.out jF rfl (qF y) ?_);intro wz hkz hgz hsz
               have HKN:=kp hkz;have HBz:=kp (HBb.out.grown hgz hsb (fun k e => by cases e;have:=HGN.out;omega));have hlN:=hkz.lt;clear hkz hgz hsz))
          have HNK : Kept (gK < gN):=kp (by have:=HGN.out;have:=HKK.out.lt;omega)
          have hszz:=HBz.out.size
          have HKC:=kp (HKC.out.below HBz.out hlC);have HKP:=kp (HKP.out.below HBz.out hlP);have HKKw:=kp (HKK.out.below HBz.out HKK.out.lt)
          have HCx:=kp (And.intro ((HBz.out.cell (by rw [add_block];exact hadw)).trans HCx.out.1) ((HBz.out.cell (by rw [add_block];exact hadw)).trans HCx.out.2))
          have hadw : ad.block < wz.heap.size:=by omega
          have HPr:=kp (HPr.out.below (HBz.out.mono hBs));have HOq:=kp ((HOq.out.below HBz.out).more hszz)
          have HB3z:=kp (HB3.out.trans (HBz.out.mono hs3r));have hs3z:=HB3z.out.size
          have HB:=kp (HB.out.trans (HBz.out.mono hBs));have hBs:=HB.out.size
          have hlC:=HKC.out.lt;have hlP:=HKP.out.lt
          clear HBa HBb HBz HKb HMq hsa hsb
          apply jG 8 (.is (pcA q) :: .is (pgA pg0) :: .is _ :: .is _ :: .is (.pointer (some (ad.add (i * 2)))) :: .is (.agg #[.int .i64 x.1,.bool x.2]) :: (.stepped wz.heap.size (M.step pg0 q.cf x.1 x.2)) :: (.confNew wz.heap.size) :: [])
            [[],[],[],[],[(2,68),(3,69)],[(4,70)],[(0,66),(1,67),(5,71)],[],[(7,14),(6,72)]]
            [(0,66),(1,67),(2,68),(3,69),(4,70),(5,71),(6,72),(7,14)] (by kernel_rfl) (by kernel_rfl) (by kernel_rfl) (by kernel_rfl) (by kernel_rfl)
          case hob =>
            refine ⟨?o0,?o1,?o2,?o3,?o4,?o5,?o6,?o7,trivial⟩
            case o0 =>
              intro W hW;change wpList _ _ _ _ _ _
              go_must (refine j6 rfl 47 (.tmp 7) rfl gC rfl _ (pcC q) _ (HKC.out.below hW hlC) Tryd.underlying47 rfl (by rw [H17.out];exact j9) ?_)
              go_wp2;exact j3 rfl rfl rfl
            case o1 =>
              intro W hW;change wpList _ _ _ _ _ _
              go_must (refine j6 rfl 24 (.tmp 2) rfl g1 rfl _ (pgC pg0) _ (HKP.out.below hW hlP) Tryd.underlying24 rfl jH ?_)
              go_wp2;exact j3 rfl rfl rfl
            case o2 => intro W hW;change wpList _ _ _ _ _ _;go_wp2;exact j3 rfl rfl rfl
            case o3 => intro W hW;change wpList _ _ _ _ _ _;go_wp2;exact j3 rfl rfl rfl
            case o4 => intro W hW;rintro _ rfl;rintro _ rfl;change wpList _ _ _ _ _ _;go_wp2;exact j3 rfl rfl rfl
            case o5 =>
              intro W hW;rintro _ rfl;change wpList _ _ _ _ _ _
              have hd0:=(hW.cell (p:=ad.add (i * 2)) (by rw [add_block];exact hadw)).trans HCx.out.1
              have hd1:=(hW.cell (p:=⟨(ad.add (i * 2)).block,(ad.add (i * 2)).off + 1,none⟩) (by rw [add_block];exact hadw)).trans HCx.out.2
              go_wp2;exact j3 rfl rfl rfl
            case o6 =>
              intro W hW;rintro _ rfl;rintro _ rfl;rintro _ rfl;change wpList _ _ _ _ _ _
              go_wp2_with fail
              refine (J6 W.heap.size pg0 HF.out q W (qR (HPr.out.below (hW.mono hBs)) (show w.heap.size ≤ W.heap.size by have:=hW.size;omega)) ((HOq.out.below hW).more hW.size) (by rw [HCf.out];exact HGd.out i) (Nat.le_refl _) x.1 HX1.out x.2).mono ?_
              rintro e w2 ⟨q',rfl,hm2,hcf2,hb2⟩
              have HB2:=kp hb2;have HM2:=kp hm2;have HC2:=kp hcf2;have hsW:=hW.size;clear hb2 hm2 hcf2
              go_wp2
              exact jE rfl rfl rfl HB2.out ⟨q',rfl,HM2.out.less hsW,HC2.out⟩
            case o7 =>
              intro W hW;change wpList _ _ _ _ _ _
              have hsW:=hW.size
              go_must (refine j7 rfl 47 rfl _ jX ?_)
              intro gx wx hgx hkx hbx
              have HKx:=kp hkx;have HGx:=kp hgx;have HBx:=kp hbx
              clear hgx hkx hbx
              go_wp2
              exact jE rfl rfl rfl HBx.out ⟨gx,rfl,HKx.out,by have:=HGx.out;omega⟩
          case hend =>
            intro W hW;rintro _ rfl;rintro _ rfl;rintro _ rfl;rintro _ rfl;rintro _ rfl;rintro _ rfl;rintro _ ⟨q1,rfl,hmi,hcf1⟩;rintro _ ⟨gD,rfl,hkD,hgD⟩
            simp only [given,jL,List.set,List.drop]
            cases b
            · skip
              have hen : M.enabled pg0 q.cf x.1 = false:=by
                cases he : M.enabled pg0 q.cf x.1 with
                | false => rfl
                | true =>
                  obtain ⟨h0,h1⟩:=M.enabled_split he
                  have h2:=M.enabled_lives h1
                  have h3:=HBv.out
                  unfold M.lives at h3
                  rw [h2,decide_eq_true h0] at h3
                  cases h3
              have HSame : Kept (q1.cf = q.cf):=kp (by rw [hcf1];exact M.step_same hen)
              clear hen
              have HW:=kp hW;have HMm:=kp hmi;have HCf1 : Kept (q1.cf = runTo pg0 z1 (i + 1)):=kp (by rw [hcf1,HCf.out,qZ pg0 z1 i x HX.out])
              have HStep:=kp (show q1.cf = M.step pg0 q.cf x.1 x.2 from hcf1)
              have H171:=kp (yT (p:=pg0) (q:=q1) (by rw [HCf1.out];exact HGd.out (i + 1)))
              have HG1:=kp (show M.Good pg0 q1.cf by rw [HCf1.out];exact HGd.out (i + 1))
              have HGq:=kp (show M.Good pg0 q.cf by rw [HCf.out];exact HGd.out i)
              have hsW:=hW.size
              have HKD:=kp hkD;have HGD:=kp hgD
              clear hW hmi hcf1 hkD hgD
              go_wp2_with (first
                | ((with_reducible show Sn);(refine j5 rfl 47 (.tmp 14) (.tmp 72) rfl gD (pcC q1) rfl rfl _ _ HKD.out (by rw [H171.out];exact j9) (by rw [H171.out];rfl) (jM q1) ?_);intro w7 hk7 hg7 hs7'
                   have HKD7:=kp hk7;have HBr7:=kp (HW.out.grown hg7 hsW (fun k e => by cases e;exact HGD.out));have hsr7:=HBr7.out.size
                   have HM17:=kp (HMm.out.typed HKD.out hg7);have HO17:=kp HM17.out.ok
                   have HB07:=kp (HB.out.trans (HBr7.out.mono hBs));have hs07:=HB07.out.size
                   have HOq7:=kp ((HOq.out.below HBr7.out).more hsr7)
                   have HKC7:=kp (HKC.out.below HBr7.out hlC);have HKP7:=kp (HKP.out.below HBr7.out hlP)
                   have hlC7:=HKC7.out.lt;have hlP7:=HKP7.out.lt;have hlD7:=hk7.lt
                   have HNe : Kept (gC ≠ gD ∧ g1 ≠ gD):=kp ⟨by have:=HGD.out;omega,by have:=HGD.out;omega⟩
                   have HDK : Kept (gK < gD):=kp (by have:=HGD.out;have:=HKKw.out.lt;omega)
                   have HKN:=kp (HKN.out.below HBr7.out hlN)
                   have HKK:=kp (HKKw.out.below HBr7.out HKKw.out.lt)
                   have HKD:=HKD7;have HKC:=HKC7;have HKP:=HKP7;have HM:=HM17
                   have HBe : Kept (Below w3.heap.size w3 w7):=kp (HB3z.out.trans (HBr7.out.mono hs3z))
                   have hsE:=HBe.out.size
                   have HOq:=HOq7
                   clear hk7 hg7 hs7')
                | ((with_reducible show Sl 127);go_must (refine j6 rfl 47 (.tmp 14) rfl gD rfl _ (pcC q1) _ HKD.out Tryd.underlying47 rfl (by rw [H171.out];exact j9) ?_))
                | ((with_reducible show Sn);(refine j5 rfl 47 (.tmp 7) (.tmp 127) rfl gC (pcC q1) rfl rfl _ _ HKC.out (by rw [H171.out];exact j9) (by rw [H171.out,H17.out]) (jM q1) ?_);intro wz2 hkz hgz hsz
                   have HKZ:=kp hkz;have HMz:=kp (HM.out.typed HKC.out hgz);have HBz2:=kp (HBe.out.grown hgz HBe.out.size (fun k e => by cases e;exact HGe.out.1))
                   have HKKz:=kp (HKK.out.grown hgz (fun e => by cases e;exact HGe.out.2.2 rfl))
                   clear hkz hgz hsz))
              go_roundw
              case rel => exact ⟨i + 1,q1,kc,by omega,by go_num,HMz.out.less (by have:=HGe.out;omega),HCf1.out,⟨HLenK.out,HLtK.out,by rw [HSame.out];exact HKeep.out⟩,HKZ.out,HKKz.out,HBz2.out⟩
              case measure => simp [intOf];omega
            · obtain ⟨en,hen⟩ : ∃ en,M.enabled pg0 q.cf x.1 = en:=⟨_,rfl⟩
              have HEn:=kp hen
              clear hen
              have HW:=kp hW;have HMm:=kp hmi;have HCf1 : Kept (q1.cf = runTo pg0 z1 (i + 1)):=kp (by rw [hcf1,HCf.out,qZ pg0 z1 i x HX.out])
              have HStep:=kp (show q1.cf = M.step pg0 q.cf x.1 x.2 from hcf1)
              have H171:=kp (yT (p:=pg0) (q:=q1) (by rw [HCf1.out];exact HGd.out (i + 1)))
              have HG1:=kp (show M.Good pg0 q1.cf by rw [HCf1.out];exact HGd.out (i + 1))
              have HGq:=kp (show M.Good pg0 q.cf by rw [HCf.out];exact HGd.out i)
              have hsW:=hW.size
              have HKD:=kp hkD;have HGD:=kp hgD
              clear hW hmi hcf1 hkD hgD
              go_wp2_with (first
                | ((with_reducible show Sn);(refine j5 rfl 47 (.tmp 14) (.tmp 72) rfl gD (pcC q1) rfl rfl _ _ HKD.out (by rw [H171.out];exact j9) (by rw [H171.out];rfl) (jM q1) ?_);intro w7 hk7 hg7 hs7'
                   have HKD7:=kp hk7;have HBr7:=kp (HW.out.grown hg7 hsW (fun k e => by cases e;exact HGD.out));have hsr7:=HBr7.out.size
                   have HM17:=kp (HMm.out.typed HKD.out hg7);have HO17:=kp HM17.out.ok
                   have HB07:=kp (HB.out.trans (HBr7.out.mono hBs));have hs07:=HB07.out.size
                   have HOq7:=kp ((HOq.out.below HBr7.out).more hsr7)
                   have HKC7:=kp (HKC.out.below HBr7.out hlC);have HKP7:=kp (HKP.out.below HBr7.out hlP)
                   have hlC7:=HKC7.out.lt;have hlP7:=HKP7.out.lt;have hlD7:=hk7.lt
                   have HNe : Kept (gC ≠ gD ∧ g1 ≠ gD):=kp ⟨by have:=HGD.out;omega,by have:=HGD.out;omega⟩
                   have HDK : Kept (gK < gD):=kp (by have:=HGD.out;have:=HKKw.out.lt;omega)
                   have HKN:=kp (HKN.out.below HBr7.out hlN)
                   have HKK:=kp (HKKw.out.below HBr7.out HKKw.out.lt)
                   have HKD:=HKD7;have HKC:=HKC7;have HKP:=HKP7;have HM:=HM17
                   have HBe : Kept (Below w3.heap.size w3 w7):=kp (HB3z.out.trans (HBr7.out.mono hs3z))
                   have hsE:=HBe.out.size
                   have HOq:=HOq7
                   clear hk7 hg7 hs7')
                | ((with_reducible show Sl 75);go_must (refine lR rfl 47 (.tmp 7) rfl gC rfl _ (pcC q) _ HKC.out Tryd.underlying47 rfl (by rw [H17.out];exact j9) ?_))
                | ((with_reducible show Sl 76);go_must (refine lR rfl 24 (.tmp 2) rfl g1 rfl _ (pgC pg0) _ HKP.out Tryd.underlying24 rfl jH ?_))
                | (go_at_call 19;fail))
              clear HKD7 HKC7 HKP7 HM17 HBr7 HB07 HOq7 hlC7 hlP7 hlD7
              refine (xP w7.heap.size pg0 HF.out q w7 (qR (HP.out.below (HW3.out.trans (HBe.out.mono hs3))) (by omega)) HOq.out HGq.out (Nat.le_refl _) x.1 HX1.out en HEn.out).mono ?_
              rintro e w8 ⟨rfl,hb8⟩
              have hs78:=hb8.size
              have HBe:=kp (HBe.out.trans (hb8.mono hsE))
              have hsE:=HBe.out.size
              have HKD:=kp (HKD.out.below hb8 HKD.out.lt)
              have HKC:=kp (HKC.out.below hb8 HKC.out.lt)
              have HKP:=kp (HKP.out.below hb8 HKP.out.lt)
              have HKN:=kp (HKN.out.below hb8 HKN.out.lt)
              have HKK:=kp (HKK.out.below hb8 HKK.out.lt)
              have HM:=kp (HM.out.below hb8 (Nat.le_refl _))
              have HOq:=kp ((HOq.out.below hb8).more hs78)
              clear hb8
              cases en
              · have HSame : Kept (q1.cf = q.cf):=kp (by rw [HStep.out];exact M.step_same HEn.out)
                go_wp2_with (first
                  | ((with_reducible show Sl 127);go_must (refine j6 rfl 47 (.tmp 14) rfl gD rfl _ (pcC q1) _ HKD.out Tryd.underlying47 rfl (by rw [H171.out];exact j9) ?_))
                  | ((with_reducible show Sn);(refine j5 rfl 47 (.tmp 7) (.tmp 127) rfl gC (pcC q1) rfl rfl _ _ HKC.out (by rw [H171.out];exact j9) (by rw [H171.out,H17.out]) (jM q1) ?_);intro wz2 hkz hgz hsz
                     have HKZ:=kp hkz;have HMz:=kp (HM.out.typed HKC.out hgz);have HBz2:=kp (HBe.out.grown hgz HBe.out.size (fun k e => by cases e;exact HGe.out.1))
                     have HKKz:=kp (HKK.out.grown hgz (fun e => by cases e;exact HGe.out.2.2 rfl))
                     clear hkz hgz hsz))
                go_roundw
                case rel => exact ⟨i + 1,q1,kc,by omega,by go_num,HMz.out.less (by have:=HGe.out;omega),HCf1.out,⟨HLenK.out,HLtK.out,by rw [HSame.out];exact HKeep.out⟩,HKZ.out,HKKz.out,HBz2.out⟩
                case measure => simp [intOf];omega
              · obtain ⟨h0,henN⟩:=M.enabled_split HEn.out
                obtain ⟨t,ht⟩ : ∃ t : Nat,x.1 = (t : Int):=⟨x.1.toNat,by omega⟩
                rw [ht,Int.toNat_natCast] at henN
                have HTt:=kp ht
                have hlvN:=M.enabled_lives henN
                have htl : t < q.len:=by rw [← HOq.out.len];exact M.lives_lt hlvN
                have HAct : Kept (q1.cf = M.act q.cf t (M.node pg0 q.cf t) x.2):=kp (by
                  rw [HStep.out]
                  unfold M.step
                  rw [HEn.out,ht,Int.toNat_natCast];rfl)
                have HY : Kept (M.node pg0 q.cf t = y):=kp (by
                  have h1:=HYv.out
                  rw [ht,y7 (by rw [M.lives_nat];exact hlvN) rfl] at h1
                  exact h1)
                have HKs : Kept (Stays pg0 (keepTo pg0 us kc q.cf t) q1.cf):=kp (by rw [HAct.out];exact Q1 HF.out HLen.out HUs0.out HGq.out HLenK.out HKeep.out x.2 henN)
                obtain ⟨ad1,th,hA1,had1,hth,hsok,hthc,hsl,hct,_⟩:=HOq.out.thread htl
                have HSt : Kept ((M.th q.cf t).stack.length = th.sv.len):=kp (by rw [hthc];exact hsl)
                have hh16 : th.sv.len ≤ 16:=by
                  have h1:=M.high HF.out HLen.out HGq.out (M.th_mem (M.lives_lt hlvN))
                  have h2:=HF.out.counts.f
                  have h3:=HSt.out
                  omega
                have hcq:=qB HKC.out
                rw [hA1] at hcq
                have hql:=HOq.out.lc;have hqm:=HOq.out.cm
                unfold maxLen at hqm
                have hsc:=hsok.lc;have hsm:=hsok.cm
                unfold maxLen at hsm
                have htq : (t : Int) < (q.len : Int):=by omega
                have HLv:=kp hlvN
                have hq8:=vO HGq.out HOq.out
                have ht8 : t < 8:=by omega
                clear hth hsok hthc hsl henN hlvN h0 had1
                rw [HTt.out]
                have hnk:=HKN.out.cell 0
                simp only [ndC,List.getElem?_cons_zero] at hnk
                have hlc7:=HLenK.out
                have HIt : Kept (I64 (t : Int)):=kp (by unfold I64;omega)
                by_cases h7 : y.kind = 7
                · have h7b : (y.kind == 7) = true:=by simpa using h7
                  have h9b : (y.kind == 9) = false:=by rw [h7];rfl
                  have hci : CallIn pg0 (M.top (M.th q.cf t).stack).1 y.arg.toNat:=by
                    have h1:=vX HF.out HLen.out HGq.out HLv.out (by rw [HY.out];exact h7)
                    rwa [HY.out] at h1
                  obtain ⟨ya,hya⟩ : ∃ ya,y.arg.toNat = ya:=⟨_,rfl⟩
                  have HYa : Kept (y.arg = (ya : Int)):=kp (by
                    obtain ⟨fn,h1,_⟩:=M.node_is HGq.out HLv.out
                    have h2:=(M.node_fit HF.out HGq.out HLv.out h1).arg
                    rw [HY.out] at h2
                    omega)
                  have hyl : ya < pg0.len:=by rw [← hya];exact hci.2
                  obtain ⟨adU,xu,eU,hadU0,hxU,hcU⟩:=(HRw3.out.below HBe.out).get hyl
                  rw [jT] at hcU
                  have HcU:=kp hcU
                  have hadU : adU.block < w8.heap.size:=by omega
                  have hxu32 : xu < 4294967296:=by
                    rw [HUs0.out] at hxU
                    exact (jZ hxU).1
                  obtain ⟨n0,hn0⟩ : ∃ n0,M.heldTo q.ow t 16 = n0:=⟨_,rfl⟩
                  have hn0lt : n0 < 65536:=by rw [← hn0];exact M.held_lt q.ow t 16
                  have HH0 : Kept (M.held q.cf (t : Int) = n0):=kp (by rw [QP HOq.out htl];exact hn0)
                  have HAndN : Kept (bits .andNot .u32 (n0 : Int) (xu : Int) = ((n0 &&& (4294967295 - xu) : Nat) : Int)):=kp (u32_andNot_nat n0 xu (by omega) hxu32)
                  have HKcE : Kept (keepTo pg0 us kc q.cf t = kc.set (t * 20 + (th.sv.len + 1)) (n0 &&& (4294967295 - xu))):=kp (by
                    unfold keepTo
                    rw [HY.out,HSt.out,if_pos ⟨h7,by omega⟩,hya,List.getD_eq_getElem?_getD,hxU,← hn0];rfl)
                  subst eU
                  have hyi : (ya : Int) < (pg0.len : Int):=by omega
                  have hti : (t : Int) < 8:=by omega
                  have hhi : (th.sv.len : Int) + 1 < 20:=by omega
                  clear h7 hci hya hxU hcU hn0 hadU0
                  go_wp2
                  apply jG 14 (.is _ :: .is _ :: .is (.int .i64 ((th.sv.len : Int) + 1)) :: .is (pcA q) :: .is _ :: .is (.int .u32 (n0 : Int)) :: .is _ :: .is _ :: .is (.int .i64 (ya : Int)) :: .is _ :: .is (.int .u32 (xu : Int)) :: .is (.int .u32 ((n0 &&& (4294967295 - xu) : Nat) : Int)) :: .is _ :: .is _ :: [])
                    [[],[],[(1,95)],[],[],[(3,97),(4,98)],[],[],[(7,101)],[(6,100),(8,102)],[(9,103)],[(5,99),(10,104)],[(0,94)],[(12,106),(2,96)],[(13,107),(11,105)]]
                    [(0,94),(1,95),(2,96),(3,97),(4,98),(5,99),(6,100),(7,101),(8,102),(9,103),(10,104),(11,105),(12,106),(13,107)] (by kernel_rfl) (by kernel_rfl) (by kernel_rfl) (by kernel_rfl) (by kernel_rfl)
                  case hob =>
                    refine ⟨?o0,?o1,?o2,?o3,?o4,?o5,?o6,?o7,?o8,?o9,?o10,?o11,?o12,?o13,trivial⟩
                    case o0 => intro W hW;change wpList _ _ _ _ _ _;go_wp2;exact j3 rfl rfl rfl
                    case o1 => intro W hW;change wpList _ _ _ _ _ _;go_wp2;exact j3 rfl rfl rfl
                    case o2 => intro W hW;rintro _ rfl;change wpList _ _ _ _ _ _;go_wp2;exact j3 rfl rfl rfl
                    case o3 =>
                      intro W hW;change wpList _ _ _ _ _ _
                      go_must (refine j6 rfl 47 (.tmp 7) rfl gC rfl _ (pcC q) _ (HKC.out.below hW HKC.out.lt) Tryd.underlying47 rfl (by rw [H17.out];exact j9) ?_)
                      go_wp2;exact j3 rfl rfl rfl
                    case o4 => intro W hW;change wpList _ _ _ _ _ _;go_wp2;exact j3 rfl rfl rfl
                    case o5 =>
                      intro W hW;rintro _ rfl;rintro _ rfl;change wpList _ _ _ _ _ _
                      go_wp2_with fail
                      refine (J7 q W HOq.out.row.len (vO HGq.out HOq.out) HGq.out.owns (own_8 HGq.out) (t : Int) HIt.out n0 HH0.out).mono ?_
                      rintro e w2 ⟨rfl,hb2⟩
                      have HBq:=kp hb2;clear hb2
                      go_wp2
                      exact jE rfl rfl rfl HBq.out rfl
                    case o6 => intro W hW;change wpList _ _ _ _ _ _;go_wp2;exact j3 rfl rfl rfl
                    case o7 => intro W hW;change wpList _ _ _ _ _ _;go_wp2;exact j3 rfl rfl rfl
                    case o8 =>
                      intro W hW;rintro _ rfl;change wpList _ _ _ _ _ _
                      have hq:=(HKN.out.below hW HKN.out.lt).cell 1
                      simp only [ndC,List.getElem?_cons_zero,List.getElem?_cons_succ] at hq
                      rw [HYa.out] at hq
                      go_wp2;exact j3 rfl rfl rfl
                    case o9 => intro W hW;rintro _ rfl;rintro _ rfl;change wpList _ _ _ _ _ _;go_wp2;exact j3 rfl rfl rfl
                    case o10 =>
                      intro W hW;rintro _ rfl;change wpList _ _ _ _ _ _
                      have hq:=(hW.cell (p:=adU.add ya) (by rw [add_block];exact hadU)).trans HcU.out
                      go_wp2;exact j3 rfl rfl rfl
                    case o11 =>
                      intro W hW;rintro _ rfl;rintro _ rfl;change wpList _ _ _ _ _ _
                      have hand:=HAndN.out
                      go_wp2;exact j3 rfl rfl rfl
                    case o12 => intro W hW;rintro _ rfl;change wpList _ _ _ _ _ _;go_wp2;exact j3 rfl rfl rfl
                    case o13 => intro W hW;rintro _ rfl;rintro _ rfl;change wpList _ _ _ _ _ _;go_wp2;exact j3 rfl rfl rfl
                  case hend =>
                    intro W hW;rintro _ rfl;rintro _ rfl;rintro _ rfl;rintro _ rfl;rintro _ rfl;rintro _ rfl;rintro _ rfl;rintro _ rfl;rintro _ rfl;rintro _ rfl;rintro _ rfl;rintro _ rfl;rintro _ rfl;rintro _ rfl
                    simp only [given,jL,List.set,List.drop]
                    have hbW:=hW
                    have HKD:=kp (HKD.out.below hbW HKD.out.lt)
                    have HKC:=kp (HKC.out.below hbW HKC.out.lt)
                    have HKP:=kp (HKP.out.below hbW HKP.out.lt)
                    have HKN:=kp (HKN.out.below hbW HKN.out.lt)
                    have HKK:=kp (HKK.out.below hbW HKK.out.lt)
                    have HBe:=kp (HBe.out.trans (hbW.mono HBe.out.size))
                    have HM:=kp (HM.out.below hbW (Nat.le_refl _))
                    clear hW hbW hnk hct hcq
                    go_wp2_with (first
                      | ((with_reducible show Sn);go_must (refine jD rfl 31 (.tmp 107) (.tmp 105) rfl gK (t * 20 + (th.sv.len + 1)) (wordV (n0 &&& (4294967295 - xu))) rfl rfl rfl rfl 51 (kc.map wordV) HKK.out (by rw [Y9,HLenK.out];omega) uZ ?_);intro wk hkk hgk hsk
                         have HKD:=kp (HKD.out.grown hgk (fun e => by cases e;have:=HDK.out;omega));have HKC:=kp (HKC.out.grown hgk (fun e => by cases e;exact HGe.out.2.2 rfl));have HKN:=kp (HKN.out.grown hgk (fun e => by cases e;have:=HNK.out;omega))
                         have HM:=kp (HM.out.typedK HKK.out hgk)
                         have HBe:=kp (HBe.out.grown hgk HBe.out.size (fun k e => by cases e;exact HGe.out.2.1))
                         have HKKs : Kept (Blk wk gK 51 ((keepTo pg0 us kc q.cf t).map wordV)):=kp (by rw [HKcE.out,List.map_set];exact hkk)
                         have HKK:=HKKs
                         have HKP:=kp (HKP.out.grown hgk (fun e => by cases e;have:=HGe.out;have:=hlk3;omega))
                         clear hkk hgk hsk))
                    simp only [x9]
                    have hnk:=HKN.out.cell 0
                    simp only [ndC,List.getElem?_cons_zero] at hnk
                    refine wp_region_quiet_lit (by kernel_rfl) (by kernel_rfl) ?_
                    iterate 19 (go_big_quiet_step (fail))
                    refine wpQuiet_nil ?_
                    intro _ hw'
                    obtain ⟨nq,hw''⟩:=hw'
                    subst hw''
                    obtain ⟨w9,hw9⟩ : ∃ x,wk.drewN nq = x:=⟨_,rfl⟩
                    have hb9 : Below wk.heap.size wk w9:=by rw [← hw9];exact below_drewN (Below.refl _ _) _
                    rw [hw9]
                    clear hw9 hnk
                    have HKD:=kp (HKD.out.below hb9 HKD.out.lt)
                    have HKC:=kp (HKC.out.below hb9 HKC.out.lt)
                    have HKP:=kp (HKP.out.below hb9 HKP.out.lt)
                    have HKN:=kp (HKN.out.below hb9 HKN.out.lt)
                    have HKK:=kp (HKK.out.below hb9 HKK.out.lt)
                    have HBe:=kp (HBe.out.trans (hb9.mono HBe.out.size))
                    have HM:=kp (HM.out.below hb9 (Nat.le_refl _))
                    clear hb9
                    go_wp2_with (first
                      | ((with_reducible show Sl 127);go_must (refine j6 rfl 47 (.tmp 14) rfl gD rfl _ (pcC q1) _ HKD.out Tryd.underlying47 rfl (by rw [H171.out];exact j9) ?_))
                      | ((with_reducible show Sn);(refine j5 rfl 47 (.tmp 7) (.tmp 127) rfl gC (pcC q1) rfl rfl _ _ HKC.out (by rw [H171.out];exact j9) (by rw [H171.out,H17.out]) (jM q1) ?_);intro wz2 hkz hgz hsz
                         have HKZ:=kp hkz;have HMz:=kp (HM.out.typed HKC.out hgz);have HBz2:=kp (HBe.out.grown hgz HBe.out.size (fun k e => by cases e;exact HGe.out.1))
                         have HKKz:=kp (HKK.out.grown hgz (fun e => by cases e;exact HGe.out.2.2 rfl))
                         clear hkz hgz hsz))
                    go_roundw
                    case rel => exact ⟨i + 1,q1,(keepTo pg0 us kc q.cf t),by omega,by go_num,HMz.out.less (by have:=HGe.out;omega),HCf1.out,⟨Q2 HLenK.out,XU HLtK.out,HKs.out⟩,HKZ.out,HKKz.out,HBz2.out⟩
                    case measure => simp [intOf];omega
                · have h7b : (y.kind == 7) = false:=by simpa using h7
                  have HNo : Kept (keepTo pg0 us kc q.cf t = kc):=kp (XT (by rw [HY.out];exact h7))
                  clear h7
                  by_cases h9 : y.kind = 9
                  · have h9b : (y.kind == 9) = true:=by simpa using h9
                    by_cases h1 : 1 < th.sv.len
                    · have htl1 : t < q1.len:=by
                        have h2 : q.len ≤ q1.len:=by rw [← HOq.out.len,← HM.out.ok.len,HStep.out];exact M.step_len _ _ _ _
                        omega
                      obtain ⟨kv,hkv⟩ : ∃ kv,kc.getD (t * 20 + th.sv.len) 0 = kv:=⟨_,rfl⟩
                      have hk2 : kc[t * 20 + th.sv.len]? = some kv:=by
                        rw [← hkv,List.getD_eq_getElem?_getD,List.getElem?_eq_getElem (by omega)];rfl
                      have HKv : Kept ((kc.map wordV)[t * 20 + th.sv.len]? = some (wordV kv)):=kp (by rw [List.getElem?_map,hk2];rfl)
                      have hkv32 : kv < 4294967296:=HLtK.out kv (List.mem_of_getElem? hk2)
                      obtain ⟨n1,hn1⟩ : ∃ n1,M.heldTo q1.ow t 16 = n1:=⟨_,rfl⟩
                      have hn1lt : n1 < 65536:=by rw [← hn1];exact M.held_lt q1.ow t 16
                      have HH1 : Kept (M.held q1.cf (t : Int) = n1):=kp (by rw [QP HM.out.ok htl1];exact hn1)
                      have HAnd : Kept (bits .andNot .u32 (kv : Int) (n1 : Int) = 0):=kp (by
                        have h3:=XR HKeep.out x.2 HLv.out (by rw [HSt.out];exact h1) (by rw [HY.out];exact h9) (by rw [HSt.out,hkv];exact hkv32)
                        rw [HSt.out,hkv,← HAct.out] at h3
                        have h4 : (q1.cf.owners) = q1.ow:=rfl
                        rw [h4,hn1] at h3
                        rw [u32_andNot_nat kv n1 hkv32 (by omega),h3];rfl)
                      have hti : (t : Int) < 8:=by omega
                      have hhi : (th.sv.len : Int) < 20:=by omega
                      have h1i : (1 : Int) < (th.sv.len : Int):=by omega
                      clear h9 hkv hk2 hn1 h1
                      go_wp2
                      refine yU 128 rfl rfl ?_
                      intro a0 HA0 hsz0 hdf0
                      apply lM (.is _ :: .is _ :: .is _ :: .is _ :: .is _ :: .is _ :: .is _ :: .is _ :: .is _ :: .is _ :: .is _ :: .is _ :: .is (.int .u32 (kv : Int)) :: .is (pcA q1) :: .is _ :: .is (.int .u32 (n1 : Int)) :: .is (.int .u32 0) :: .is (.bool false) :: .is _ :: [])
                        [[],[(0,108)],[(1,109)],[(2,110)],[(3,111)],[(4,112),(3,111)],[(3,111),(5,113)],[(6,114)],[(7,115)],[(7,115)],[(8,116),(7,115)],[(10,118),(9,117),(7,115)],[(11,119),(7,115)],[(7,115)],[(7,115)],[(13,121),(14,122),(7,115)],[(12,120),(15,123),(7,115)],[(16,124),(7,115)],[(7,115),(17,125)]]
                        [(0,108),(1,109),(2,110),(3,111),(4,112),(5,113),(6,114),(7,115),(8,116),(9,117),(10,118),(11,119),(12,120),(13,121),(14,122),(15,123),(16,124),(17,125),(18,126)] (by kernel_rfl) (by rw [hsz0];kernel_rfl)
                      case hob =>
                        refine ⟨?o0,?o1,?o2,?o3,?o4,?o5,?o6,?o7,?o8,?o9,?o10,?o11,?o12,?o13,?o14,?o15,?o16,?o17,?o18,trivial⟩
                        case o0 =>
                          obtain rfl:=HA0.out
                          intro W hW;change wpList _ _ _ _ _ _;go_wp2;exact j3 rfl rfl rfl
                        case o1 =>
                          obtain rfl:=HA0.out
                          intro W hW;rintro _ rfl;change wpList _ _ _ _ _ _
                          have hq:=(HKN.out.below hW HKN.out.lt).cell 0
                          simp only [ndC,List.getElem?_cons_zero] at hq
                          go_wp2;exact j3 rfl rfl rfl
                        case o2 =>
                          obtain rfl:=HA0.out
                          intro W hW;rintro _ rfl;change wpList _ _ _ _ _ _;go_wp2;exact j3 rfl rfl rfl
                        case o3 =>
                          obtain rfl:=HA0.out
                          intro W hW;rintro _ rfl;change wpList _ _ _ _ _ _;go_wp2;exact j3 rfl rfl rfl
                        case o4 =>
                          obtain rfl:=HA0.out
                          intro W hW;rintro _ rfl;change wpList _ _ _ _ _ _;go_wp2;exact j3 rfl rfl rfl
                        case o5 =>
                          obtain rfl:=HA0.out
                          intro W hW;rintro _ rfl;rintro _ rfl;change wpList _ _ _ _ _ _;go_wp2;exact j3 rfl rfl rfl
                        case o6 =>
                          obtain rfl:=HA0.out
                          intro W hW;rintro _ rfl;rintro _ rfl;change wpList _ _ _ _ _ _;go_wp2;exact j3 rfl rfl rfl
                        case o7 =>
                          obtain rfl:=HA0.out
                          intro W hW;rintro _ rfl;change wpList _ _ _ _ _ _;go_wp2;exact j3 rfl rfl rfl
                        case o8 =>
                          obtain rfl:=HA0.out
                          intro W hW;rintro _ rfl;change wpList _ _ _ _ _ _;go_wp2;exact j3 rfl rfl rfl
                        case o9 =>
                          obtain rfl:=HA0.out
                          intro W hW;rintro _ rfl;change wpList _ _ _ _ _ _;go_wp2;exact j3 rfl rfl rfl
                        case o10 =>
                          obtain rfl:=HA0.out
                          intro W hW;rintro _ rfl;rintro _ rfl;change wpList _ _ _ _ _ _;go_wp2;exact j3 rfl rfl rfl
                        case o11 =>
                          obtain rfl:=HA0.out
                          intro W hW;rintro _ rfl;rintro _ rfl;rintro _ rfl;change wpList _ _ _ _ _ _;go_wp2;exact j3 rfl rfl rfl
                        case o12 =>
                          obtain rfl:=HA0.out
                          intro W hW;rintro _ rfl;rintro _ rfl;change wpList _ _ _ _ _ _
                          have hq:=((HKK.out.below hW HKK.out.lt).cell (t * 20 + th.sv.len)).trans HKv.out
                          rw [jT] at hq
                          go_wp2;exact j3 rfl rfl rfl
                        case o13 =>
                          obtain rfl:=HA0.out
                          intro W hW;rintro _ rfl;change wpList _ _ _ _ _ _
                          go_must (refine lR rfl 47 (.tmp 14) rfl gD rfl _ (pcC q1) _ (HKD.out.below hW HKD.out.lt) Tryd.underlying47 rfl (by rw [H171.out];exact j9) ?_)
                          go_wp2;exact j3 rfl rfl rfl
                        case o14 =>
                          obtain rfl:=HA0.out
                          intro W hW;rintro _ rfl;change wpList _ _ _ _ _ _;go_wp2;exact j3 rfl rfl rfl
                        case o15 =>
                          obtain rfl:=HA0.out
                          intro W hW;rintro _ rfl;rintro _ rfl;rintro _ rfl;change wpList _ _ _ _ _ _
                          go_wp2_with fail
                          refine (J7 q1 W HM.out.ok.row.len (vO HG1.out HM.out.ok) HG1.out.owns (own_8 HG1.out) (t : Int) HIt.out n1 HH1.out).mono ?_
                          rintro e w2 ⟨rfl,hb2⟩
                          have HBq:=kp hb2;clear hb2
                          go_wp2
                          exact jE rfl rfl rfl HBq.out rfl
                        case o16 =>
                          obtain rfl:=HA0.out
                          intro W hW;rintro _ rfl;rintro _ rfl;rintro _ rfl;change wpList _ _ _ _ _ _
                          have hand:=HAnd.out
                          go_wp2;exact j3 rfl rfl rfl
                        case o17 =>
                          obtain rfl:=HA0.out
                          intro W hW;rintro _ rfl;rintro _ rfl;change wpList _ _ _ _ _ _;go_wp2;exact j3 rfl rfl rfl
                        case o18 =>
                          obtain rfl:=HA0.out
                          intro W hW;rintro _ rfl;rintro _ rfl;change wpList _ _ _ _ _ _;go_wp2;exact j3 rfl rfl rfl
                      case hend =>
                        obtain rfl:=HA0.out
                        intro W hW;rintro _ rfl;rintro _ rfl;rintro _ rfl;rintro _ rfl;rintro _ rfl;rintro _ rfl;rintro _ rfl;rintro _ rfl;rintro _ rfl;rintro _ rfl;rintro _ rfl;rintro _ rfl;rintro _ rfl;rintro _ rfl;rintro _ rfl;rintro _ rfl;rintro _ rfl;rintro _ rfl;rintro _ rfl
                        simp only [given,jL,List.set]
                        have hbW:=hW
                        have HKD:=kp (HKD.out.below hbW HKD.out.lt)
                        have HKC:=kp (HKC.out.below hbW HKC.out.lt)
                        have HKP:=kp (HKP.out.below hbW HKP.out.lt)
                        have HKN:=kp (HKN.out.below hbW HKN.out.lt)
                        have HKK:=kp (HKK.out.below hbW HKK.out.lt)
                        have HBe:=kp (HBe.out.trans (hbW.mono HBe.out.size))
                        have HM:=kp (HM.out.below hbW (Nat.le_refl _))
                        clear hW hbW hnk
                        go_wp2_with (first
                          | ((with_reducible show Sl 127);go_must (refine j6 rfl 47 (.tmp 14) rfl gD rfl _ (pcC q1) _ HKD.out Tryd.underlying47 rfl (by rw [H171.out];exact j9) ?_))
                          | ((with_reducible show Sn);(refine j5 rfl 47 (.tmp 7) (.tmp 127) rfl gC (pcC q1) rfl rfl _ _ HKC.out (by rw [H171.out];exact j9) (by rw [H171.out,H17.out]) (jM q1) ?_);intro wz2 hkz hgz hsz
                             have HKZ:=kp hkz;have HMz:=kp (HM.out.typed HKC.out hgz);have HBz2:=kp (HBe.out.grown hgz HBe.out.size (fun k e => by cases e;exact HGe.out.1))
                             have HKKz:=kp (HKK.out.grown hgz (fun e => by cases e;exact HGe.out.2.2 rfl))
                             clear hkz hgz hsz))
                        go_roundw
                        case rel => exact ⟨i + 1,q1,kc,by omega,by go_num,HMz.out.less (by have:=HGe.out;omega),HCf1.out,⟨HLenK.out,HLtK.out,by rw [← HNo.out];exact HKs.out⟩,HKZ.out,HKKz.out,HBz2.out⟩
                        case measure => simp [intOf];omega
                    · have h1i : decide ((1 : Int) < (th.sv.len : Int)) = false:=by simp;omega
                      clear h9
                      go_wp2
                      refine wp_region_quiet_lit (by kernel_rfl) (by kernel_rfl) ?_
                      iterate 19 (go_big_quiet_step (fail))
                      refine wpQuiet_nil ?_
                      intro _ hw'
                      obtain ⟨nq,hw''⟩:=hw'
                      subst hw''
                      obtain ⟨w9,hw9⟩ : ∃ x,w8.drewN nq = x:=⟨_,rfl⟩
                      have hb9 : Below w8.heap.size w8 w9:=by rw [← hw9];exact below_drewN (Below.refl _ _) _
                      rw [hw9]
                      clear hw9 hnk
                      have HKD:=kp (HKD.out.below hb9 HKD.out.lt)
                      have HKC:=kp (HKC.out.below hb9 HKC.out.lt)
                      have HKP:=kp (HKP.out.below hb9 HKP.out.lt)
                      have HKN:=kp (HKN.out.below hb9 HKN.out.lt)
                      have HKK:=kp (HKK.out.below hb9 HKK.out.lt)
                      have HBe:=kp (HBe.out.trans (hb9.mono HBe.out.size))
                      have HM:=kp (HM.out.below hb9 (Nat.le_refl _))
                      clear hb9
                      go_wp2_with (first
                        | ((with_reducible show Sl 127);go_must (refine j6 rfl 47 (.tmp 14) rfl gD rfl _ (pcC q1) _ HKD.out Tryd.underlying47 rfl (by rw [H171.out];exact j9) ?_))
                        | ((with_reducible show Sn);(refine j5 rfl 47 (.tmp 7) (.tmp 127) rfl gC (pcC q1) rfl rfl _ _ HKC.out (by rw [H171.out];exact j9) (by rw [H171.out,H17.out]) (jM q1) ?_);intro wz2 hkz hgz hsz
                           have HKZ:=kp hkz;have HMz:=kp (HM.out.typed HKC.out hgz);have HBz2:=kp (HBe.out.grown hgz HBe.out.size (fun k e => by cases e;exact HGe.out.1))
                           have HKKz:=kp (HKK.out.grown hgz (fun e => by cases e;exact HGe.out.2.2 rfl))
                           clear hkz hgz hsz))
                      go_roundw
                      case rel => exact ⟨i + 1,q1,kc,by omega,by go_num,HMz.out.less (by have:=HGe.out;omega),HCf1.out,⟨HLenK.out,HLtK.out,by rw [← HNo.out];exact HKs.out⟩,HKZ.out,HKKz.out,HBz2.out⟩
                      case measure => simp [intOf];omega
                  · have h9b : (y.kind == 9) = false:=by simpa using h9
                    clear h9
                    go_wp2
                    refine wp_region_quiet_lit (by kernel_rfl) (by kernel_rfl) ?_
                    iterate 19 (go_big_quiet_step (fail))
                    refine wpQuiet_nil ?_
                    intro _ hw'
                    obtain ⟨nq,hw''⟩:=hw'
                    subst hw''
                    obtain ⟨w9,hw9⟩ : ∃ x,w8.drewN nq = x:=⟨_,rfl⟩
                    have hb9 : Below w8.heap.size w8 w9:=by rw [← hw9];exact below_drewN (Below.refl _ _) _
                    rw [hw9]
                    clear hw9 hnk
                    have HKD:=kp (HKD.out.below hb9 HKD.out.lt)
                    have HKC:=kp (HKC.out.below hb9 HKC.out.lt)
                    have HKP:=kp (HKP.out.below hb9 HKP.out.lt)
                    have HKN:=kp (HKN.out.below hb9 HKN.out.lt)
                    have HKK:=kp (HKK.out.below hb9 HKK.out.lt)
                    have HBe:=kp (HBe.out.trans (hb9.mono HBe.out.size))
                    have HM:=kp (HM.out.below hb9 (Nat.le_refl _))
                    clear hb9
                    go_wp2_with (first
                      | ((with_reducible show Sl 127);go_must (refine j6 rfl 47 (.tmp 14) rfl gD rfl _ (pcC q1) _ HKD.out Tryd.underlying47 rfl (by rw [H171.out];exact j9) ?_))
                      | ((with_reducible show Sn);(refine j5 rfl 47 (.tmp 7) (.tmp 127) rfl gC (pcC q1) rfl rfl _ _ HKC.out (by rw [H171.out];exact j9) (by rw [H171.out,H17.out]) (jM q1) ?_);intro wz2 hkz hgz hsz
                         have HKZ:=kp hkz;have HMz:=kp (HM.out.typed HKC.out hgz);have HBz2:=kp (HBe.out.grown hgz HBe.out.size (fun k e => by cases e;exact HGe.out.1))
                         have HKKz:=kp (HKK.out.grown hgz (fun e => by cases e;exact HGe.out.2.2 rfl))
                         clear hkz hgz hsz))
                    go_roundw
                    case rel => exact ⟨i + 1,q1,kc,by omega,by go_num,HMz.out.less (by have:=HGe.out;omega),HCf1.out,⟨HLenK.out,HLtK.out,by rw [← HNo.out];exact HKs.out⟩,HKZ.out,HKKz.out,HBz2.out⟩
                    case measure => simp [intOf];omega
        · have hge : len1 ≤ i:=by omega
          go_wp2
          go_ret
          exact ⟨rfl,HB.out⟩
end Go.Proofs.YtfiafbflhglpeaaDoor
