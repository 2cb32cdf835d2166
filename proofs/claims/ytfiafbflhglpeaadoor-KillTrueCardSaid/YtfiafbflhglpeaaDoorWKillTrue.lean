/- KillTrue, walked. -/
import Derived.Test.YtfiafbflhglpeaaDoorPk9
import Derived.Test.YtfiafbflhglpeaaDoorKillRow2
import Derived.Test.YtfiafbflhglpeaaDoorPk16
import Derived.Test.YtfiafbflhglpeaaDoorPk12
import Derived.Test.YtfiafbflhglpeaaDoorPk14
import Derived.Test.YtfiafbflhglpeaaDoorPk4
import Derived.Test.YtfiafbflhglpeaaDoorPk1
import Derived.BigQuiet
namespace Go.Proofs.YtfiafbflhglpeaaDoor
open Go.RowKit
theorem begun_in {p : Pg} {fs : List Nat} {t f : Nat} (_hf : Fine p) (_hl : p.fns.length = p.len) (h : ∀ f ∈ fs,f < p.len) (hft : fs[t]? = some f) : f < p.len:=h f (List.mem_of_getElem? hft)
theorem Y5 {p : Pg} {fs : List Nat} {a : Nat} {c : M.Cf} (_hf : Fine p) (_hl : p.fns.length = p.len) (_hg : M.Good p c) (_hb : Begun p (fs ++ [a]) c) (h : ∀ f ∈ fs,f < p.len) (ha : a < p.len) : ∀ f ∈ fs ++ [a],f < p.len:=fun f hf => by
  rcases List.mem_append.1 hf with h1 | h1
  · exact h f h1
  · rw [List.mem_singleton.1 h1];exact ha
theorem Y4 {p : Pg} {c : M.Cf} {t : Int} {way : Bool} {a : Nat} (hf : Fine p) (_hl : p.fns.length = p.len) (hg : M.Good p c) (h : (M.step p c t way).ths.length ≠ c.ths.length) (ha : (atNd p c t).arg = (a : Int)) : a < p.len:=by
  obtain ⟨h0,hlv,k5,_⟩:=M.step_spawn h
  obtain ⟨k,hk⟩ : ∃ k : Nat,t = (k : Int):=⟨t.toNat,by omega⟩
  rw [hk,Int.toNat_natCast] at hlv k5
  rw [hk,y7 (by rw [M.lives_nat];exact hlv) rfl] at ha
  obtain ⟨fn,hfn,_⟩:=M.node_is hg hlv
  have:=(M.node_fit hf hg hlv hfn).spawn k5
  omega
theorem LM {p : Pg} {l : List (Int × Bool)} {n i : Nat} (hl : l.length = n) (hi : n ≤ i) : runTo p l i = runTo p l (i + 1):=by
  unfold runTo
  rw [List.take_of_length_le (by omega),List.take_of_length_le (by omega)]
set_option maxRecDepth 1000000 in
set_option maxHeartbeats 8000000 in
theorem walkKillTrue (pg0 : Pg) (a1 : Option Addr) (len1 cap1 : Nat) (z1 : List (Int × Bool)) (w : World) (w0 : pg0.Ok w w.heap.size) (w1 : Picks w w.heap.size a1 len1 z1) (c1 : len1 ≤ cap1 ∧ cap1 ≤ maxLen) (hL : Tab w) :
    Calls Tryd.prog 6 #[pgA pg0,.slice a1 len1 cap1] w fun e w' => e = .returned (.bool true) ∧ Below w.heap.size w w':=by
  have HPi:=kp w1
  have hc1':=c1.1;have hm1:=c1.2
  unfold maxLen at hm1
  clear w1 c1
  have HP:=kp w0;have HTab:=kp hL
  have hw01:=hL.size
  clear w0 hL
  obtain ⟨r,hr⟩ : ∃ r,Q.small pg0 = r:=⟨_,rfl⟩
  have HR:=kp hr
  clear hr
  rw [jN]
  cases r
  · go_enter Tryd.func6,Tryd.ntmps6
    go_wp2_with (first
      | ((with_reducible refine j4 rfl 24 (.tmp 0) rfl (pgC pg0) rfl ?_);intro g1 u1 hg1 hk1 hu1;have HK1:=kp hk1;have HG1:=kp hg1;have HU1:=kp hu1;have hz1:=hu1.size;clear hg1 hk1 hu1))
    refine (jO u1 (HTab.out.below HU1.out hw01)).mono ?_
    rintro e w1 ⟨rfl,hb1⟩
    have HW1 : Kept (Below w.heap.size w w1):=kp (HU1.out.trans (hb1.mono hz1))
    have hs1:=HW1.out.size
    have HP1:=kp (HP.out.below HW1.out)
    have HKa:=kp (HK1.out.below hb1 HK1.out.lt)
    obtain ⟨hc0,hc1,hc2,hc3⟩:=j8 HKa.out
    clear hb1
    go_wp2_with fail
    refine (lA _ pg0 w1 HP1.out hs1 _ HR.out).mono ?_
    rintro e w2 ⟨rfl,hb2⟩
    have HW2 : Kept (Below w.heap.size w w2):=kp (HW1.out.trans (hb2.mono hs1))
    have hs2:=HW2.out.size
    have HP2:=kp (HP.out.below HW2.out)
    have HKb:=kp (HKa.out.below hb2 HKa.out.lt)
    clear hb2 hc0 hc1 hc2 hc3
    obtain ⟨hc0,hc1,hc2,hc3⟩:=j8 HKb.out
    go_wp2_with fail
    refine (jO w2 (HTab.out.below HW2.out hw01)).mono ?_
    rintro e w9 ⟨rfl,hb9⟩
    have HW9:=kp (HW2.out.trans (hb9.mono hs2))
    clear hb9
    go_wp2
    go_ret
    exact ⟨rfl,HW9.out⟩
  · by_cases hbig : 300 < len1
    · go_enter Tryd.func6,Tryd.ntmps6
      go_wp2_with (first
        | ((with_reducible refine j4 rfl 24 (.tmp 0) rfl (pgC pg0) rfl ?_);intro g1 u1 hg1 hk1 hu1;have HK1:=kp hk1;have HG1:=kp hg1;have HU1:=kp hu1;have hz1:=hu1.size;clear hg1 hk1 hu1))
      refine (jO u1 (HTab.out.below HU1.out hw01)).mono ?_
      rintro e w1 ⟨rfl,hb1⟩
      have HW1 : Kept (Below w.heap.size w w1):=kp (HU1.out.trans (hb1.mono hz1))
      have hs1:=HW1.out.size
      have HP1:=kp (HP.out.below HW1.out)
      have HKa:=kp (HK1.out.below hb1 HK1.out.lt)
      obtain ⟨hc0,hc1,hc2,hc3⟩:=j8 HKa.out
      clear hb1
      go_wp2_with fail
      refine (lA _ pg0 w1 HP1.out hs1 _ HR.out).mono ?_
      rintro e w2 ⟨rfl,hb2⟩
      have HW2 : Kept (Below w.heap.size w w2):=kp (HW1.out.trans (hb2.mono hs1))
      have hs2:=HW2.out.size
      have HP2:=kp (HP.out.below HW2.out)
      have HKb:=kp (HKa.out.below hb2 HKa.out.lt)
      clear hb2 hc0 hc1 hc2 hc3
      obtain ⟨hc0,hc1,hc2,hc3⟩:=j8 HKb.out
      go_wp2_with fail
      refine (jO w2 (HTab.out.below HW2.out hw01)).mono ?_
      rintro e w9 ⟨rfl,hb9⟩
      have HW9:=kp (HW2.out.trans (hb9.mono hs2))
      clear hb9
      go_wp2
      go_ret
      exact ⟨rfl,HW9.out⟩
    · go_enter Tryd.func6,Tryd.ntmps6
      go_wp2_with (first
        | ((with_reducible refine j4 rfl 24 (.tmp 0) rfl (pgC pg0) rfl ?_);intro g1 u1 hg1 hk1 hu1;have HK1:=kp hk1;have HG1:=kp hg1;have HU1:=kp hu1;have hz1:=hu1.size;clear hg1 hk1 hu1))
      refine (jO u1 (HTab.out.below HU1.out hw01)).mono ?_
      rintro e w1 ⟨rfl,hb1⟩
      have HW1 : Kept (Below w.heap.size w w1):=kp (HU1.out.trans (hb1.mono hz1))
      have hs1:=HW1.out.size
      have HP1:=kp (HP.out.below HW1.out)
      have HKa:=kp (HK1.out.below hb1 HK1.out.lt)
      obtain ⟨hc0,hc1,hc2,hc3⟩:=j8 HKa.out
      clear hb1
      go_wp2_with fail
      refine (lA _ pg0 w1 HP1.out hs1 _ HR.out).mono ?_
      rintro e w2 ⟨rfl,hb2⟩
      have HW2 : Kept (Below w.heap.size w w2):=kp (HW1.out.trans (hb2.mono hs1))
      have hs2:=HW2.out.size
      have HP2:=kp (HP.out.below HW2.out)
      have HKb:=kp (HKa.out.below hb2 HKa.out.lt)
      clear hb2 hc0 hc1 hc2 hc3
      obtain ⟨hc0,hc1,hc2,hc3⟩:=j8 HKb.out
      obtain ⟨⟨ca,cb,cc⟩,hcc⟩ : ∃ x,Q.check pg0 = x:=⟨_,rfl⟩
      have HC:=kp hcc
      clear hcc
      obtain ⟨us,hus⟩ : ∃ us,killA pg0 4 4 cc = us:=⟨_,rfl⟩
      obtain ⟨ts,hts⟩ : ∃ ts,killA pg0 1 2 cc = ts:=⟨_,rfl⟩
      obtain ⟨nu,hnu⟩ : ∃ nu,us.length = nu:=⟨_,rfl⟩
      obtain ⟨nt,hnt⟩ : ∃ nt,ts.length = nt:=⟨_,rfl⟩
      obtain ⟨mb,hmb⟩ : ∃ mb,lG pg0 cc mb:=yK pg0 cc
      have HUs:=kp hus;have HTs:=kp hts;have HNus:=kp hnu;have HNts:=kp hnt;have HMb:=kp hmb
      clear hus hts hnu hnt hmb
      go_wp2_with fail
      refine (lT w.heap.size pg0 w2 (HP.out.below HW2.out) hs2 HR.out (HTab.out.below HW2.out hw01) ca cb cc HC.out us HUs.out).mono ?_
      rintro e w3 ⟨v3,rfl,hown3,hb3⟩
      have HW3 : Kept (Below w.heap.size w w3):=kp (HW2.out.trans (hb3.mono hs2))
      have hs3:=HW3.out.size
      have HK3:=kp (HKb.out.below hb3 HKb.out.lt)
      obtain ⟨A3,c3,rfl,hcl3,hcm3,hr3⟩:=hown3.readsN HNus.out
      have HRw3:=kp hr3
      unfold maxLen at hcm3
      clear hown3 hr3
      have HX23:=kp hb3;have hX23:=hb3.size
      clear hb3 hc0 hc1 hc2 hc3
      obtain ⟨hc0,hc1,hc2,hc3⟩:=j8 HK3.out
      go_wp2_with fail
      refine (xC w.heap.size pg0 w3 (HP.out.below HW3.out) hs3 HR.out (HTab.out.below HW3.out hw01) ca cb cc HC.out ts HTs.out).mono ?_
      rintro e w4 ⟨v4,rfl,hown4,hb4⟩
      have HW4 : Kept (Below w.heap.size w w4):=kp (HW3.out.trans (hb4.mono hs3))
      have hs4:=HW4.out.size
      have HK4:=kp (HK3.out.below hb4 HK3.out.lt)
      obtain ⟨A4,c4,rfl,hcl4,hcm4,hr4⟩:=hown4.readsN HNts.out
      have HRw4:=kp hr4
      unfold maxLen at hcm4
      clear hown4 hr4
      have HX34:=kp hb4;have hX34:=hb4.size
      clear hb4 hc0 hc1 hc2 hc3
      obtain ⟨hc0,hc1,hc2,hc3⟩:=j8 HK4.out
      go_wp2_with fail
      refine (xT w.heap.size pg0 w4 (HP.out.below HW4.out) hs4 HR.out (HTab.out.below HW4.out hw01) ca cb cc HC.out mb HMb.out).mono ?_
      rintro e w5 ⟨rfl,hb5⟩
      have HW5 : Kept (Below w.heap.size w w5):=kp (HW4.out.trans (hb5.mono hs4))
      have hs5:=HW5.out.size
      have HK5:=kp (HK4.out.below hb5 HK4.out.lt)
      have HX45:=kp hb5;have hX45:=hb5.size
      clear hb5 hc0 hc1 hc2 hc3
      obtain ⟨hc0,hc1,hc2,hc3⟩:=j8 HK5.out
      have HRu:=kp (((HRw3.out.below HX34.out).below (HX45.out.mono hX34)).more (Nat.le_trans hX34 hX45))
      have HRt:=kp ((HRw4.out.below HX45.out).more hX45)
      have hlk5:=HK5.out.lt
      have hce : ((cc : Int) == (cc : Int)) = true:=by simp
      go_wp2_with (first
        | (go_at_call 16;fail))
      refine (vD w.heap.size pg0 w5 (HP.out.below HW5.out) hs5 ca cb cc HC.out).mono ?_
      unfold StartPost2
      rintro e w6 ⟨q0,rfl,hmi,hcf,hl0,h16,hb6⟩
      have HMi6:=kp hmi;have HCf0:=kp hcf;have H170:=kp (lE h16)
      have HM6:=kp hb6;have hs56:=hb6.size
      clear hmi hcf hl0 h16 hb6 hc0 hc1 hc2 hc3
      by_cases hz : cc = 0
      rotate_left
      · have hb0 : ((cc : Int) != 0) = true:=by simp;omega
        go_wp2_with (first
          | ((with_reducible show Sl 11);go_must (refine j7 rfl 47 rfl _ jX ?_);intro gC w7 hgC hk7 hu7;have HKc:=kp hk7;have HGC:=kp hgC;have HM7:=kp (HM6.out.trans (hu7.mono hs56));clear hk7 hu7 hgC)
          | ((with_reducible show Sn);(refine j5 rfl 47 (.tmp 11) (.tmp 53) rfl gC (pcC q0) rfl rfl _ _ HKc.out (by rw [H170.out];exact j9) (by rw [H170.out];rfl) (jM q0) ?_);intro w8 hk8 hg8 hs8'
             have HW8:=kp (HW5.out.trans ((HM7.out.grown hg8 HM7.out.size (fun k e => by cases e;have:=HGC.out;omega)).mono hs5));clear hk8 hg8 hs8'))
        go_ret
        exact ⟨rfl,HW8.out⟩
      have hb0 : ((cc : Int) != 0) = false:=by rw [hz];rfl
      have HF:=kp (xH (p:=pg0) (a:=ca) (b:=cb) (by rw [HC.out,hz]))
      have HLen:=kp HP.out.row.len
      have HCz:=kp hz
      have hnu1 : nu = pg0.len:=by rw [← HNus.out,← HUs.out,hz,jU,l2]
      have hnt1 : nt = pg0.len:=by rw [← HNts.out,← HTs.out,hz,jU,l2]
      subst hnu1 hnt1
      have hl16 : pg0.len ≤ 16:=by have h1:=HF.out.counts.f;have h2:=HLen.out;omega
      have hl0' : 0 < pg0.len:=by have h1:=HF.out.counts.f;have h2:=HLen.out;omega
      have hmb32 : mb < 4294967296:=(HMb.out.2 hz).1
      have HGd : Kept (∀ i,M.Good pg0 (runTo pg0 z1 i)):=kp (x6 HF.out HP.out.row.len z1)
      clear hz
      go_wp2_with (first
        | ((with_reducible show Sl 11);go_must (refine j7 rfl 47 rfl _ jX ?_);intro gC w7 hgC hk7 hu7;have HKc:=kp hk7;have HGC:=kp hgC;have HM7:=kp (HM6.out.trans (hu7.mono hs56));have HMi7:=kp (HMi6.out.below hu7 (Nat.le_refl _));have hs57:=HM7.out.size;clear hk7 hu7 hgC)
        | ((with_reducible show Sn);(refine j5 rfl 47 (.tmp 11) (.tmp 53) rfl gC (pcC q0) rfl rfl _ _ HKc.out (by rw [H170.out];exact j9) (by rw [H170.out];rfl) (jM q0) ?_);intro w8 hk8 hg8 hs8'
           have HKC8:=kp hk8;have HM8:=kp (HM7.out.grown hg8 hs57 (fun k e => by cases e;have:=HGC.out;omega));have HMi8:=kp (HMi7.out.typed HKc.out hg8);have hs58:=HM8.out.size;have hlC8:=hk8.lt;clear hk8 hg8 hs8'))
      have HGe : Kept (w5.heap.size ≤ gC):=kp (by have:=HGC.out;omega)
      have hO9:=Own.new w8 w5.heap.size 3 ([0].map natV) hs58 (by simp [maxLen])
      obtain ⟨w9,hw9⟩ : ∃ x,w8.alloc (.cells (#[.int .i64 0]) 3) = x:=⟨_,rfl⟩
      have hb9 : Below w8.heap.size w8 w9:=by rw [← hw9];exact (Below.refl _ _).alloc (Nat.le_refl _) _
      have hO9' : Own w9 w5.heap.size 3 (.slice (some ⟨w8.heap.size,0,none⟩) 1 1) ([0].map natV):=by rw [← hw9];exact hO9
      have HOw9:=kp hO9';have HKC9:=kp (HKC8.out.below hb9 hlC8);have HM9:=kp (HM8.out.trans (hb9.mono hs58));have HMi9:=kp (HMi8.out.below hb9 (Nat.le_refl _))
      rw [hw9]
      clear hO9 hw9 hb9 hO9'
      go_loopw [13,14] (fun v13 v wr => ∃ (i : Nat) (q : Pc) (fs : List Nat),i ≤ len1 + 1 ∧ v = .int .i64 i ∧ Own wr w5.heap.size 3 v13 (fs.map natV) ∧ Mine wr w5.heap.size q ∧ q.cf = runTo pg0 z1 i ∧ (Begun pg0 fs q.cf ∧ ∀ f ∈ fs,f < pg0.len) ∧ Blk wr gC 47 (pcC q) ∧ Below w5.heap.size w5 wr) (fun _ v _ => len1 + 1 - (intOf v).toNat)
      case atStart => exact ⟨0,q0,[0],by omega,rfl,HOw9.out,HMi9.out,by rw [vG];exact HCf0.out HCz.out,⟨by rw [HCf0.out HCz.out];exact L4 hl0',fun f hf => by rw [List.mem_singleton.1 hf];exact hl0'⟩,HKC9.out,HM9.out⟩
      case round =>
        clear HKC8 HKC9 HM6 HM7 HM8 HM9 HMi6 HMi7 HMi8 HMi9 HOw9
        obtain ⟨wo,rfl⟩ : ∃ x,x = wr:=⟨_,rfl⟩
        obtain ⟨i,q,fs,hi,rfl,how,hmq,hcf,hbg,hkc,hbl⟩:=hrel
        have HOw:=kp how;have HMq:=kp hmq;have HOq:=kp hmq.ok;have HCf:=kp hcf;have HBg:=kp hbg.1;have HFl:=kp hbg.2;have HBg2:=kp hbg;have HKC:=kp hkc;have HB5:=kp hbl
        have hs5o:=hbl.size;have hlC:=hkc.lt
        have HKP:=kp (HK5.out.below hbl hlk5);have hlP:=HKP.out.lt
        have HB:=kp (HW5.out.trans (hbl.mono hs5));have hBs:=HB.out.size
        have HPr:=kp (HP.out.below HB.out)
        have H17:=kp (yT (p:=pg0) (q:=q) (by rw [hcf];exact HGd.out i))
        have HGq:=kp (show M.Good pg0 q.cf by rw [hcf];exact HGd.out i)
        have HBe5:=HBg
        obtain ⟨nf,hnf⟩ : ∃ nf,fs.length = nf:=⟨_,rfl⟩
        have HNfq : Kept (nf = q.len):=kp (by rw [← hnf,hbg.1.1,hmq.ok.len])
        obtain ⟨AF,cF,rfl,hcF1,hcF2,hrF⟩:=how.readsN hnf
        have HRf:=kp hrF
        unfold maxLen at hcF2
        have hql:=hmq.ok.lc;have hqm:=hmq.ok.cm
        unfold maxLen at hqm
        clear how hmq hcf hbg hkc hbl hnf hrF
        by_cases hile : i ≤ len1
        · have hib : decide ((i : Int) ≤ (len1 : Int)) = true:=by simp;omega
          have hib2 : decide (i ≤ len1) = true:=decide_eq_true hile
          have HIle:=kp hile
          clear hile
          go_wp2
          clear hib hib2
          have hile:=HIle.out
          go_loopw [15] (fun v15 W => ∃ t : Nat,t ≤ q.len ∧ v15 = .int .i64 t ∧ Below wo.heap.size wo W) (fun v15 _ => q.len - (intOf v15).toNat)
          case atStart => exact ⟨0,by omega,rfl,Below.refl _ _⟩
          case round =>
            obtain ⟨t,ht,rfl,hbt⟩:=hrel
            have HBt:=kp hbt;have hst:=hbt.size
            have HKCt:=kp (HKC.out.below hbt hlC);have HKPt:=kp (HKP.out.below hbt hlP);have hlCt:=HKCt.out.lt;have hlPt:=HKPt.out.lt
            have hcC:=qB HKCt.out
            by_cases htl : t < q.len
            · have hq8:=vO HGq.out HOq.out
              have HIt : Kept (I64 (t : Int)):=kp (by unfold I64;omega)
              have HOt:=kp ((HOq.out.below hbt).more hst)
              have HPt:=kp (qR (HPr.out.below (hbt.mono hBs)) (Nat.le_trans hBs hst))
              obtain ⟨b,hb⟩ : ∃ b,M.lives q.cf (t : Int) = b:=⟨_,rfl⟩
              obtain ⟨y,hy⟩ : ∃ y,atNd pg0 q.cf (t : Int) = y:=⟨_,rfl⟩
              have HBv:=kp hb;have HYv:=kp hy
              obtain ⟨f,hf⟩ : ∃ f,fs[t]? = some f:=⟨_,List.getElem?_eq_getElem (by rw [HBg.out.1,HOq.out.len];exact htl)⟩
              have HFs:=kp hf
              have hfin : f < pg0.len:=begun_in HF.out HLen.out HFl.out hf
              obtain ⟨adF,f',eF,hadF0,hf',hcF⟩:=(HRf.out.below hbt).get (show t < nf by have:=HNfq.out;omega)
              rw [hf] at hf';cases hf'
              subst eF
              rw [l6] at hcF
              obtain ⟨adU,xu,eU,hadU0,hxU,hcU⟩:=(HRu.out.below (HB5.out.trans (hbt.mono hs5o))).get hfin
              obtain ⟨adT,xt,eT,hadT0,hxT,hcT⟩:=(HRt.out.below (HB5.out.trans (hbt.mono hs5o))).get hfin
              subst eU eT
              rw [jT] at hcU hcT
              rw [← HUs.out,HCz.out,jU] at hxU
              rw [← HTs.out,HCz.out,jU] at hxT
              have hadU : adU.block < wr.heap.size:=by omega
              have hadT : adT.block < wr.heap.size:=by omega
              have hadF : adF.block < wr.heap.size:=by omega
              have HcF:=kp hcF;have HcU:=kp hcU;have HcT:=kp hcT;have HXU:=kp hxU;have HXT:=kp hxT
              have htq : (t : Int) < (q.len : Int):=by omega
              have htf2 : (t : Int) < (nf : Int):=by have:=HNfq.out;omega
              have hfi : (f : Int) < (pg0.len : Int):=by omega
              clear hbt hb hy hf hcF hcU hcT hxU hxT
              go_wp2_with (first
                | ((with_reducible show Sl 79);go_must (refine j6 rfl 47 (.tmp 11) rfl gC rfl _ (pcC q) _ HKCt.out Tryd.underlying47 rfl (by rw [H17.out];exact j9) ?_))
                | ((with_reducible show Sl 80);go_must (refine j6 rfl 24 (.tmp 2) rfl g1 rfl _ (pgC pg0) _ HKPt.out Tryd.underlying24 rfl jH ?_))
                | (go_at_call 17;fail))
              refine (qY wr.heap.size pg0 HF.out q wr HPt.out HOt.out HGq.out (Nat.le_refl _) (t : Int) HIt.out b HBv.out y HYv.out).mono ?_
              rintro e wa ⟨rfl,hba⟩
              have HBa:=kp hba;have hsa:=hba.size
              have hfa:=(hba.cell (p:=adF.add t) (by rw [add_block];exact hadF)).trans HcF.out
              clear hba hcC
              cases b
              · skip
                go_wp2_with (first
                  | ((with_reducible show Sl 16);go_must (refine j7 rfl 41 rfl (ndC ⟨0,0,0,0⟩) jI ?_);intro gN wb hgN hkb hbb;have HGN:=kp hgN;have HKb:=kp hkb;have HBb:=kp (HBa.out.trans (hbb.mono hsa));have hsb:=HBb.out.size;clear hgN hkb hbb hfa)
                  | ((with_reducible show Sn);go_must (refine j5 rfl 41 (.tmp 16) (.tmp 83) rfl gN (ndC y) rfl rfl _ _ HKb.out jF rfl (qF y) ?_);intro wc hkz hgz hsz
                     have HBc:=kp (HBb.out.grown hgz hsb (fun k e => by cases e;have:=HGN.out;omega))
                     obtain ⟨hx0,hx1,hx2,hx3⟩:=jC hkz
                     have hF2:=(HBc.out.cell (p:=adF.add t) (by rw [add_block];exact hadF)).trans HcF.out
                     have hU2:=(HBc.out.cell (p:=adU.add f) (by rw [add_block];exact hadU)).trans HcU.out
                     have hT2:=(HBc.out.cell (p:=adT.add f) (by rw [add_block];exact hadT)).trans HcT.out
                     clear hkz hgz hsz))
                refine wp_region_quiet_lit (by kernel_rfl) (by kernel_rfl) ?_
                iterate 47 (go_big_quiet_step (fail))
                refine wpQuiet_nil ?_
                intro _ hw'
                obtain ⟨nq,hw''⟩:=hw'
                subst hw''
                obtain ⟨w9,hw9⟩ : ∃ x,wc.drewN nq = x:=⟨_,rfl⟩
                have hb9 : Below wr.heap.size wr w9:=by rw [← hw9];exact below_drewN HBc.out _
                rw [hw9]
                have HB9:=kp (HBt.out.trans (hb9.mono (Nat.le_trans hst (Nat.le_refl _))))
                clear hw9 hb9 hx0 hx1 hx2 hx3 hF2 hU2 hT2
                go_wp2
                go_roundw
                case rel => exact ⟨t + 1,by omega,by go_num,HB9.out⟩
                case measure => simp [intOf];omega
              · have hlv : M.livesN q.cf t = true:=by have h:=HBv.out;rwa [M.lives_nat] at h
                have hyn : M.node pg0 q.cf t = y:=by have h:=HYv.out;rwa [y7 HBv.out rfl] at h
                obtain ⟨fn,hfn,_,hnd⟩:=M.node_is HGq.out hlv
                have hfit:=M.node_fit HF.out HGq.out hlv hfn
                have hmay:=M.fine_node HF.out hfn hnd
                rw [hyn] at hfit hmay
                obtain ⟨ya,hya⟩ : ∃ ya : Nat,y.arg = (ya : Int):=⟨y.arg.toNat,by have:=hfit.arg;omega⟩
                have HYa:=kp hya
                have HDo : Kept (∀ a b : Int,y.kind = a ∨ y.kind = b → MayDo pg0 a b f ya):=kp (fun a b hk => QE HLen.out HGq.out HBg.out HFs.out hlv (by rw [hyn];exact hk) (by rw [hyn];exact hya))
                by_cases hk4 : y.kind = 4
                · have hk:=hk4
                  have ha:=hfit.lock (.inr hk4)
                  have HH : Kept (S.has xu (ya : Int) = true):=kp (by
                    rw [S.has_in _ _ (by omega)]
                    exact ((jZ HXU.out).2 ya (by omega)).2 (HDo.out 4 4 (.inl hk4)))
                  have hxu32 : xu < 4294967296:=(jZ HXU.out).1
                  have hya31 : ya < 16:=by omega
                  have e4 : (y.kind == 4) = true:=by rw [beq_iff_eq];exact hk
                  have e1 : (y.kind == 1) = false:=by simp;omega
                  have e2 : (y.kind == 2) = false:=by simp;omega
                  have e5 : (y.kind == 5) = false:=by simp;omega
                  clear hyn hfn hnd hfit hmay hya hlv hk hk4 ha
                  go_wp2_with (first
                    | ((with_reducible show Sl 16);go_must (refine j7 rfl 41 rfl (ndC ⟨0,0,0,0⟩) jI ?_);intro gN wb hgN hkb hbb;have HGN:=kp hgN;have HKb:=kp hkb;have HBb:=kp (HBa.out.trans (hbb.mono hsa));have hsb:=HBb.out.size;clear hgN hkb hbb hfa)
                    | ((with_reducible show Sn);go_must (refine j5 rfl 41 (.tmp 16) (.tmp 83) rfl gN (ndC y) rfl rfl _ _ HKb.out jF rfl (qF y) ?_);intro wc hkz hgz hsz
                       have HBc:=kp (HBb.out.grown hgz hsb (fun k e => by cases e;have:=HGN.out;omega))
                       obtain ⟨hx0,hx1,hx2,hx3⟩:=jC hkz
                       have hF2:=(HBc.out.cell (p:=adF.add t) (by rw [add_block];exact hadF)).trans HcF.out
                       have hU2:=(HBc.out.cell (p:=adU.add f) (by rw [add_block];exact hadU)).trans HcU.out
                       have hT2:=(HBc.out.cell (p:=adT.add f) (by rw [add_block];exact hadT)).trans HcT.out
                       rw [HYa.out] at hx1
                       clear hkz hgz hsz))
                  refine wp_region_quiet_lit (by kernel_rfl) (by kernel_rfl) ?_
                  iterate 13 (go_big_quiet_step (exact lC (x8 xu hxu32 (ya : Int) ⟨by omega,by omega⟩ true HH.out _)))
                  iterate 34 (go_big_quiet_step (fail))
                  refine wpQuiet_nil ?_
                  intro _ hw'
                  obtain ⟨nq,hw''⟩:=hw'
                  subst hw''
                  obtain ⟨w9,hw9⟩ : ∃ x,wc.drewN nq = x:=⟨_,rfl⟩
                  have hb9 : Below wr.heap.size wr w9:=by rw [← hw9];exact below_drewN HBc.out _
                  rw [hw9]
                  have HB9:=kp (HBt.out.trans (hb9.mono (Nat.le_trans hst (Nat.le_refl _))))
                  clear hw9 hb9 hx0 hx1 hx2 hx3 hF2 hU2 hT2 e4 e1 e2 e5
                  go_wp2
                  go_roundw
                  case rel => exact ⟨t + 1,by omega,by go_num,HB9.out⟩
                  case measure => simp [intOf];omega
                by_cases hk12 : y.kind = 1 ∨ y.kind = 2
                · have ha:=glob_lt HF.out.counts hmay hk12
                  have HH : Kept (S.has xt (ya : Int) = true):=kp (by
                    rw [S.has_in _ _ (by omega)]
                    exact ((jZ HXT.out).2 ya (by omega)).2 (HDo.out 1 2 hk12))
                  have hxt32 : xt < 4294967296:=(jZ HXT.out).1
                  have hya31 : ya < 16:=by omega
                  by_cases hk1 : y.kind = 1
                  · have hk:=hk1
                    have e1 : (y.kind == 1) = true:=by rw [beq_iff_eq];exact hk
                    have e4 : (y.kind == 4) = false:=by simp;omega
                    have e5 : (y.kind == 5) = false:=by simp;omega
                    clear hyn hfn hnd hfit hmay hya hlv hk hk1 hk12 ha
                    go_wp2_with (first
                      | ((with_reducible show Sl 16);go_must (refine j7 rfl 41 rfl (ndC ⟨0,0,0,0⟩) jI ?_);intro gN wb hgN hkb hbb;have HGN:=kp hgN;have HKb:=kp hkb;have HBb:=kp (HBa.out.trans (hbb.mono hsa));have hsb:=HBb.out.size;clear hgN hkb hbb hfa)
                      | ((with_reducible show Sn);go_must (refine j5 rfl 41 (.tmp 16) (.tmp 83) rfl gN (ndC y) rfl rfl _ _ HKb.out jF rfl (qF y) ?_);intro wc hkz hgz hsz
                         have HBc:=kp (HBb.out.grown hgz hsb (fun k e => by cases e;have:=HGN.out;omega))
                         obtain ⟨hx0,hx1,hx2,hx3⟩:=jC hkz
                         have hF2:=(HBc.out.cell (p:=adF.add t) (by rw [add_block];exact hadF)).trans HcF.out
                         have hU2:=(HBc.out.cell (p:=adU.add f) (by rw [add_block];exact hadU)).trans HcU.out
                         have hT2:=(HBc.out.cell (p:=adT.add f) (by rw [add_block];exact hadT)).trans HcT.out
                         rw [HYa.out] at hx1
                         clear hkz hgz hsz))
                    refine wp_region_quiet_lit (by kernel_rfl) (by kernel_rfl) ?_
                    iterate 32 (go_big_quiet_step (exact lC (x8 xt hxt32 (ya : Int) ⟨by omega,by omega⟩ true HH.out _)))
                    iterate 15 (go_big_quiet_step (fail))
                    refine wpQuiet_nil ?_
                    intro _ hw'
                    obtain ⟨nq,hw''⟩:=hw'
                    subst hw''
                    obtain ⟨w9,hw9⟩ : ∃ x,wc.drewN nq = x:=⟨_,rfl⟩
                    have hb9 : Below wr.heap.size wr w9:=by rw [← hw9];exact below_drewN HBc.out _
                    rw [hw9]
                    have HB9:=kp (HBt.out.trans (hb9.mono (Nat.le_trans hst (Nat.le_refl _))))
                    clear hw9 hb9 hx0 hx1 hx2 hx3 hF2 hU2 hT2 e4 e1 e5
                    go_wp2
                    go_roundw
                    case rel => exact ⟨t + 1,by omega,by go_num,HB9.out⟩
                    case measure => simp [intOf];omega
                  · have hk : y.kind = 2:=by omega
                    have e2 : (y.kind == 2) = true:=by rw [beq_iff_eq];exact hk
                    have e4 : (y.kind == 4) = false:=by simp;omega
                    have e1 : (y.kind == 1) = false:=by simp;omega
                    have e5 : (y.kind == 5) = false:=by simp;omega
                    clear hyn hfn hnd hfit hmay hya hlv hk hk1 hk12 ha
                    go_wp2_with (first
                      | ((with_reducible show Sl 16);go_must (refine j7 rfl 41 rfl (ndC ⟨0,0,0,0⟩) jI ?_);intro gN wb hgN hkb hbb;have HGN:=kp hgN;have HKb:=kp hkb;have HBb:=kp (HBa.out.trans (hbb.mono hsa));have hsb:=HBb.out.size;clear hgN hkb hbb hfa)
                      | ((with_reducible show Sn);go_must (refine j5 rfl 41 (.tmp 16) (.tmp 83) rfl gN (ndC y) rfl rfl _ _ HKb.out jF rfl (qF y) ?_);intro wc hkz hgz hsz
                         have HBc:=kp (HBb.out.grown hgz hsb (fun k e => by cases e;have:=HGN.out;omega))
                         obtain ⟨hx0,hx1,hx2,hx3⟩:=jC hkz
                         have hF2:=(HBc.out.cell (p:=adF.add t) (by rw [add_block];exact hadF)).trans HcF.out
                         have hU2:=(HBc.out.cell (p:=adU.add f) (by rw [add_block];exact hadU)).trans HcU.out
                         have hT2:=(HBc.out.cell (p:=adT.add f) (by rw [add_block];exact hadT)).trans HcT.out
                         rw [HYa.out] at hx1
                         clear hkz hgz hsz))
                    refine wp_region_quiet_lit (by kernel_rfl) (by kernel_rfl) ?_
                    iterate 32 (go_big_quiet_step (exact lC (x8 xt hxt32 (ya : Int) ⟨by omega,by omega⟩ true HH.out _)))
                    iterate 15 (go_big_quiet_step (fail))
                    refine wpQuiet_nil ?_
                    intro _ hw'
                    obtain ⟨nq,hw''⟩:=hw'
                    subst hw''
                    obtain ⟨w9,hw9⟩ : ∃ x,wc.drewN nq = x:=⟨_,rfl⟩
                    have hb9 : Below wr.heap.size wr w9:=by rw [← hw9];exact below_drewN HBc.out _
                    rw [hw9]
                    have HB9:=kp (HBt.out.trans (hb9.mono (Nat.le_trans hst (Nat.le_refl _))))
                    clear hw9 hb9 hx0 hx1 hx2 hx3 hF2 hU2 hT2 e4 e1 e2 e5
                    go_wp2
                    go_roundw
                    case rel => exact ⟨t + 1,by omega,by go_num,HB9.out⟩
                    case measure => simp [intOf];omega
                by_cases hk5 : y.kind = 5
                · have hk:=hk5
                  have ha:=(hfit.spawn hk5).1
                  have HH : Kept (S.has mb (f : Int) = true):=kp (by
                    rw [S.has_in _ _ (by omega)]
                    exact ((HMb.out.2 HCz.out).2 f (by omega)).2 ⟨hfin,ya,by omega,HDo.out 5 5 (.inl hk5)⟩)
                  have e5 : (y.kind == 5) = true:=by rw [beq_iff_eq];exact hk
                  have e4 : (y.kind == 4) = false:=by simp;omega
                  have e1 : (y.kind == 1) = false:=by simp;omega
                  have e2 : (y.kind == 2) = false:=by simp;omega
                  clear hyn hfn hnd hfit hmay hya hlv hk hk5 ha
                  go_wp2_with (first
                    | ((with_reducible show Sl 16);go_must (refine j7 rfl 41 rfl (ndC ⟨0,0,0,0⟩) jI ?_);intro gN wb hgN hkb hbb;have HGN:=kp hgN;have HKb:=kp hkb;have HBb:=kp (HBa.out.trans (hbb.mono hsa));have hsb:=HBb.out.size;clear hgN hkb hbb hfa)
                    | ((with_reducible show Sn);go_must (refine j5 rfl 41 (.tmp 16) (.tmp 83) rfl gN (ndC y) rfl rfl _ _ HKb.out jF rfl (qF y) ?_);intro wc hkz hgz hsz
                       have HBc:=kp (HBb.out.grown hgz hsb (fun k e => by cases e;have:=HGN.out;omega))
                       obtain ⟨hx0,hx1,hx2,hx3⟩:=jC hkz
                       have hF2:=(HBc.out.cell (p:=adF.add t) (by rw [add_block];exact hadF)).trans HcF.out
                       have hU2:=(HBc.out.cell (p:=adU.add f) (by rw [add_block];exact hadU)).trans HcU.out
                       have hT2:=(HBc.out.cell (p:=adT.add f) (by rw [add_block];exact hadT)).trans HcT.out
                       clear hkz hgz hsz))
                  refine wp_region_quiet_lit (by kernel_rfl) (by kernel_rfl) ?_
                  iterate 43 (go_big_quiet_step (exact lC (x8 mb hmb32 (f : Int) ⟨by omega,by omega⟩ true HH.out _)))
                  iterate 4 (go_big_quiet_step (fail))
                  refine wpQuiet_nil ?_
                  intro _ hw'
                  obtain ⟨nq,hw''⟩:=hw'
                  subst hw''
                  obtain ⟨w9,hw9⟩ : ∃ x,wc.drewN nq = x:=⟨_,rfl⟩
                  have hb9 : Below wr.heap.size wr w9:=by rw [← hw9];exact below_drewN HBc.out _
                  rw [hw9]
                  have HB9:=kp (HBt.out.trans (hb9.mono (Nat.le_trans hst (Nat.le_refl _))))
                  clear hw9 hb9 hx0 hx1 hx2 hx3 hF2 hU2 hT2 e4 e1 e2 e5
                  go_wp2
                  go_roundw
                  case rel => exact ⟨t + 1,by omega,by go_num,HB9.out⟩
                  case measure => simp [intOf];omega
                · skip
                  have e4 : (y.kind == 4) = false:=by simp;omega
                  have e1 : (y.kind == 1) = false:=by simp;omega
                  have e2 : (y.kind == 2) = false:=by simp;omega
                  have e5 : (y.kind == 5) = false:=by simp;omega
                  clear hyn hfn hnd hfit hmay hya hlv
                  go_wp2_with (first
                    | ((with_reducible show Sl 16);go_must (refine j7 rfl 41 rfl (ndC ⟨0,0,0,0⟩) jI ?_);intro gN wb hgN hkb hbb;have HGN:=kp hgN;have HKb:=kp hkb;have HBb:=kp (HBa.out.trans (hbb.mono hsa));have hsb:=HBb.out.size;clear hgN hkb hbb hfa)
                    | ((with_reducible show Sn);go_must (refine j5 rfl 41 (.tmp 16) (.tmp 83) rfl gN (ndC y) rfl rfl _ _ HKb.out jF rfl (qF y) ?_);intro wc hkz hgz hsz
                       have HBc:=kp (HBb.out.grown hgz hsb (fun k e => by cases e;have:=HGN.out;omega))
                       obtain ⟨hx0,hx1,hx2,hx3⟩:=jC hkz
                       have hF2:=(HBc.out.cell (p:=adF.add t) (by rw [add_block];exact hadF)).trans HcF.out
                       have hU2:=(HBc.out.cell (p:=adU.add f) (by rw [add_block];exact hadU)).trans HcU.out
                       have hT2:=(HBc.out.cell (p:=adT.add f) (by rw [add_block];exact hadT)).trans HcT.out
                       clear hkz hgz hsz))
                  refine wp_region_quiet_lit (by kernel_rfl) (by kernel_rfl) ?_
                  iterate 47 (go_big_quiet_step (fail))
                  refine wpQuiet_nil ?_
                  intro _ hw'
                  obtain ⟨nq,hw''⟩:=hw'
                  subst hw''
                  obtain ⟨w9,hw9⟩ : ∃ x,wc.drewN nq = x:=⟨_,rfl⟩
                  have hb9 : Below wr.heap.size wr w9:=by rw [← hw9];exact below_drewN HBc.out _
                  rw [hw9]
                  have HB9:=kp (HBt.out.trans (hb9.mono (Nat.le_trans hst (Nat.le_refl _))))
                  clear hw9 hb9 hx0 hx1 hx2 hx3 hF2 hU2 hT2 e4 e1 e2 e5
                  go_wp2
                  go_roundw
                  case rel => exact ⟨t + 1,by omega,by go_num,HB9.out⟩
                  case measure => simp [intOf];omega
            · have hge : q.len ≤ t:=by omega
              have hge2 : decide ((t : Int) < (q.len : Int)) = false:=by simp;omega
              clear htl hbt
              have HBo:=kp (HB5.out.trans (HBt.out.mono hs5o));have hso:=HBo.out.size
              have HKC:=HKCt;have HKP:=HKPt
              have hlC:=HKC.out.lt;have hlP:=HKP.out.lt
              have HOq:=kp ((HOq.out.below HBt.out).more hst);have HMq:=kp (HMq.out.below HBt.out (Nat.le_refl _))
              have HOw:=kp (HOw.out.below HBt.out (Nat.le_refl _))
              have HPr:=kp (HPr.out.below (HBt.out.mono hBs))
              have HB:=kp (HB.out.trans (HBt.out.mono hBs));have hBs:=HB.out.size
              have HPiw:=kp (HPi.out.1.keep (fun p hp => HB.out.cell hp))
              by_cases hlt : i < len1
              · skip
                obtain ⟨ad,x,hA,hadB,hx,hx1,hcx0,hcx1⟩:=HPi.out.pick hlt
                have hadw : ad.block < wr.heap.size:=by omega
                have HX:=kp hx;have HX1:=kp hx1
                have HCx : Kept (wr.cell? (ad.add (i * 2)) = some (.int .i64 x.1) ∧ wr.cell? ⟨(ad.add (i * 2)).block,(ad.add (i * 2)).off + 1,none⟩ = some (.bool x.2)):=kp ⟨(HB.out.cell (by rw [add_block];exact hadB)).trans hcx0,(HB.out.cell (by rw [add_block];exact hadB)).trans hcx1⟩
                subst hA
                clear hx hx1 hcx0 hcx1
                obtain ⟨b,hb⟩ : ∃ b,M.lives q.cf x.1 = b:=⟨_,rfl⟩
                obtain ⟨y,hy⟩ : ∃ y,atNd pg0 q.cf x.1 = y:=⟨_,rfl⟩
                have HBv:=kp hb;have HYv:=kp hy
                clear hb hy
                go_wp2
                apply uL (Fill wr.heap.size 41 (nodeGood y)) [(12,19)] (.is (pcA q) :: .is (pgA pg0) :: .is _ :: .is _ :: .is (.pointer (some (ad.add (i * 2)))) :: .is (.pointer (some (ad.add (i * 2)))) :: .is (.int .i64 x.1) :: .is (.tuple #[ndA y,.bool b]) :: .is (.tuple #[ndA y,.bool b]) :: .is (ndA y) :: .is (.bool b) :: (.var (jP wr.heap.size y)) :: (.good (jP wr.heap.size y)) :: .is (.bool b) :: [])
                  [[],[],[],[],[(2,147),(3,148)],[(4,149)],[(5,150)],[(0,145),(1,146),(6,151)],[(7,152)],[(8,144)],[(8,144)],[],[(11,19),(9,153)],[(10,154)]]
                  [(0,145),(1,146),(2,147),(3,148),(4,149),(5,150),(6,151),(7,152),(8,144),(9,153),(10,154),(11,19),(13,20)] (by kernel_rfl) (by kernel_rfl) (by kernel_rfl) (by kernel_rfl) (Fill.ok (jP wr.heap.size y))
                case hob =>
                  refine ⟨?o0,?o1,?o2,?o3,?o4,?o5,?o6,?o7,?o8,?o9,?o10,?o11,?o12,?o13,trivial⟩
                  case o0 =>
                    intro W hF;have hW:=hF.below;clear hF;change wpList _ _ _ _ _ _
                    go_must (refine j6 rfl 47 (.tmp 11) rfl gC rfl _ (pcC q) _ (HKC.out.below hW hlC) Tryd.underlying47 rfl (by rw [H17.out];exact j9) ?_)
                    go_wp2;exact jY (Fill.ok (jP wr.heap.size y)) rfl rfl rfl
                  case o1 =>
                    intro W hF;have hW:=hF.below;clear hF;change wpList _ _ _ _ _ _
                    go_must (refine j6 rfl 24 (.tmp 2) rfl g1 rfl _ (pgC pg0) _ (HKP.out.below hW hlP) Tryd.underlying24 rfl jH ?_)
                    go_wp2;exact jY (Fill.ok (jP wr.heap.size y)) rfl rfl rfl
                  case o2 => intro W hF;have hW:=hF.below;clear hF;change wpList _ _ _ _ _ _;go_wp2;exact jY (Fill.ok (jP wr.heap.size y)) rfl rfl rfl
                  case o3 => intro W hF;have hW:=hF.below;clear hF;change wpList _ _ _ _ _ _;go_wp2;exact jY (Fill.ok (jP wr.heap.size y)) rfl rfl rfl
                  case o4 => intro W hF;have hW:=hF.below;clear hF;rintro _ rfl;rintro _ rfl;change wpList _ _ _ _ _ _;go_wp2;exact jY (Fill.ok (jP wr.heap.size y)) rfl rfl rfl
                  case o5 => intro W hF;have hW:=hF.below;clear hF;rintro _ rfl;change wpList _ _ _ _ _ _;go_wp2;exact jY (Fill.ok (jP wr.heap.size y)) rfl rfl rfl
                  case o6 =>
                    intro W hF;have hW:=hF.below;clear hF;rintro _ rfl;change wpList _ _ _ _ _ _
                    have hd0:=(hW.cell (p:=ad.add (i * 2)) (by rw [add_block];exact hadw)).trans HCx.out.1
                    go_wp2;exact jY (Fill.ok (jP wr.heap.size y)) rfl rfl rfl
                  case o7 =>
                    intro W hF;have hW:=hF.below;clear hF;rintro _ rfl;rintro _ rfl;rintro _ rfl;change wpList _ _ _ _ _ _
                    go_wp2_with fail
                    refine (qY W.heap.size pg0 HF.out q W (qR (HPr.out.below (hW.mono hBs)) (show w.heap.size ≤ W.heap.size by have:=hW.size;omega)) ((HOq.out.below hW).more hW.size) HGq.out (Nat.le_refl _) x.1 HX1.out b HBv.out y HYv.out).mono ?_
                    rintro e w2 ⟨rfl,hb2⟩
                    have HB2:=kp hb2;clear hb2
                    go_wp2
                    exact zZ rfl rfl rfl (Fill.of_below HB2.out) rfl
                  case o8 => intro W hF;have hW:=hF.below;clear hF;rintro _ rfl;change wpList _ _ _ _ _ _;go_wp2;exact jY (Fill.ok (jP wr.heap.size y)) rfl rfl rfl
                  case o9 => intro W hF;have hW:=hF.below;clear hF;rintro _ rfl;change wpList _ _ _ _ _ _;go_wp2;exact jY (Fill.ok (jP wr.heap.size y)) rfl rfl rfl
                  case o10 => intro W hF;have hW:=hF.below;clear hF;rintro _ rfl;change wpList _ _ _ _ _ _;go_wp2;exact jY (Fill.ok (jP wr.heap.size y)) rfl rfl rfl
                  case o11 =>
                    intro W hF;have hW:=hF.below;clear hF;change wpList _ _ _ _ _ _
                    have hsW:=hW.size
                    go_must (refine j7 rfl 41 rfl _ LU ?_)
                    intro gx wx hgx hkx hbx
                    have HKx:=kp hkx;have HGx:=kp hgx;have HBx:=kp hbx
                    clear hgx hkx hbx
                    go_wp2
                    exact zZ rfl rfl rfl (Fill.of_below HBx.out) ⟨gx,_,rfl,by have:=HGx.out;omega,HKx.out,rfl⟩
                  case o12 =>
                    intro W hF;have hW:=hF.below;clear hF;rintro _ ⟨gN,cn,rfl,hgN,hkn,hln⟩;rintro _ rfl;change wpList _ _ _ _ _ _
                    have HKn:=kp hkn;have HGn:=kp hgN;have hl4 : (ndC y).length = cn.length:=by rw [hln];rfl
                    go_must (refine j5 rfl 41 (.tmp 19) (.tmp 153) rfl gN (ndC y) rfl rfl _ _ hkn jF hl4.symm (jK y) ?_)
                    intro W2 hk2 hg2 _
                    have HK2:=kp hk2;have HG2:=kp hg2
                    clear hk2 hg2 hkn hln hl4 hW hgN
                    have HGood : Kept (nodeGood y (ndC y) W2):=kp rfl
                    have HFill : Kept (Fill wr.heap.size 41 (nodeGood y) W W2):=kp (Fill.of_store HG2.out HGn.out HKn.out HK2.out HGood.out)
                    go_wp2
                    exact uH (d:=19) rfl rfl rfl HFill.out ⟨gN,_,rfl,HGn.out,HK2.out,HGood.out⟩
                  case o13 => intro W hF;have hW:=hF.below;clear hF;rintro _ rfl;change wpList _ _ _ _ _ _;go_wp2;exact jY (Fill.ok (jP wr.heap.size y)) rfl rfl rfl
                case hend =>
                  intro W hF;have hW:=hF.below;clear hF;rintro _ rfl;rintro _ rfl;rintro _ rfl;rintro _ rfl;rintro _ rfl;rintro _ rfl;rintro _ rfl;rintro _ rfl;rintro _ rfl;rintro _ rfl;rintro _ rfl;rintro _ ⟨gN,cn,rfl,hgN,hkn,hln⟩;rintro _ rfl
                  simp only [tgiven,tends,jL,List.set]
                  rintro ⟨gN2,cn2,e2,hgN2,hkN2,hgood2⟩
                  have hkz : Blk W gN2 41 (ndC y):=by have h : cn2 = ndC y:=hgood2;rw [← h];exact hkN2
                  have e3 : gN = gN2:=by injection e2 with e2;injection e2 with e2;injection e2
                  subst e3
                  obtain ⟨wz,rfl⟩ : ∃ wz,wz = W:=⟨_,rfl⟩
                  have HKN:=kp hkz;have HBz:=kp hW;have HGN:=kp hgN;have hlN:=hkz.lt
                  clear hW hkn hln hgN hkN2 hgN2 hgood2 e2 hkz
                  have hsz:=HBz.out.size
                  have HKC:=kp (HKC.out.below HBz.out hlC);have HKP:=kp (HKP.out.below HBz.out hlP)
                  have HCx:=kp (And.intro ((HBz.out.cell (by rw [add_block];exact hadw)).trans HCx.out.1) ((HBz.out.cell (by rw [add_block];exact hadw)).trans HCx.out.2))
                  have hadw : ad.block < wz.heap.size:=by omega
                  have HPr:=kp (HPr.out.below (HBz.out.mono hBs));have HOq:=kp ((HOq.out.below HBz.out).more hsz)
                  have HOw:=kp (HOw.out.below HBz.out (Nat.le_refl _));have HBo:=kp (HBo.out.trans (HBz.out.mono hso));have hso:=HBo.out.size
                  have HB:=kp (HB.out.trans (HBz.out.mono hBs));have hBs:=HB.out.size
                  have hlC:=HKC.out.lt;have hlP:=HKP.out.lt
                  clear HBz
                  go_wp2
                  apply jG 8 (.is (pcA q) :: .is (pgA pg0) :: .is _ :: .is _ :: .is (.pointer (some (ad.add (i * 2)))) :: .is (.agg #[.int .i64 x.1,.bool x.2]) :: (.stepped wz.heap.size (M.step pg0 q.cf x.1 x.2)) :: (.confNew wz.heap.size) :: [])
                    [[],[],[],[],[(2,157),(3,158)],[(4,159)],[(0,155),(1,156),(5,160)],[],[(7,21),(6,161)]]
                    [(0,155),(1,156),(2,157),(3,158),(4,159),(5,160),(6,161),(7,21)] (by kernel_rfl) (by kernel_rfl) (by kernel_rfl) (by kernel_rfl) (by kernel_rfl)
                  case hob =>
                    refine ⟨?o0,?o1,?o2,?o3,?o4,?o5,?o6,?o7,trivial⟩
                    case o0 =>
                      intro W hW;change wpList _ _ _ _ _ _
                      go_must (refine j6 rfl 47 (.tmp 11) rfl gC rfl _ (pcC q) _ (HKC.out.below hW hlC) Tryd.underlying47 rfl (by rw [H17.out];exact j9) ?_)
                      go_wp2;exact j3 rfl rfl rfl
                    case o1 =>
                      intro W hW;change wpList _ _ _ _ _ _
                      go_must (refine j6 rfl 24 (.tmp 2) rfl g1 rfl _ (pgC pg0) _ (HKP.out.below hW hlP) Tryd.underlying24 rfl jH ?_)
                      go_wp2;exact j3 rfl rfl rfl
                    case o2 => intro W hW;change wpList _ _ _ _ _ _;go_wp2;exact j3 rfl rfl rfl
                    case o3 => intro W hW;change wpList _ _ _ _ _ _;go_wp2;exact j3 rfl rfl rfl
                    case o4 => intro W hW;rintro _ rfl;rintro _ rfl;change wpList _ _ _ _ _ _;go_wp2;exact j3 rfl rfl rfl
                    case o5 =>
                      intro W hW;rintro _ rfl;change wpList _ _ _ _ _ _
                      have hd0:=(hW.cell (p:=ad.add (i * 2)) (by rw [add_block];exact hadw)).trans HCx.out.1
                      have hd1:=(hW.cell (p:=⟨(ad.add (i * 2)).block,(ad.add (i * 2)).off + 1,none⟩) (by rw [add_block];exact hadw)).trans HCx.out.2
                      go_wp2;exact j3 rfl rfl rfl
                    case o6 =>
                      intro W hW;rintro _ rfl;rintro _ rfl;rintro _ rfl;change wpList _ _ _ _ _ _
                      go_wp2_with fail
                      refine (J6 W.heap.size pg0 HF.out q W (qR (HPr.out.below (hW.mono hBs)) (show w.heap.size ≤ W.heap.size by have:=hW.size;omega)) ((HOq.out.below hW).more hW.size) (by rw [HCf.out];exact HGd.out i) (Nat.le_refl _) x.1 HX1.out x.2).mono ?_
                      rintro e w2 ⟨q',rfl,hm2,hcf2,hb2⟩
                      have HB2:=kp hb2;have HM2:=kp hm2;have HC2:=kp hcf2;have hsW:=hW.size;clear hb2 hm2 hcf2
                      go_wp2
                      exact jE rfl rfl rfl HB2.out ⟨q',rfl,HM2.out.less hsW,HC2.out⟩
                    case o7 =>
                      intro W hW;change wpList _ _ _ _ _ _
                      have hsW:=hW.size
                      go_must (refine j7 rfl 47 rfl _ jX ?_)
                      intro gx wx hgx hkx hbx
                      have HKx:=kp hkx;have HGx:=kp hgx;have HBx:=kp hbx
                      clear hgx hkx hbx
                      go_wp2
                      exact jE rfl rfl rfl HBx.out ⟨gx,rfl,HKx.out,by have:=HGx.out;omega⟩
                  case hend =>
                    intro W hW;rintro _ rfl;rintro _ rfl;rintro _ rfl;rintro _ rfl;rintro _ rfl;rintro _ rfl;rintro _ ⟨q1,rfl,hmi,hcf1⟩;rintro _ ⟨gD,rfl,hkD,hgD⟩
                    simp only [given,jL,List.set,List.drop]
                    have HW:=kp hW;have HMm:=kp hmi;have HCf1 : Kept (q1.cf = runTo pg0 z1 (i + 1)):=kp (by rw [hcf1,HCf.out,qZ pg0 z1 i x HX.out])
                    have HStep:=kp (show q1.cf = M.step pg0 q.cf x.1 x.2 from hcf1)
                    have H171:=kp (yT (p:=pg0) (q:=q1) (by rw [HCf1.out];exact HGd.out (i + 1)))
                    have HG1:=kp (show M.Good pg0 q1.cf by rw [HCf1.out];exact HGd.out (i + 1))
                    have HGq:=kp (show M.Good pg0 q.cf by rw [HCf.out];exact HGd.out i)
                    have hsW:=hW.size
                    have HKD:=kp hkD;have HGD:=kp hgD
                    clear hW hmi hcf1 hkD hgD
                    have HLe1:=kp HMm.out.ok.len;have HLeq:=kp HOq.out.len
                    have hq8:=vO HGq.out HOq.out
                    by_cases hlen : q1.len = q.len
                    · have hngt : ¬ q.len < q1.len:=by omega
                      have HBgS : Kept (Begun pg0 fs q1.cf ∧ ∀ f ∈ fs,f < pg0.len):=kp ⟨by
                        rw [HStep.out]
                        exact QC HF.out HLen.out HGq.out HBg.out (by rw [← HStep.out,HLe1.out,HLeq.out];exact hlen),HFl.out⟩
                      clear hlen
                      go_wp2_with (first
                        | ((with_reducible show Sn);(refine j5 rfl 47 (.tmp 21) (.tmp 161) rfl gD (pcC q1) rfl rfl _ _ HKD.out (by rw [H171.out];exact j9) (by rw [H171.out];rfl) (jM q1) ?_);intro w7 hk7 hg7 hs7'
                           have HKD7:=kp hk7;have HBr7:=kp (HW.out.grown hg7 hsW (fun k e => by cases e;exact HGD.out));have hsr7:=HBr7.out.size
                           have HM17:=kp (HMm.out.typed HKD.out hg7);have HO17:=kp HM17.out.ok
                           have HB07:=kp (HB.out.trans (HBr7.out.mono hBs));have hs07:=HB07.out.size
                           have HOq7:=kp ((HOq.out.below HBr7.out).more hsr7)
                           have HKC7:=kp (HKC.out.below HBr7.out hlC);have HKP7:=kp (HKP.out.below HBr7.out hlP)
                           have hlC7:=HKC7.out.lt;have hlP7:=HKP7.out.lt;have hlD7:=hk7.lt
                           have HNe : Kept (gC ≠ gD ∧ g1 ≠ gD):=kp ⟨by have:=HGD.out;omega,by have:=HGD.out;omega⟩
                           have HKN:=kp (HKN.out.below HBr7.out hlN);have hlN7:=HKN.out.lt
                           have HOw:=kp ((HOw.out.below HBr7.out (Nat.le_refl _)))
                           have HBo:=kp (HBo.out.trans (HBr7.out.mono hso))
                           have hcD:=qB HKD7.out;have hcC:=qB HKC7.out
                           have hnk:=HKN.out.cell 1
                           simp only [ndC,List.getElem?_cons_zero,List.getElem?_cons_succ] at hnk
                           have HKCx:=HKC7;have HMx:=HM17;have HKDx:=HKD7
                           clear hk7 hg7 hs7')
                        | ((with_reducible show Sl 174);go_must (refine j6 rfl 47 (.tmp 21) rfl gD rfl _ (pcC q1) _ HKDx.out Tryd.underlying47 rfl (by rw [H171.out];exact j9) ?_))
                        | ((with_reducible show Sn);(refine j5 rfl 47 (.tmp 11) (.tmp 174) rfl gC (pcC q1) rfl rfl _ _ HKCx.out (by rw [H171.out];exact j9) (by rw [H171.out,H17.out]) (jM q1) ?_);intro wz2 hkz hgz hsz
                           have HKZ:=kp hkz;have HMz:=kp (HMx.out.typed HKCx.out hgz);have HBz2:=kp (HBo.out.grown hgz HBo.out.size (fun k e => by cases e;exact HGe.out))
                           have HOz:=kp (HOw.out.far hgz (.inr (y1 HOw.out HKCx.out (by decide))))
                           clear hkz hgz hsz))

                      go_roundw
                      case rel => exact ⟨i + 1,q1,fs,by omega,by go_num,HOz.out,HMz.out.less (by have:=hso;omega),HCf1.out,HBgS.out,HKZ.out,HBz2.out⟩
                      case measure => simp [intOf];omega
                    · obtain ⟨a,hya,hbg,hl1⟩:=QD HF.out HLen.out HGq.out HBg.out (t:=x.1) (way:=x.2) (by rw [← HStep.out,HLe1.out,HLeq.out];exact hlen)
                      have hlen1 : q1.len = q.len + 1:=by rw [← HLe1.out,HStep.out,hl1,HLeq.out]
                      have hgtN : q.len < q1.len:=by omega
                      have HYa : Kept (y.arg = (a : Int)):=kp (by rw [← HYv.out];exact hya)
                      have HBgS : Kept (Begun pg0 (fs ++ [a]) q1.cf ∧ ∀ f ∈ fs ++ [a],f < pg0.len):=kp ⟨by rw [HStep.out];exact hbg,Y5 HF.out HLen.out (by rw [HStep.out];exact M.good_step HF.out HLen.out HGq.out x.1 x.2) (show Begun pg0 (fs ++ [a]) q1.cf by rw [HStep.out];exact hbg) HFl.out (Y4 HF.out HLen.out HGq.out (by rw [← HStep.out,HLe1.out,HLeq.out];exact hlen) hya)⟩
                      have hfl : (fs.map natV).length ≤ 8:=by rw [List.length_map,HBg.out.1,HLeq.out];omega
                      clear hlen hbg hl1 hlen1 hya
                      go_wp2_with (first
                        | ((with_reducible show Sn);(refine j5 rfl 47 (.tmp 21) (.tmp 161) rfl gD (pcC q1) rfl rfl _ _ HKD.out (by rw [H171.out];exact j9) (by rw [H171.out];rfl) (jM q1) ?_);intro w7 hk7 hg7 hs7'
                           have HKD7:=kp hk7;have HBr7:=kp (HW.out.grown hg7 hsW (fun k e => by cases e;exact HGD.out));have hsr7:=HBr7.out.size
                           have HM17:=kp (HMm.out.typed HKD.out hg7);have HO17:=kp HM17.out.ok
                           have HB07:=kp (HB.out.trans (HBr7.out.mono hBs));have hs07:=HB07.out.size
                           have HOq7:=kp ((HOq.out.below HBr7.out).more hsr7)
                           have HKC7:=kp (HKC.out.below HBr7.out hlC);have HKP7:=kp (HKP.out.below HBr7.out hlP)
                           have hlC7:=HKC7.out.lt;have hlP7:=HKP7.out.lt;have hlD7:=hk7.lt
                           have HNe : Kept (gC ≠ gD ∧ g1 ≠ gD):=kp ⟨by have:=HGD.out;omega,by have:=HGD.out;omega⟩
                           have HKN:=kp (HKN.out.below HBr7.out hlN);have hlN7:=HKN.out.lt
                           have HOw:=kp ((HOw.out.below HBr7.out (Nat.le_refl _)))
                           have HBo:=kp (HBo.out.trans (HBr7.out.mono hso))
                           have hcD:=qB HKD7.out;have hcC:=qB HKC7.out
                           have hnk:=HKN.out.cell 1
                           simp only [ndC,List.getElem?_cons_zero,List.getElem?_cons_succ] at hnk
                           have HKCx:=HKC7;have HMx:=HM17;have HKDx:=HKD7
                           rw [HYa.out] at hnk
                           clear hk7 hg7 hs7')
                        | (at_builtin;go_must (refine jJ rfl (.tmp 169) (.tmp 172) 36 rfl w5.heap.size 3 _ _ Tryd.underlying36 lD rfl _ _ _ _ rfl HOw.out _ 1 rfl rfl rfl (by simp only [maxLen];omega) (by omega) HBo.out.size ?_);intro v1 w8 hown1 hg1
                           have HKDx:=kp (HKDx.out.grown hg1.1 (fun e => y1 HOw.out HKDx.out (by decide) e.symm));have HKCx:=kp (HKCx.out.grown hg1.1 (fun e => y1 HOw.out HKCx.out (by decide) e.symm))
                           have HMx:=kp (XK HMx.out HOw.out hg1)
                           have HBo:=kp (hg1.below HBo.out HOw.out HBo.out.size)
                           have HOw:=kp hown1
                           clear hown1 hg1)
                        | ((with_reducible show Sl 174);go_must (refine j6 rfl 47 (.tmp 21) rfl gD rfl _ (pcC q1) _ HKDx.out Tryd.underlying47 rfl (by rw [H171.out];exact j9) ?_))
                        | ((with_reducible show Sn);(refine j5 rfl 47 (.tmp 11) (.tmp 174) rfl gC (pcC q1) rfl rfl _ _ HKCx.out (by rw [H171.out];exact j9) (by rw [H171.out,H17.out]) (jM q1) ?_);intro wz2 hkz hgz hsz
                           have HKZ:=kp hkz;have HMz:=kp (HMx.out.typed HKCx.out hgz);have HBz2:=kp (HBo.out.grown hgz HBo.out.size (fun k e => by cases e;exact HGe.out))
                           have HOz:=kp (HOw.out.far hgz (.inr (y1 HOw.out HKCx.out (by decide))))
                           clear hkz hgz hsz))

                      go_roundw
                      case rel => exact ⟨i + 1,q1,(fs ++ [a]),by omega,by go_num,(by rw [List.map_append];exact HOz.out),HMz.out.less (by have:=hso;omega),HCf1.out,HBgS.out,HKZ.out,HBz2.out⟩
                      case measure => simp [intOf];omega
              · have hie : i = len1:=by omega
                have HCfE : Kept (q.cf = runTo pg0 z1 (i + 1)):=kp (by rw [HCf.out];exact LM HPi.out.1.len (by omega))
                have hgi : len1 ≤ i:=by omega
                clear hlt hie
                go_wp2
                go_roundw
                case rel => exact ⟨i + 1,q,fs,by omega,by go_num,HOw.out,HMq.out,HCfE.out,HBg2.out,HKC.out,HBo.out⟩
                case measure => simp [intOf];omega
        · have hgi : ¬ i ≤ len1:=hile
          have hgi2 : decide ((i : Int) ≤ (len1 : Int)) = false:=by simp;omega
          go_wp2
          go_ret
          exact ⟨rfl,HB.out⟩
end Go.Proofs.YtfiafbflhglpeaaDoor
