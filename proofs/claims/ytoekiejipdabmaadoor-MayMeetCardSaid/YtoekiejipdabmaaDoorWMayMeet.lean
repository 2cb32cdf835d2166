/- MayMeet, walked. -/
import Derived.Test.YtoekiejipdabmaaDoorPk2
import Derived.Test.YtoekiejipdabmaaDoorPk7
import Derived.Test.YtoekiejipdabmaaDoorMayP5
import Derived.Test.YtoekiejipdabmaaDoorPk17
import Derived.Test.YtoekiejipdabmaaDoorMustApp
import Derived.Test.YtoekiejipdabmaaDoorPk10
import Derived.Test.YtoekiejipdabmaaDoorPk1
import Derived.Test.YtoekiejipdabmaaDoorGraphP3
import Derived.Test.YtoekiejipdabmaaDoorPk12
namespace Go.Proofs.YtoekiejipdabmaaDoor
open Go.RowKit
set_option maxRecDepth 1000000 in
set_option maxHeartbeats 8000000 in
theorem walkMayMeet (pg0 : Pg) (a1 : Option Addr) (len1 cap1 : Nat) (z1 : List Sc) (a2 : Option Addr) (len2 cap2 : Nat) (z2 : List Sc) (w : World) (w0 : pg0.Ok w w.heap.size) (w1 : Secs w w.heap.size a1 len1 z1) (c1 : len1 ≤ cap1 ∧ cap1 ≤ maxLen) (w2 : Secs w w.heap.size a2 len2 z2) (c2 : len2 ≤ cap2 ∧ cap2 ≤ maxLen) (hL : Tab w) :
    Calls Tryd.prog 6 #[pgA pg0,.slice a1 len1 cap1,.slice a2 len2 cap2] w fun e w' => e = .returned (.bool true) ∧ Below w.heap.size w w':=by
  have HL1:=kp w1
  have hlc1:=c1.1;have HLm1:=kp c1.2;have hlm1:=c1.2
  unfold maxLen at hlm1
  obtain ⟨fw1,hfw1⟩ : ∃ q,few z1 = q:=⟨_,rfl⟩
  have HFw1:=kp hfw1
  clear w1 c1 hfw1
  have HL2:=kp w2
  have hlc2:=c2.1;have HLm2:=kp c2.2;have hlm2:=c2.2
  unfold maxLen at hlm2
  obtain ⟨fw2,hfw2⟩ : ∃ q,few z2 = q:=⟨_,rfl⟩
  have HFw2:=kp hfw2
  clear w2 c2 hfw2
  have HP:=kp w0;have HTab:=kp hL
  have hw01:=hL.size
  clear w0 hL
  obtain ⟨r,hr⟩ : ∃ r,Q.small pg0 = r:=⟨_,rfl⟩
  have HR:=kp hr
  clear hr
  rw [jM]
  cases r
  · go_enter Tryd.func6,Tryd.ntmps6
    go_wp2_with (first
      | ((with_reducible refine j4 rfl 24 (.tmp 0) rfl (pgC pg0) rfl ?_);intro g1 u1 hg1 hk1 hu1;have HK1:=kp hk1;have HG1:=kp hg1;have HU1:=kp hu1;have hz1:=hu1.size;clear hg1 hk1 hu1))
    refine (jP u1).mono ?_
    rintro e w1 ⟨rfl,hb1⟩
    have HW1 : Kept (Below w.heap.size w w1):=kp (HU1.out.trans (hb1.mono hz1))
    have hs1:=HW1.out.size
    have HP1:=kp (HP.out.below HW1.out)
    have HKa:=kp (HK1.out.below hb1 HK1.out.lt)
    obtain ⟨hc0,hc1,hc2,hc3⟩:=j8 HKa.out
    clear hb1
    go_wp2_with fail
    refine (l0 _ pg0 w1 HP1.out hs1 _ HR.out).mono ?_
    rintro e w2 ⟨rfl,hb2⟩
    have HW2 : Kept (Below w.heap.size w w2):=kp (HW1.out.trans (hb2.mono hs1))
    have hs2:=HW2.out.size
    have HP2:=kp (HP.out.below HW2.out)
    have HKb:=kp (HKa.out.below hb2 HKa.out.lt)
    clear hb2 hc0 hc1 hc2 hc3
    obtain ⟨hc0,hc1,hc2,hc3⟩:=j8 HKb.out
    go_wp2_with fail
    refine (jP w2).mono ?_
    rintro e w9 ⟨rfl,hb9⟩
    have HW9:=kp (HW2.out.trans (hb9.mono hs2))
    clear hb9
    go_wp2
    go_ret
    exact ⟨rfl,HW9.out⟩
  · cases fw1
    · go_enter Tryd.func6,Tryd.ntmps6
      go_wp2_with (first
        | ((with_reducible refine j4 rfl 24 (.tmp 0) rfl (pgC pg0) rfl ?_);intro g1 u1 hg1 hk1 hu1;have HK1:=kp hk1;have HG1:=kp hg1;have HU1:=kp hu1;have hz1:=hu1.size;clear hg1 hk1 hu1))
      refine (jP u1).mono ?_
      rintro e w1 ⟨rfl,hb1⟩
      have HW1 : Kept (Below w.heap.size w w1):=kp (HU1.out.trans (hb1.mono hz1))
      have hs1:=HW1.out.size
      have HP1:=kp (HP.out.below HW1.out)
      have HKa:=kp (HK1.out.below hb1 HK1.out.lt)
      obtain ⟨hc0,hc1,hc2,hc3⟩:=j8 HKa.out
      clear hb1
      go_wp2_with fail
      refine (l0 _ pg0 w1 HP1.out hs1 _ HR.out).mono ?_
      rintro e w2 ⟨rfl,hb2⟩
      have HW2 : Kept (Below w.heap.size w w2):=kp (HW1.out.trans (hb2.mono hs1))
      have hs2:=HW2.out.size
      have HP2:=kp (HP.out.below HW2.out)
      have HKb:=kp (HKa.out.below hb2 HKa.out.lt)
      clear hb2 hc0 hc1 hc2 hc3
      obtain ⟨hc0,hc1,hc2,hc3⟩:=j8 HKb.out
      go_wp2_with fail
      refine (qE w.heap.size w2 a1 len1 cap1 z1 (HL1.out.below HW2.out) hlc1 HLm1.out _ HFw1.out).mono ?_
      rintro e w9 ⟨rfl,rfl⟩
      go_wp2_with fail
      refine (jP w2).mono ?_
      rintro e w9 ⟨rfl,hb9⟩
      have HW9:=kp (HW2.out.trans (hb9.mono hs2))
      clear hb9
      go_wp2
      go_ret
      exact ⟨rfl,HW9.out⟩
    · cases fw2
      · go_enter Tryd.func6,Tryd.ntmps6
        go_wp2_with (first
          | ((with_reducible refine j4 rfl 24 (.tmp 0) rfl (pgC pg0) rfl ?_);intro g1 u1 hg1 hk1 hu1;have HK1:=kp hk1;have HG1:=kp hg1;have HU1:=kp hu1;have hz1:=hu1.size;clear hg1 hk1 hu1))
        refine (jP u1).mono ?_
        rintro e w1 ⟨rfl,hb1⟩
        have HW1 : Kept (Below w.heap.size w w1):=kp (HU1.out.trans (hb1.mono hz1))
        have hs1:=HW1.out.size
        have HP1:=kp (HP.out.below HW1.out)
        have HKa:=kp (HK1.out.below hb1 HK1.out.lt)
        obtain ⟨hc0,hc1,hc2,hc3⟩:=j8 HKa.out
        clear hb1
        go_wp2_with fail
        refine (l0 _ pg0 w1 HP1.out hs1 _ HR.out).mono ?_
        rintro e w2 ⟨rfl,hb2⟩
        have HW2 : Kept (Below w.heap.size w w2):=kp (HW1.out.trans (hb2.mono hs1))
        have hs2:=HW2.out.size
        have HP2:=kp (HP.out.below HW2.out)
        have HKb:=kp (HKa.out.below hb2 HKa.out.lt)
        clear hb2 hc0 hc1 hc2 hc3
        obtain ⟨hc0,hc1,hc2,hc3⟩:=j8 HKb.out
        go_wp2_with fail
        refine (qE w.heap.size w2 a1 len1 cap1 z1 (HL1.out.below HW2.out) hlc1 HLm1.out _ HFw1.out).mono ?_
        rintro e w9 ⟨rfl,rfl⟩
        go_wp2_with fail
        refine (qE w.heap.size w2 a2 len2 cap2 z2 (HL2.out.below HW2.out) hlc2 HLm2.out _ HFw2.out).mono ?_
        rintro e w9 ⟨rfl,rfl⟩
        go_wp2_with fail
        refine (jP w2).mono ?_
        rintro e w9 ⟨rfl,hb9⟩
        have HW9:=kp (HW2.out.trans (hb9.mono hs2))
        clear hb9
        go_wp2
        go_ret
        exact ⟨rfl,HW9.out⟩
      · go_enter Tryd.func6,Tryd.ntmps6
        go_wp2_with (first
          | ((with_reducible refine j4 rfl 24 (.tmp 0) rfl (pgC pg0) rfl ?_);intro g1 u1 hg1 hk1 hu1;have HK1:=kp hk1;have HG1:=kp hg1;have HU1:=kp hu1;have hz1:=hu1.size;clear hg1 hk1 hu1))
        refine (jP u1).mono ?_
        rintro e w1 ⟨rfl,hb1⟩
        have HW1 : Kept (Below w.heap.size w w1):=kp (HU1.out.trans (hb1.mono hz1))
        have hs1:=HW1.out.size
        have HP1:=kp (HP.out.below HW1.out)
        have HKa:=kp (HK1.out.below hb1 HK1.out.lt)
        obtain ⟨hc0,hc1,hc2,hc3⟩:=j8 HKa.out
        clear hb1
        go_wp2_with fail
        refine (l0 _ pg0 w1 HP1.out hs1 _ HR.out).mono ?_
        rintro e w2 ⟨rfl,hb2⟩
        have HW2 : Kept (Below w.heap.size w w2):=kp (HW1.out.trans (hb2.mono hs1))
        have hs2:=HW2.out.size
        have HP2:=kp (HP.out.below HW2.out)
        have HKb:=kp (HKa.out.below hb2 HKa.out.lt)
        clear hb2 hc0 hc1 hc2 hc3
        obtain ⟨hc0,hc1,hc2,hc3⟩:=j8 HKb.out
        go_wp2_with fail
        refine (qE w.heap.size w2 a1 len1 cap1 z1 (HL1.out.below HW2.out) hlc1 HLm1.out _ HFw1.out).mono ?_
        rintro e w9 ⟨rfl,rfl⟩
        go_wp2_with fail
        refine (qE w.heap.size w2 a2 len2 cap2 z2 (HL2.out.below HW2.out) hlc2 HLm2.out _ HFw2.out).mono ?_
        rintro e w9 ⟨rfl,rfl⟩
        obtain ⟨⟨ca,cb,cc⟩,hcc⟩ : ∃ x,Q.check pg0 = x:=⟨_,rfl⟩
        have HC:=kp hcc
        clear hcc
        obtain ⟨mb,hmb⟩ : ∃ mb,BeginsAre pg0 cc mb:=xR pg0 cc
        have HMb:=kp hmb
        clear hmb
        obtain ⟨⟨ra1,rb1,rd1⟩,hans1⟩ : ∃ x,Ma.ans pg0 mb z1 cc = x:=⟨_,rfl⟩
        have HAns1:=kp hans1
        clear hans1
        obtain ⟨⟨ra2,rb2,rd2⟩,hans2⟩ : ∃ x,Ma.ans pg0 mb z2 cc = x:=⟨_,rfl⟩
        have HAns2:=kp hans2
        clear hans2
        go_wp2_with fail
        refine (qA w.heap.size pg0 w2 (HP.out.below HW2.out) hs2 HR.out (HTab.out.below HW2.out hw01) ca cb cc HC.out mb HMb.out (a1) len1 cap1 z1 (HL1.out.below HW2.out) hlc1 HLm1.out (ra1,rb1,rd1) HAns1.out).mono ?_
        rintro e w3 ⟨rfl,hb3⟩
        have HW3 : Kept (Below w.heap.size w w3):=kp (HW2.out.trans (hb3.mono hs2))
        have hs3:=HW3.out.size
        have HK3:=kp (HKb.out.below hb3 HKb.out.lt)
        clear hb3 hc0 hc1 hc2 hc3
        obtain ⟨hc0,hc1,hc2,hc3⟩:=j8 HK3.out
        go_wp2_with (first
          | ((with_reducible show Sl 7);go_must (refine j7 rfl 30 rfl (ftC 0 0 0) lT ?_);intro gF w4 hg4 hk4 hb4;have HgF:=kp hg4;have HFb4:=kp hk4;have HW4:=kp (HW3.out.trans (hb4.mono hs3));have hs4:=HW4.out.size;have HK4:=kp (HK3.out.below hb4 HK3.out.lt);clear hg4 hk4 hb4 hc0 hc1 hc2 hc3)
          | ((with_reducible show Sn);go_must (refine j5 rfl 30 (.tmp 7) (.tmp 39) rfl gF (ftC ra1 rb1 (rd1 : Int)) rfl rfl _ _ HFb4.out jT rfl (l5 _ _ _) ?_);intro w5 hk5 hg5 hz5;have HFgF5:=kp hk5;have HW5:=kp (HW4.out.grown hg5 hs4 (fun k e => by cases e;have:=HgF.out;omega));have hs5:=HW5.out.size;have HK5:=kp (HK4.out.grown hg5 (fun e => by cases e;have:=HgF.out;have:=HK3.out.lt;omega));obtain ⟨hc0,hc1,hc2,hc3⟩:=j8 HK5.out;clear hk5 hg5 hz5))
        go_wp2_with fail
        refine (qA w.heap.size pg0 w5 (HP.out.below HW5.out) hs5 HR.out (HTab.out.below HW5.out hw01) ca cb cc HC.out mb HMb.out (a2) len2 cap2 z2 (HL2.out.below HW5.out) hlc2 HLm2.out (ra2,rb2,rd2) HAns2.out).mono ?_
        rintro e w6 ⟨rfl,hb6⟩
        have HW6 : Kept (Below w.heap.size w w6):=kp (HW5.out.trans (hb6.mono hs5))
        have hs6:=HW6.out.size
        have HK6:=kp (HK5.out.below hb6 HK5.out.lt)
        have HFgF6:=kp (HFgF5.out.below hb6 HFgF5.out.lt)
        clear hb6 hc0 hc1 hc2 hc3
        obtain ⟨hc0,hc1,hc2,hc3⟩:=j8 HK6.out
        have hce : ((cc : Int) == (cc : Int)) = true:=by simp
        by_cases hz : cc = 0
        rotate_left
        · have hb0 : ((cc : Int) != 0) = true:=by simp;omega
          go_wp2_with (first
            | ((with_reducible show Sl 9);go_must (refine j7 rfl 30 rfl (ftC 0 0 0) lT ?_);intro gH2 w7 hg7 hk7 hb7;have HgH2:=kp hg7;have HFb7:=kp hk7;have HW7:=kp (HW6.out.trans (hb7.mono hs6));have hs7:=HW7.out.size;have HK7:=kp (HK6.out.below hb7 HK6.out.lt);have HFgF7:=kp (HFgF6.out.below hb7 HFgF6.out.lt);clear hg7 hk7 hb7 hc0 hc1 hc2 hc3)
            | ((with_reducible show Sn);go_must (refine j5 rfl 30 (.tmp 9) (.tmp 45) rfl gH2 (ftC ra2 rb2 (rd2 : Int)) rfl rfl _ _ HFb7.out jT rfl (l5 _ _ _) ?_);intro w8 hk8 hg8 hz8;have HFgH28:=kp hk8;have HW8:=kp (HW7.out.grown hg8 hs7 (fun k e => by cases e;have:=HgH2.out;omega));have hs8:=HW8.out.size;have HK8:=kp (HK7.out.grown hg8 (fun e => by cases e;have:=HgH2.out;have:=HK6.out.lt;omega));have HFgF8:=kp (HFgF7.out.grown hg8 (fun e => by cases e;have:=HgH2.out;have:=HFgF6.out.lt;omega));obtain ⟨hc0,hc1,hc2,hc3⟩:=j8 HK8.out;obtain ⟨hfa0,hfa1,hfa2⟩:=l2 HFgF8.out;obtain ⟨hfb0,hfb1,hfb2⟩:=l2 HFgH28.out;clear hk8 hg8 hz8))
          go_ret
          exact ⟨rfl,HW8.out⟩
        have hb0 : ((cc : Int) != 0) = false:=by rw [hz];rfl
        by_cases hr1 : rd1 = 0
        rotate_left
        · have hb1 : ((rd1 : Int) != 0) = true:=by simp;omega
          go_wp2_with (first
            | ((with_reducible show Sl 9);go_must (refine j7 rfl 30 rfl (ftC 0 0 0) lT ?_);intro gH2 w7 hg7 hk7 hb7;have HgH2:=kp hg7;have HFb7:=kp hk7;have HW7:=kp (HW6.out.trans (hb7.mono hs6));have hs7:=HW7.out.size;have HK7:=kp (HK6.out.below hb7 HK6.out.lt);have HFgF7:=kp (HFgF6.out.below hb7 HFgF6.out.lt);clear hg7 hk7 hb7 hc0 hc1 hc2 hc3)
            | ((with_reducible show Sn);go_must (refine j5 rfl 30 (.tmp 9) (.tmp 45) rfl gH2 (ftC ra2 rb2 (rd2 : Int)) rfl rfl _ _ HFb7.out jT rfl (l5 _ _ _) ?_);intro w8 hk8 hg8 hz8;have HFgH28:=kp hk8;have HW8:=kp (HW7.out.grown hg8 hs7 (fun k e => by cases e;have:=HgH2.out;omega));have hs8:=HW8.out.size;have HK8:=kp (HK7.out.grown hg8 (fun e => by cases e;have:=HgH2.out;have:=HK6.out.lt;omega));have HFgF8:=kp (HFgF7.out.grown hg8 (fun e => by cases e;have:=HgH2.out;have:=HFgF6.out.lt;omega));obtain ⟨hc0,hc1,hc2,hc3⟩:=j8 HK8.out;obtain ⟨hfa0,hfa1,hfa2⟩:=l2 HFgF8.out;obtain ⟨hfb0,hfb1,hfb2⟩:=l2 HFgH28.out;clear hk8 hg8 hz8))
          go_ret
          exact ⟨rfl,HW8.out⟩
        have hb1 : ((rd1 : Int) != 0) = false:=by rw [hr1];rfl
        by_cases hr2 : rd2 = 0
        rotate_left
        · have hb2 : ((rd2 : Int) != 0) = true:=by simp;omega
          go_wp2_with (first
            | ((with_reducible show Sl 9);go_must (refine j7 rfl 30 rfl (ftC 0 0 0) lT ?_);intro gH2 w7 hg7 hk7 hb7;have HgH2:=kp hg7;have HFb7:=kp hk7;have HW7:=kp (HW6.out.trans (hb7.mono hs6));have hs7:=HW7.out.size;have HK7:=kp (HK6.out.below hb7 HK6.out.lt);have HFgF7:=kp (HFgF6.out.below hb7 HFgF6.out.lt);clear hg7 hk7 hb7 hc0 hc1 hc2 hc3)
            | ((with_reducible show Sn);go_must (refine j5 rfl 30 (.tmp 9) (.tmp 45) rfl gH2 (ftC ra2 rb2 (rd2 : Int)) rfl rfl _ _ HFb7.out jT rfl (l5 _ _ _) ?_);intro w8 hk8 hg8 hz8;have HFgH28:=kp hk8;have HW8:=kp (HW7.out.grown hg8 hs7 (fun k e => by cases e;have:=HgH2.out;omega));have hs8:=HW8.out.size;have HK8:=kp (HK7.out.grown hg8 (fun e => by cases e;have:=HgH2.out;have:=HK6.out.lt;omega));have HFgF8:=kp (HFgF7.out.grown hg8 (fun e => by cases e;have:=HgH2.out;have:=HFgF6.out.lt;omega));obtain ⟨hc0,hc1,hc2,hc3⟩:=j8 HK8.out;obtain ⟨hfa0,hfa1,hfa2⟩:=l2 HFgF8.out;obtain ⟨hfb0,hfb1,hfb2⟩:=l2 HFgH28.out;clear hk8 hg8 hz8))
          go_ret
          exact ⟨rfl,HW8.out⟩
        have hb2 : ((rd2 : Int) != 0) = false:=by rw [hr2];rfl
        have HF:=kp (qZ (p:=pg0) (a:=ca) (b:=cb) (by rw [HC.out,hz]))
        have HLen:=kp HP.out.row.len
        have HCz:=kp hz
        have HCh1 : Kept ((Ma.check pg0 mb z1).2.2 = 0):=kp (by
          have h1:=HAns1.out
          unfold Ma.ans at h1
          rw [if_pos hz] at h1
          rw [h1];exact hr1)
        have HCh2 : Kept ((Ma.check pg0 mb z2).2.2 = 0):=kp (by
          have h1:=HAns2.out
          unfold Ma.ans at h1
          rw [if_pos hz] at h1
          rw [h1];exact hr2)
        have HSh1:=kp (Ma.check_fine HCh1.out).1
        have HSh2:=kp (Ma.check_fine HCh2.out).1
        have HFw:=kp (vU.1 HFw1.out)
        have hpl1 : len1 = pg0.len:=by rw [← HL1.out.len_];exact (Mu.shaped_iff.1 HSh1.out).1
        subst hpl1
        have hpl2 : len2 = pg0.len:=by rw [← HL2.out.len_];exact (Mu.shaped_iff.1 HSh2.out).1
        subst hpl2
        have hl0 : 0 < pg0.len:=by have h1:=HF.out.counts.f;have h2:=HLen.out;omega
        have hl16 : pg0.len ≤ 16:=by have h1:=HF.out.counts.f;have h2:=HLen.out;omega
        obtain ⟨adA,_,eL,hbA,hj1,hj2,hj3,hj4,hj5,hj6⟩:=HL1.out.get hl0
        subst eL
        obtain ⟨adB,_,eL,hbB,hk1,hk2,hk3,hk4,hk5,hk6⟩:=HL2.out.get hl0
        subst eL
        clear hj1 hj2 hj3 hj4 hj5 hj6 hk1 hk2 hk3 hk4 hk5 hk6 hz hr1 hr2
        go_wp2_with (first
          | ((with_reducible show Sl 9);go_must (refine j7 rfl 30 rfl (ftC 0 0 0) lT ?_);intro gH2 w7 hg7 hk7 hb7;have HgH2:=kp hg7;have HFb7:=kp hk7;have HW7:=kp (HW6.out.trans (hb7.mono hs6));have hs7:=HW7.out.size;have HK7:=kp (HK6.out.below hb7 HK6.out.lt);have HFgF7:=kp (HFgF6.out.below hb7 HFgF6.out.lt);clear hg7 hk7 hb7 hc0 hc1 hc2 hc3)
          | ((with_reducible show Sn);go_must (refine j5 rfl 30 (.tmp 9) (.tmp 45) rfl gH2 (ftC ra2 rb2 (rd2 : Int)) rfl rfl _ _ HFb7.out jT rfl (l5 _ _ _) ?_);intro w8 hk8 hg8 hz8;have HFgH28:=kp hk8;have HW8:=kp (HW7.out.grown hg8 hs7 (fun k e => by cases e;have:=HgH2.out;omega));have hs8:=HW8.out.size;have HK8:=kp (HK7.out.grown hg8 (fun e => by cases e;have:=HgH2.out;have:=HK6.out.lt;omega));have HFgF8:=kp (HFgF7.out.grown hg8 (fun e => by cases e;have:=HgH2.out;have:=HFgF6.out.lt;omega));obtain ⟨hc0,hc1,hc2,hc3⟩:=j8 HK8.out;have hlk8:=HK8.out.lt;obtain ⟨hfa0,hfa1,hfa2⟩:=l2 HFgF8.out;obtain ⟨hfb0,hfb1,hfb2⟩:=l2 HFgH28.out;clear hk8 hg8 hz8))
        clear hc0 hc1 hc2 hc3 hfa0 hfa1 hfa2 hfb0 hfb1 hfb2
        have hz0 : (0 : Nat) < 4294967296:=by decide
        go_loopw [11,12] (fun v11 v12 wr => ∃ (f : Nat) (ls : List Sc),f ≤ pg0.len ∧ v12 = .int .i64 f ∧ SecRow wr w8.heap.size v11 ls ∧ ls.length = f ∧ (∀ (i : Nat) (x : Sc),ls[i]? = some x → Ma.IsM (Mu.sec z1 i) (Mu.sec z2 i) x) ∧ Below w8.heap.size w8 wr) (fun _ v12 _ => pg0.len - (intOf v12).toNat)
        case atStart => exact ⟨0,[],by omega,rfl,SecRow.nil _ _,rfl,fun i x hx => by simp at hx,Below.refl _ _⟩
        case round =>
          obtain ⟨f,ls,hf,rfl,hrow,hll,hall,hbr⟩:=hrel
          have HRow:=kp hrow;have HLl:=kp hll;have HAll:=kp hall;have HBr:=kp hbr
          have hsr:=hbr.size
          have HS8r:=kp hbr.size
          have HW:=kp (HW8.out.trans (hbr.mono hs8));have hsW:=HW.out.size
          have HKr:=kp (HK8.out.below hbr hlk8);have hlkr:=HKr.out.lt
          have hls40 : ls.length ≤ 40:=by rw [HLl.out];omega
          clear hrow hll hall hbr
          by_cases hlt : f < pg0.len
          · obtain ⟨adA',xa,eA',_,hza,hxa,hA0,hA1,hA2,hA3,hA4,hA5⟩:=HL1.out.getA hlt
            obtain rfl : adA = adA':=Option.some.inj eA'
            obtain ⟨adB',xb,eB',_,hzb,hxb,hB0,hB1,hB2,hB3,hB4,hB5⟩:=HL2.out.getA hlt
            obtain rfl : adB = adB':=Option.some.inj eB'
            have HA2:=kp hA2;have HA3:=kp hA3;have HA4:=kp hA4;have HA5:=kp hA5
            have HB3:=kp hB3;have HB4:=kp hB4;have HB5:=kp hB5
            have HXa:=kp hxa;have HXb:=kp hxb;have HZa:=kp hza;have HZb:=kp hzb
            obtain ⟨fx,hfx⟩ : ∃ fx,pg0.fns[f]? = some fx:=⟨_,List.getElem?_eq_getElem (by rw [HLen.out];exact hlt)⟩
            have HHl : Kept (xb.live.len = xa.live.len):=kp (by
              have h1:=(Mu.shaped_iff.1 HSh1.out).2 f hlt
              have h2:=(Mu.shaped_iff.1 HSh2.out).2 f hlt
              rw [q9 hza hfx,Bool.and_eq_true,decide_eq_true_eq,decide_eq_true_eq] at h1
              rw [q9 hzb hfx,Bool.and_eq_true,decide_eq_true_eq,decide_eq_true_eq] at h2
              rw [h1.2,h2.2])
            have hx100:=HFw.out.2 xa (List.mem_of_getElem? hza)
            have hac:=hxa.live.lc;have ham:=hxa.live.cm;have hbc:=hxb.live.lc;have hbm:=hxb.live.cm
            have hvc:=hxa.held.lc;have hvm:=hxa.held.cm
            unfold maxLen at ham hbm hvm
            have HOr1 : Kept (bits .and .u32 (xa.le : Int) (xb.le : Int) = ((xa.le &&& xb.le : Nat) : Int)):=kp (u32_and_nat _ _ hxa.le hxb.le)
            have HOr2 : Kept (bits .and .u32 (xa.lx : Int) (xb.lx : Int) = ((xa.lx &&& xb.lx : Nat) : Int)):=kp (u32_and_nat _ _ hxa.lx hxb.lx)
            have HOrB1 : Kept (xa.le &&& xb.le < 4294967296):=kp (Nat.lt_of_le_of_lt Nat.and_le_left hxa.le)
            have HOrB2 : Kept (xa.lx &&& xb.lx < 4294967296):=kp (Nat.lt_of_le_of_lt Nat.and_le_left hxa.lx)
            have hfi : (f : Int) < (pg0.len : Int):=by omega
            clear eA' eB' hza hzb hxa hxb hA0 hA1 hA2 hA3 hA4 hA5 hB0 hB1 hB2 hB3 hB4 hB5 hfx
            go_wp2
            apply jJ 31 (.is _ :: .is _ :: .is _ :: .is _ :: .is (.int .u32 (xa.le : Int)) :: .is _ :: .is _ :: .is _ :: .is _ :: .is (.int .u32 (xb.le : Int)) :: .is (.int .u32 ((xa.le &&& xb.le : Nat) : Int)) :: .is _ :: .is _ :: .is _ :: .is _ :: .is (.int .u32 (xa.lx : Int)) :: .is _ :: .is _ :: .is _ :: .is _ :: .is (.int .u32 (xb.lx : Int)) :: .is (.int .u32 ((xa.lx &&& xb.lx : Nat) : Int)) :: (.nilw w8.heap.size) :: .is _ :: .is _ :: .is _ :: .is _ :: .is (.slice xa.held.A xa.held.len xa.held.cap) :: (.wset w8.heap.size xa.held.z xa.held.len) :: (.msec16 w8.heap.size (xa.le &&& xb.le) (xa.lx &&& xb.lx) xa.held.len) :: (.secNew wr.heap.size) :: [])
              [[],[],[(0,65),(1,66)],[(2,67)],[(3,68)],[],[],[(5,70),(6,71)],[(7,72)],[(8,73)],[(4,69),(9,74)],[],[],[(11,76),(12,77)],[(13,78)],[(14,79)],[],[],[(16,81),(17,82)],[(18,83)],[(19,84)],[(15,80),(20,85)],[],[],[],[(23,88),(24,89)],[(25,90)],[(26,91)],[(22,87),(27,92)],[(10,75),(21,86),(28,93)],[],[(30,13),(29,94)]]
              [(0,65),(1,66),(2,67),(3,68),(4,69),(5,70),(6,71),(7,72),(8,73),(9,74),(10,75),(11,76),(12,77),(13,78),(14,79),(15,80),(16,81),(17,82),(18,83),(19,84),(20,85),(21,86),(22,87),(23,88),(24,89),(25,90),(26,91),(27,92),(28,93),(29,94),(30,13)] (by kernel_rfl) (by kernel_rfl) (by kernel_rfl) (by kernel_rfl) (by kernel_rfl)
            case hob =>
              refine ⟨?o0,?o1,?o2,?o3,?o4,?o5,?o6,?o7,?o8,?o9,?o10,?o11,?o12,?o13,?o14,?o15,?o16,?o17,?o18,?o19,?o20,?o21,?o22,?o23,?o24,?o25,?o26,?o27,?o28,?o29,?o30,trivial⟩
              case o0 => intro W hW;change wpList _ _ _ _ _ _;go_wp2;exact j3 rfl rfl rfl
              case o1 => intro W hW;change wpList _ _ _ _ _ _;go_wp2;exact j3 rfl rfl rfl
              case o2 => intro W hW;rintro _ rfl;rintro _ rfl;change wpList _ _ _ _ _ _;go_wp2;exact j3 rfl rfl rfl
              case o3 => intro W hW;rintro _ rfl;change wpList _ _ _ _ _ _;go_wp2;exact j3 rfl rfl rfl
              case o4 =>
                intro W hW;rintro _ rfl;change wpList _ _ _ _ _ _
                have hWw : Below w.heap.size w W:=HW.out.trans (hW.mono hsW)
                have hq:=(hWw.cell (p:=⟨(adA.add (f * 6)).block,(adA.add (f * 6)).off + 3,none⟩) (by show (adA.add (f * 6)).block < _;rw [add_block];omega)).trans HA3.out
                go_wp2;exact j3 rfl rfl rfl
              case o5 => intro W hW;change wpList _ _ _ _ _ _;go_wp2;exact j3 rfl rfl rfl
              case o6 => intro W hW;change wpList _ _ _ _ _ _;go_wp2;exact j3 rfl rfl rfl
              case o7 => intro W hW;rintro _ rfl;rintro _ rfl;change wpList _ _ _ _ _ _;go_wp2;exact j3 rfl rfl rfl
              case o8 => intro W hW;rintro _ rfl;change wpList _ _ _ _ _ _;go_wp2;exact j3 rfl rfl rfl
              case o9 =>
                intro W hW;rintro _ rfl;change wpList _ _ _ _ _ _
                have hWw : Below w.heap.size w W:=HW.out.trans (hW.mono hsW)
                have hq:=(hWw.cell (p:=⟨(adB.add (f * 6)).block,(adB.add (f * 6)).off + 3,none⟩) (by show (adB.add (f * 6)).block < _;rw [add_block];omega)).trans HB3.out
                go_wp2;exact j3 rfl rfl rfl
              case o10 =>
                intro W hW;rintro _ rfl;rintro _ rfl;change wpList _ _ _ _ _ _
                have hor:=HOr1.out
                go_wp2;exact j3 rfl rfl rfl
              case o11 => intro W hW;change wpList _ _ _ _ _ _;go_wp2;exact j3 rfl rfl rfl
              case o12 => intro W hW;change wpList _ _ _ _ _ _;go_wp2;exact j3 rfl rfl rfl
              case o13 => intro W hW;rintro _ rfl;rintro _ rfl;change wpList _ _ _ _ _ _;go_wp2;exact j3 rfl rfl rfl
              case o14 => intro W hW;rintro _ rfl;change wpList _ _ _ _ _ _;go_wp2;exact j3 rfl rfl rfl
              case o15 =>
                intro W hW;rintro _ rfl;change wpList _ _ _ _ _ _
                have hWw : Below w.heap.size w W:=HW.out.trans (hW.mono hsW)
                have hq:=(hWw.cell (p:=⟨(adA.add (f * 6)).block,(adA.add (f * 6)).off + 4,none⟩) (by show (adA.add (f * 6)).block < _;rw [add_block];omega)).trans HA4.out
                go_wp2;exact j3 rfl rfl rfl
              case o16 => intro W hW;change wpList _ _ _ _ _ _;go_wp2;exact j3 rfl rfl rfl
              case o17 => intro W hW;change wpList _ _ _ _ _ _;go_wp2;exact j3 rfl rfl rfl
              case o18 => intro W hW;rintro _ rfl;rintro _ rfl;change wpList _ _ _ _ _ _;go_wp2;exact j3 rfl rfl rfl
              case o19 => intro W hW;rintro _ rfl;change wpList _ _ _ _ _ _;go_wp2;exact j3 rfl rfl rfl
              case o20 =>
                intro W hW;rintro _ rfl;change wpList _ _ _ _ _ _
                have hWw : Below w.heap.size w W:=HW.out.trans (hW.mono hsW)
                have hq:=(hWw.cell (p:=⟨(adB.add (f * 6)).block,(adB.add (f * 6)).off + 4,none⟩) (by show (adB.add (f * 6)).block < _;rw [add_block];omega)).trans HB4.out
                go_wp2;exact j3 rfl rfl rfl
              case o21 =>
                intro W hW;rintro _ rfl;rintro _ rfl;change wpList _ _ _ _ _ _
                have hor:=HOr2.out
                go_wp2;exact j3 rfl rfl rfl
              case o22 =>
                intro W hW;change wpList _ _ _ _ _ _
                have hsZ:=hW.size
                have HS8:=HS8r
                have HBa:=kp ((Below.refl W.heap.size W).alloc (Nat.le_refl _) (.cells #[] 53))
                have HO:=kp (YB W w8.heap.size (by have:=HS8.out;omega))
                go_wp2
                exact jE rfl rfl rfl HBa.out ⟨_,rfl,HO.out⟩
              case o23 => intro W hW;change wpList _ _ _ _ _ _;go_wp2;exact j3 rfl rfl rfl
              case o24 => intro W hW;change wpList _ _ _ _ _ _;go_wp2;exact j3 rfl rfl rfl
              case o25 => intro W hW;rintro _ rfl;rintro _ rfl;change wpList _ _ _ _ _ _;go_wp2;exact j3 rfl rfl rfl
              case o26 => intro W hW;rintro _ rfl;change wpList _ _ _ _ _ _;go_wp2;exact j3 rfl rfl rfl
              case o27 =>
                intro W hW;rintro _ rfl;change wpList _ _ _ _ _ _
                have hWw : Below w.heap.size w W:=HW.out.trans (hW.mono hsW)
                have hq:=(hWw.cell (p:=⟨(adA.add (f * 6)).block,(adA.add (f * 6)).off + 2,none⟩) (by show (adA.add (f * 6)).block < _;rw [add_block];omega)).trans HA2.out
                go_wp2;exact j3 rfl rfl rfl
              case o28 =>
                intro W hW;intro v22 hv22;rintro _ rfl;change wpList _ _ _ _ _ _
                obtain ⟨gz,rfl,ho⟩:=hv22
                have hWw : Below w.heap.size w W:=HW.out.trans (hW.mono hsW)
                have hsZ:=hW.size
                have HS8:=HS8r
                have HO:=kp ho
                have HRow:=kp ((HXa.out.held.below hWw).row.rows15)
                clear ho
                go_wp2_with (at_builtin;go_must (refine lE rfl (.tmp 87) (.tmp 92) 54 rfl w8.heap.size 53 _ _ Tryd.underlying54 lV rfl W _ [] rfl HO.out (fun g n cap e => by injection e with _ e1 e2;omega) xa.held.A xa.held.len xa.held.cap w.heap.size (xa.held.z.map wordV) rfl HRow.out LD (by show 0 + xa.held.len ≤ _;unfold maxLen;omega) (by show (0 + xa.held.len) * 4 ≤ _;omega) (by have:=HS8.out;omega) ?_);intro v9 w9 ho9 hb9;have HO9:=kp ho9;have HB9:=kp hb9;clear ho9 hb9)
                exact jE rfl rfl rfl HB9.out (yZ (by simpa using HO9.out) HXa.out.held.u32 HXa.out.held.row.len)
              case o29 =>
                intro W hW;rintro _ rfl;rintro _ rfl;intro v28 hv28;change wpList _ _ _ _ _ _
                obtain ⟨xl,rfl,hz,hl,ho⟩:=hv28
                have HZ:=kp (And.intro hz hl);have HO:=kp ho
                clear hz hl ho
                rw [show xl.v = .slice xl.A xl.len xl.cap from rfl]
                go_wp2
                exact jE rfl rfl rfl (Below.refl _ _) ⟨⟨0,0,xl,xa.le &&& xb.le,xa.lx &&& xb.lx,default⟩,rfl,rfl,rfl,rfl,HZ.out.2,⟨hz0,hz0,HO.out,HOrB1.out,HOrB2.out,y9 _ _⟩⟩
              case o30 =>
                intro W hW;change wpList _ _ _ _ _ _
                have hsZ:=hW.size
                go_must (refine j7 rfl 56 rfl (scC default) XE ?_)
                intro gx wx hgx hkx hbx
                have HKx:=kp hkx;have HGx:=kp hgx;have HBx:=kp hbx
                clear hgx hkx hbx
                go_wp2
                exact jE rfl rfl rfl HBx.out ⟨gx,rfl,HKx.out,by have:=HGx.out;omega⟩
            case hend =>
              intro W hW;rintro _ rfl;rintro _ rfl;rintro _ rfl;rintro _ rfl;rintro _ rfl;rintro _ rfl;rintro _ rfl;rintro _ rfl;rintro _ rfl;rintro _ rfl;rintro _ rfl;rintro _ rfl;rintro _ rfl;rintro _ rfl;rintro _ rfl;rintro _ rfl;rintro _ rfl;rintro _ rfl;rintro _ rfl;rintro _ rfl;rintro _ rfl;rintro _ rfl;intro v22 _;rintro _ rfl;rintro _ rfl;rintro _ rfl;rintro _ rfl;rintro _ rfl;intro v28 _;rintro _ ⟨xs,rfl,hxe,hxx,hxh,hxl,hxo⟩;rintro _ ⟨gS,rfl,hkS,hgS⟩
              simp only [given,jI,List.set,List.drop]
              have HKS:=kp hkS;have HGS:=kp hgS;have HXs:=kp hxo;have HXe:=kp (And.intro hxe (And.intro hxx (And.intro hxh hxl)))
              have HBW:=kp (HBr.out.trans (hW.mono hsr));have hsW8:=HBW.out.size
              have HRowW:=kp (HRow.out.below hW (Nat.le_refl _))
              have HKPw:=kp (HKr.out.below hW hlkr)
              have HWW:=kp (HW.out.trans (hW.mono hsW))
              have HBn:=kp hW
              clear hW hkS hgS hxo hxe hxx hxh hxl
              go_wp2_with (first
                | ((with_reducible show Sn);(refine j5 rfl 56 (.tmp 13) (.tmp 94) rfl gS (scC xs) rfl rfl _ _ HKS.out zC rfl (XF xs) ?_);intro w9 hk9 hg9 hz9;have HK9:=kp hk9;have HX9:=kp (HXs.out.typed15 HKS.out hg9);have HBn9:=kp (HBn.out.grown hg9 HBn.out.size (fun k e => by cases e;exact HGS.out));clear hk9 hg9 hz9))
              have HB9:=kp (HBr.out.trans (HBn9.out.mono hsr));have hs9:=HB9.out.size
              have HRow9:=kp (HRow.out.below HBn9.out (Nat.le_refl _))
              have HW9:=kp (HW.out.trans (HBn9.out.mono hsW))
              have HGS9 : Kept (w8.heap.size ≤ gS ∧ gS < w9.heap.size ∧ wr.heap.size ≤ gS):=kp (by have:=HGS.out;have:=HK9.out.lt;omega)
              have HKP9:=kp (HKr.out.below HBn9.out hlkr)
              have hlP9:=HKP9.out.lt
              have HRowN : Kept (u11.ownBlock = none ∨ u11.ownBlock ≠ some gS):=kp (by
                cases e : u11.ownBlock with
                | none => exact .inl rfl
                | some k =>
                  right
                  have h1:=(HRow.out.row.block k e).2
                  have h2:=HGS9.out
                  intro e2;cases e2;omega)
              clear HBW HRowW HKPw HWW HBn HBn9 HXs HKS HGS hsW8
              go_wp2
              go_loopw [14] (fun v14 wi => ∃ (i : Nat) (hw : Ws),i ≤ xa.live.len ∧ v14 = .int .i64 i ∧ WsOwn wi w9.heap.size hw ∧ hw.len = i ∧ (∀ k,hw.z.getD k 0 = if k < i then xa.live.z.getD k 0 &&& xb.live.z.getD k 0 else 0) ∧ Blk wi gS 56 (scC ⟨xs.en,xs.ex,xs.held,xs.le,xs.lx,hw⟩) ∧ w9.grownBy wi (some gS)) (fun v14 _ => xa.live.len - (intOf v14).toNat)
              case atStart => exact ⟨0,default,by omega,rfl,y9 _ _,rfl,fun k => rfl,(by have h1:=HK9.out;rw [sc_eta16 HXe.out.2.2.1] at h1;exact h1),jS _ _⟩
              case round =>
                obtain ⟨i,hw,hi,rfl,hown,hhl,hval,hks,hgr⟩:=hrel
                obtain ⟨wi,hwi⟩ : ∃ x,x = wr:=⟨_,rfl⟩
                rw [← hwi] at hown hks hgr ⊢
                clear hwi
                have HOwn0:=kp hown;have HVal:=kp hval;have HKi0:=kp hks;have HGi:=kp hgr
                have hsi:=hgr.size
                have HS9i : Kept (w9.heap.size ≤ wi.heap.size):=kp hsi
                have HB9i:=kp (Below.grown HB9.out hgr hs9 (fun k e => by cases e;exact HGS9.out.1))
                have HWi:=kp (HW8.out.trans (HB9i.out.mono hs8));have hsWi:=HWi.out.size
                have hqA2:=(HWi.out.cell (p:=⟨(adA.add (f * 6)).block,(adA.add (f * 6)).off + 5,none⟩) (by show (adA.add (f * 6)).block < _;rw [add_block];omega)).trans HA5.out;have hqB2:=(HWi.out.cell (p:=⟨(adB.add (f * 6)).block,(adB.add (f * 6)).off + 5,none⟩) (by show (adB.add (f * 6)).block < _;rw [add_block];omega)).trans HB5.out
                clear hown hval hks hgr
                by_cases hlt : i < xa.live.len
                · obtain ⟨adAh,eA,hbAh,hjA,hea,hcA⟩:=HXa.out.live.get hlt
                  obtain ⟨adBh,eB,hbBh,hjB,heb,hcB⟩:=HXb.out.live.get (k:=i) (by rw [HHl.out];exact hlt)
                  have HEA:=kp eA;have HEB:=kp eB
                  obtain ⟨ea,hea'⟩ : ∃ q,xa.live.z.getD i 0 = q:=⟨_,rfl⟩
                  obtain ⟨eb,heb'⟩ : ∃ q,xb.live.z.getD i 0 = q:=⟨_,rfl⟩
                  rw [hea'] at hea hcA
                  rw [heb'] at heb hcB
                  have HEa:=kp hcA;have HEb:=kp hcB
                  have HOr3 : Kept (bits .and .u32 (ea : Int) (eb : Int) = ((ea &&& eb : Nat) : Int)):=kp (u32_and_nat ea eb hea heb)
                  obtain ⟨hA,hln,hcap,hz⟩:=hw
                  obtain rfl : hln = i:=hhl
                  have HOwn:=HOwn0;have HKi:=HKi0
                  have HLz : Kept (hz.length = hln):=kp HOwn0.out.len
                  have HU32 : Kept (∀ y ∈ hz ++ [ea &&& eb],y < 4294967296):=kp (fun y hy => by
                    rcases List.mem_append.1 hy with hy | hy
                    · exact HOwn0.out.u32 y hy
                    · rw [List.mem_singleton.1 hy];exact Nat.lt_of_le_of_lt Nat.and_le_left hea)
                  have HNext : Kept (∀ k,(hz ++ [ea &&& eb]).getD k 0 = if k < hln + 1 then xa.live.z.getD k 0 &&& xb.live.z.getD k 0 else 0):=kp (fun k => by
                    have h1 : hz.getD k 0 = if k < hln then xa.live.z.getD k 0 &&& xb.live.z.getD k 0 else 0:=HVal.out k
                    rw [List.getD_eq_getElem?_getD] at h1 ⊢
                    rcases Nat.lt_trichotomy k hln with h2 | h2 | h2
                    · rw [List.getElem?_append_left (by rw [HLz.out];exact h2),h1,if_pos h2,if_pos (by omega)]
                    · subst h2
                      rw [List.getElem?_append_right (by rw [HLz.out];exact Nat.le_refl _),HLz.out,Nat.sub_self,if_pos (by omega),hea',heb'];rfl
                    · rw [List.getElem?_append_right (by rw [HLz.out];omega),HLz.out,if_neg (by omega),List.getElem?_eq_none (by simp;omega)];rfl)
                  have hia : (hln : Int) < (xa.live.len : Int):=by omega
                  have hib : (hln : Int) < (xb.live.len : Int):=by rw [HHl.out];omega
                  have hl100 : hln ≤ 100:=by omega
                  clear hjA hjB hea' heb' hcA hcB eA eB
                  have hfor:=HOwn.out.own.2
                  rcases hA with _ | aH
                  · have HFullV : Kept (∀ g n cap,(⟨none,hln,hcap,hz⟩ : Ws).v = .slice (some ⟨g,0,none⟩) n cap → cap = n):=kp (fun g n cap e => by cases e)
                    clear hfor
                    go_wp2
                    clear hqA2 hqB2
                    apply jJ 22 (.is _ :: .is (.slice none hln hcap) :: .is _ :: .is _ :: .is _ :: .is _ :: .is (.slice (some adAh) xa.live.len xa.live.cap) :: .is _ :: .is _ :: .is (.int .u32 (ea : Int)) :: .is _ :: .is _ :: .is _ :: .is _ :: .is (.slice (some adBh) xb.live.len xb.live.cap) :: .is _ :: .is _ :: .is (.int .u32 (eb : Int)) :: .is (.int .u32 ((ea &&& eb : Nat) : Int)) :: Fact.elem15 53 [wordV (ea &&& eb)] :: (.wset w9.heap.size (hz ++ [ea &&& eb]) (hln + 1)) :: .is _ :: [])
                      [[],[(0,105)],[],[],[(2,107),(3,108)],[(4,109)],[(5,110)],[],[(6,111),(7,112)],[(8,113)],[],[],[(10,115),(11,116)],[(12,117)],[(13,118)],[],[(14,119),(15,120)],[(16,121)],[(9,114),(17,122)],[(18,123)],[(1,106),(19,124)],[],[(21,126),(20,125)]]
                      [(0,105),(1,106),(2,107),(3,108),(4,109),(5,110),(6,111),(7,112),(8,113),(9,114),(10,115),(11,116),(12,117),(13,118),(14,119),(15,120),(16,121),(17,122),(18,123),(19,124),(20,125),(21,126)] (by kernel_rfl) (by kernel_rfl) (by kernel_rfl) (by kernel_rfl) (by kernel_rfl)
                    case hob =>
                      refine ⟨?o0,?o1,?o2,?o3,?o4,?o5,?o6,?o7,?o8,?o9,?o10,?o11,?o12,?o13,?o14,?o15,?o16,?o17,?o18,?o19,?o20,?o21,trivial⟩
                      case o0 => intro W hW;change wpList _ _ _ _ _ _;go_wp2;exact j3 rfl rfl rfl
                      case o1 =>
                        intro W hW;rintro _ rfl;change wpList _ _ _ _ _ _
                        have hbw : Below wi.heap.size wi W:=hW
                        have hq:=(HKi.out.below hbw HKi.out.lt).cell 5
                        simp only [scC,List.getElem?_cons_zero,List.getElem?_cons_succ] at hq
                        go_wp2;exact j3 rfl rfl rfl
                      case o2 => intro W hW;change wpList _ _ _ _ _ _;go_wp2;exact j3 rfl rfl rfl
                      case o3 => intro W hW;change wpList _ _ _ _ _ _;go_wp2;exact j3 rfl rfl rfl
                      case o4 => intro W hW;rintro _ rfl;rintro _ rfl;change wpList _ _ _ _ _ _;go_wp2;exact j3 rfl rfl rfl
                      case o5 => intro W hW;rintro _ rfl;change wpList _ _ _ _ _ _;go_wp2;exact j3 rfl rfl rfl
                      case o6 =>
                        intro W hW;rintro _ rfl;change wpList _ _ _ _ _ _
                        have hbw : Below wi.heap.size wi W:=hW
                        have hWw : Below w.heap.size w W:=HWi.out.trans (hbw.mono hsWi)
                        have hq:=(hWw.cell (p:=⟨(adA.add (f * 6)).block,(adA.add (f * 6)).off + 5,none⟩) (by show (adA.add (f * 6)).block < _;rw [add_block];omega)).trans HA5.out
                        rw [HEA.out] at hq
                        go_wp2;exact j3 rfl rfl rfl
                      case o7 => intro W hW;change wpList _ _ _ _ _ _;go_wp2;exact j3 rfl rfl rfl
                      case o8 => intro W hW;rintro _ rfl;rintro _ rfl;change wpList _ _ _ _ _ _;go_wp2;exact j3 rfl rfl rfl
                      case o9 =>
                        intro W hW;rintro _ rfl;change wpList _ _ _ _ _ _
                        have hbw : Below wi.heap.size wi W:=hW
                        have hWw : Below w.heap.size w W:=HWi.out.trans (hbw.mono hsWi)
                        have hq:=(hWw.cell (p:=adAh.add hln) (by rw [add_block];omega)).trans HEa.out
                        go_wp2;exact j3 rfl rfl rfl
                      case o10 => intro W hW;change wpList _ _ _ _ _ _;go_wp2;exact j3 rfl rfl rfl
                      case o11 => intro W hW;change wpList _ _ _ _ _ _;go_wp2;exact j3 rfl rfl rfl
                      case o12 => intro W hW;rintro _ rfl;rintro _ rfl;change wpList _ _ _ _ _ _;go_wp2;exact j3 rfl rfl rfl
                      case o13 => intro W hW;rintro _ rfl;change wpList _ _ _ _ _ _;go_wp2;exact j3 rfl rfl rfl
                      case o14 =>
                        intro W hW;rintro _ rfl;change wpList _ _ _ _ _ _
                        have hbw : Below wi.heap.size wi W:=hW
                        have hWw : Below w.heap.size w W:=HWi.out.trans (hbw.mono hsWi)
                        have hq:=(hWw.cell (p:=⟨(adB.add (f * 6)).block,(adB.add (f * 6)).off + 5,none⟩) (by show (adB.add (f * 6)).block < _;rw [add_block];omega)).trans HB5.out
                        rw [HEB.out] at hq
                        go_wp2;exact j3 rfl rfl rfl
                      case o15 => intro W hW;change wpList _ _ _ _ _ _;go_wp2;exact j3 rfl rfl rfl
                      case o16 => intro W hW;rintro _ rfl;rintro _ rfl;change wpList _ _ _ _ _ _;go_wp2;exact j3 rfl rfl rfl
                      case o17 =>
                        intro W hW;rintro _ rfl;change wpList _ _ _ _ _ _
                        have hbw : Below wi.heap.size wi W:=hW
                        have hWw : Below w.heap.size w W:=HWi.out.trans (hbw.mono hsWi)
                        have hq:=(hWw.cell (p:=adBh.add hln) (by rw [add_block];omega)).trans HEb.out
                        go_wp2;exact j3 rfl rfl rfl
                      case o18 =>
                        intro W hW;rintro _ rfl;rintro _ rfl;change wpList _ _ _ _ _ _
                        have hor:=HOr3.out
                        go_wp2;exact j3 rfl rfl rfl
                      case o19 =>
                        intro W hW;rintro _ rfl;change wpList _ _ _ _ _ _
                        have HBa:=kp ((Below.refl W.heap.size W).alloc (Nat.le_refl _) (.cells #[.int .u32 ((ea &&& eb : Nat) : Int)] 53))
                        go_wp2
                        exact jE rfl rfl rfl HBa.out ⟨W.heap.size,rfl,Blk.newA W _ _ [wordV (ea &&& eb)] rfl⟩
                      case o20 =>
                        intro W hW;rintro _ rfl;rintro _ ⟨gn,rfl,hbk⟩;change wpList _ _ _ _ _ _
                        have HBk:=kp hbk
                        have hsZ:=hW.size
                        have HS9i:=HS9i
                        have HOw:=kp (HOwn.out.own.below hW (Nat.le_refl _))
                        have HRow1:=kp (Blk.row (f:=fun u => u) (l:=[wordV (ea &&& eb)]) (by simpa using HBk.out) rfl (Nat.le_refl _))
                        clear hbk
                        go_wp2_with (at_builtin;go_must (refine lE rfl (.tmp 106) (.tmp 124) 54 rfl w9.heap.size 53 _ _ Tryd.underlying54 lV rfl W _ (hz.map wordV) rfl HOw.out HFullV.out (some ⟨gn,0,none⟩) 1 1 W.heap.size [wordV (ea &&& eb)] rfl HRow1.out uH (by rw [List.length_map,HLz.out];unfold maxLen;omega) (by rw [List.length_map,HLz.out];omega) (by have:=HS9i.out;omega) ?_);intro v9 w10 ho9 hb9;have HO9:=kp ho9;have HB9:=kp hb9;clear ho9 hb9)
                        exact jE rfl rfl rfl HB9.out (yZ (l:=hz ++ [ea &&& eb]) (by rw [List.map_append];exact HO9.out) HU32.out (by rw [List.length_append,HLz.out];rfl))
                      case o21 => intro W hW;change wpList _ _ _ _ _ _;go_wp2;exact j3 rfl rfl rfl
                    case hend =>
                      intro W hW;rintro _ rfl;rintro _ rfl;rintro _ rfl;rintro _ rfl;rintro _ rfl;rintro _ rfl;rintro _ rfl;rintro _ rfl;rintro _ rfl;rintro _ rfl;rintro _ rfl;rintro _ rfl;rintro _ rfl;rintro _ rfl;rintro _ rfl;rintro _ rfl;rintro _ rfl;rintro _ rfl;rintro _ rfl;intro v19 _;rintro _ ⟨hw2,rfl,hz2,hl2,ho2⟩;rintro _ rfl
                      simp only [given,jI,List.set,List.drop]
                      have HO2:=kp ho2;have HZ2:=kp (And.intro hz2 hl2)
                      have HKw:=kp (HKi.out.below hW HKi.out.lt)
                      have HGw:=kp (y5 HGi.out hW)
                      have hsZ:=hW.size
                      clear hW ho2 hz2 hl2
                      rw [show hw2.v = .slice hw2.A hw2.len hw2.cap from rfl]
                      go_wp2_with (first
                        | ((with_reducible show Sn);go_must (refine jF rfl 54 (.tmp 126) (.tmp 125) rfl gS 5 (.slice hw2.A hw2.len hw2.cap) rfl rfl rfl rfl 56 _ HKw.out (by simp [scC]) x8 ?_);intro wk hkk hgk hzk;have HKk:=kp hkk;have HGk:=kp (lH HGw.out hgk);have HOk:=kp (HO2.out.typed15 HKw.out hgk);clear hkk hgk hzk))
                      go_roundw
                      case rel => exact ⟨hln + 1,hw2,by omega,by go_num,HOk.out,HZ2.out.2,by rw [HZ2.out.1];exact HNext.out,by simpa [scC] using HKk.out,HGk.out⟩
                      case measure => simp [intOf];omega
                  · obtain ⟨gH,rfl,hcl⟩ : ∃ gH,aH = ⟨gH,0,none⟩ ∧ hln ≤ hcap:=by
                      rcases hfor with ⟨h1,_⟩ | ⟨g,cap,cur,h1,_,_,h2,_⟩
                      · cases h1
                      · injection h1 with h1 h3 h4
                        injection h1 with h1
                        exact ⟨g,h1,HOwn.out.ok.lc⟩
                    clear hfor
                    have HGl : Kept (gH ≠ gS ∧ gS < wi.heap.size ∧ w9.heap.size ≤ gH ∧ gH < wi.heap.size):=kp (by
                      have h1:=HOwn.out.own.block gH rfl
                      have h2:=HGS9.out
                      have h3:=HS9i.out
                      omega)
                    by_cases hroom : hln + 1 ≤ hcap
                    · go_wp2
                      clear hqA2 hqB2
                      apply qL (fun k => k = gS ∨ k = gH) [20,22] [0,1,2,3,4,5,6,7,8,9,10,11,12,13,14,15,16,17,18,19] (phs ([fun W => Below wi.heap.size wi W,fun W => ∃ W0,Below wi.heap.size wi W0 ∧ W0.grownBy W (some gH) ∧ Own W w9.heap.size 53 (.slice (some ⟨gH,0,none⟩) (hln + 1) hcap) (hz.map wordV ++ [wordV (ea &&& eb)]),fun W => WsOwn W w9.heap.size ⟨some ⟨gH,0,none⟩,hln + 1,hcap,hz ++ [ea &&& eb]⟩ ∧ Blk W gS 56 (scC ⟨xs.en,xs.ex,xs.held,xs.le,xs.lx,⟨some ⟨gH,0,none⟩,hln + 1,hcap,hz ++ [ea &&& eb]⟩⟩) ∧ w9.grownBy W (some gS)] : List (World → Prop))) (.is _ :: .is (.slice (some ⟨gH,0,none⟩) hln hcap) :: .is _ :: .is _ :: .is _ :: .is _ :: .is (.slice (some adAh) xa.live.len xa.live.cap) :: .is _ :: .is _ :: .is (.int .u32 (ea : Int)) :: .is _ :: .is _ :: .is _ :: .is _ :: .is (.slice (some adBh) xb.live.len xb.live.cap) :: .is _ :: .is _ :: .is (.int .u32 (eb : Int)) :: .is (.int .u32 ((ea &&& eb : Nat) : Int)) :: GFact.elem15 _ 53 [wordV (ea &&& eb)] wi.heap.size :: .is (.slice (some ⟨gH,0,none⟩) (hln + 1) hcap) :: .is _ :: .any _ :: [])
                        [[],[(0,105)],[],[],[(2,107),(3,108)],[(4,109)],[(5,110)],[],[(6,111),(7,112)],[(8,113)],[],[],[(10,115),(11,116)],[(12,117)],[(13,118)],[],[(14,119),(15,120)],[(16,121)],[(9,114),(17,122)],[(18,123)],[(1,106),(19,124)],[],[(21,126),(20,125)]]
                        [(0,105),(1,106),(2,107),(3,108),(4,109),(5,110),(6,111),(7,112),(8,113),(9,114),(10,115),(11,116),(12,117),(13,118),(14,119),(15,120),(16,121),(17,122),(18,123),(19,124),(20,125),(21,126)] (by kernel_rfl) (by kernel_rfl) (by kernel_rfl) (by kernel_rfl) (by decide)
                      case h0 => exact (⟨rfl,rfl,rfl,Nat.le_refl _,fun _ _ => rfl⟩ : Below wi.heap.size wi wi.drew)
                      case hob =>
                        refine j9 rfl rfl ?o0 (j9 rfl rfl ?o1 (j9 rfl rfl ?o2 (j9 rfl rfl ?o3 (j9 rfl rfl ?o4 (j9 rfl rfl ?o5 (j9 rfl rfl ?o6 (j9 rfl rfl ?o7 (j9 rfl rfl ?o8 (j9 rfl rfl ?o9 (j9 rfl rfl ?o10 (j9 rfl rfl ?o11 (j9 rfl rfl ?o12 (j9 rfl rfl ?o13 (j9 rfl rfl ?o14 (j9 rfl rfl ?o15 (j9 rfl rfl ?o16 (j9 rfl rfl ?o17 (j9 rfl rfl ?o18 (j9 rfl rfl ?o19 (qI 0 rfl rfl ?o20 (lJ rfl rfl ?o21 (qI 1 rfl rfl ?o22 (zN)))))))))))))))))))))))
                        case o0 => intro W hO hJ;change wpList _ _ _ _ _ _;go_wp2;exact jA rfl rfl rfl hJ
                        case o1 =>
                          intro W hO hJ;rintro _ rfl;change wpList _ _ _ _ _ _
                          have hbw : Below wi.heap.size wi W:=hJ
                          have hq:=(HKi.out.below hbw HKi.out.lt).cell 5
                          simp only [scC,List.getElem?_cons_zero,List.getElem?_cons_succ] at hq
                          go_wp2;exact jA rfl rfl rfl hJ
                        case o2 => intro W hO hJ;change wpList _ _ _ _ _ _;go_wp2;exact jA rfl rfl rfl hJ
                        case o3 => intro W hO hJ;change wpList _ _ _ _ _ _;go_wp2;exact jA rfl rfl rfl hJ
                        case o4 => intro W hO hJ;rintro _ rfl;rintro _ rfl;change wpList _ _ _ _ _ _;go_wp2;exact jA rfl rfl rfl hJ
                        case o5 => intro W hO hJ;rintro _ rfl;change wpList _ _ _ _ _ _;go_wp2;exact jA rfl rfl rfl hJ
                        case o6 =>
                          intro W hO hJ;rintro _ rfl;change wpList _ _ _ _ _ _
                          have hbw : Below wi.heap.size wi W:=hJ
                          have hWw : Below w.heap.size w W:=HWi.out.trans (hbw.mono hsWi)
                          have hq:=(hWw.cell (p:=⟨(adA.add (f * 6)).block,(adA.add (f * 6)).off + 5,none⟩) (by show (adA.add (f * 6)).block < _;rw [add_block];omega)).trans HA5.out
                          rw [HEA.out] at hq
                          go_wp2;exact jA rfl rfl rfl hJ
                        case o7 => intro W hO hJ;change wpList _ _ _ _ _ _;go_wp2;exact jA rfl rfl rfl hJ
                        case o8 => intro W hO hJ;rintro _ rfl;rintro _ rfl;change wpList _ _ _ _ _ _;go_wp2;exact jA rfl rfl rfl hJ
                        case o9 =>
                          intro W hO hJ;rintro _ rfl;change wpList _ _ _ _ _ _
                          have hbw : Below wi.heap.size wi W:=hJ
                          have hWw : Below w.heap.size w W:=HWi.out.trans (hbw.mono hsWi)
                          have hq:=(hWw.cell (p:=adAh.add hln) (by rw [add_block];omega)).trans HEa.out
                          go_wp2;exact jA rfl rfl rfl hJ
                        case o10 => intro W hO hJ;change wpList _ _ _ _ _ _;go_wp2;exact jA rfl rfl rfl hJ
                        case o11 => intro W hO hJ;change wpList _ _ _ _ _ _;go_wp2;exact jA rfl rfl rfl hJ
                        case o12 => intro W hO hJ;rintro _ rfl;rintro _ rfl;change wpList _ _ _ _ _ _;go_wp2;exact jA rfl rfl rfl hJ
                        case o13 => intro W hO hJ;rintro _ rfl;change wpList _ _ _ _ _ _;go_wp2;exact jA rfl rfl rfl hJ
                        case o14 =>
                          intro W hO hJ;rintro _ rfl;change wpList _ _ _ _ _ _
                          have hbw : Below wi.heap.size wi W:=hJ
                          have hWw : Below w.heap.size w W:=HWi.out.trans (hbw.mono hsWi)
                          have hq:=(hWw.cell (p:=⟨(adB.add (f * 6)).block,(adB.add (f * 6)).off + 5,none⟩) (by show (adB.add (f * 6)).block < _;rw [add_block];omega)).trans HB5.out
                          rw [HEB.out] at hq
                          go_wp2;exact jA rfl rfl rfl hJ
                        case o15 => intro W hO hJ;change wpList _ _ _ _ _ _;go_wp2;exact jA rfl rfl rfl hJ
                        case o16 => intro W hO hJ;rintro _ rfl;rintro _ rfl;change wpList _ _ _ _ _ _;go_wp2;exact jA rfl rfl rfl hJ
                        case o17 =>
                          intro W hO hJ;rintro _ rfl;change wpList _ _ _ _ _ _
                          have hbw : Below wi.heap.size wi W:=hJ
                          have hWw : Below w.heap.size w W:=HWi.out.trans (hbw.mono hsWi)
                          have hq:=(hWw.cell (p:=adBh.add hln) (by rw [add_block];omega)).trans HEb.out
                          go_wp2;exact jA rfl rfl rfl hJ
                        case o18 =>
                          intro W hO hJ;rintro _ rfl;rintro _ rfl;change wpList _ _ _ _ _ _
                          have hor:=HOr3.out
                          go_wp2;exact jA rfl rfl rfl hJ
                        case o19 =>
                          intro W hO hJ;rintro _ rfl;change wpList _ _ _ _ _ _
                          have hb : Below wi.heap.size wi W:=hJ
                          have HBw:=kp hb
                          have hbs:=hb.size
                          clear hJ hb hO
                          have HB5:=kp ((Below.refl W.heap.size W).alloc (Nat.le_refl _) (.cells #[.int .u32 ((ea &&& eb : Nat) : Int)] 53))
                          have HGl:=HGl
                          go_wp2
                          exact qW rfl rfl rfl (Only.of_below HB5.out) (HBw.out.trans (HB5.out.mono hbs)) ⟨W.heap.size,rfl,Blk.newA W _ _ [wordV (ea &&& eb)] rfl,by have:=HGl.out;omega,by omega⟩
                        case o20 =>
                          intro W hO hJ;rintro _ rfl;rintro _ ⟨gn,rfl,hbk,hng,hgk⟩;change wpList _ _ _ _ _ _
                          have hb : Below wi.heap.size wi W:=hJ
                          have HBw:=kp hb;have HBk:=kp hbk
                          have hsZ:=hb.size
                          have HOw:=kp (HOwn.out.own.below hb (Nat.le_refl _))
                          have HS9i:=HS9i
                          clear hJ hO hb hbk
                          go_wp2_with (at_builtin;go_must (refine xV rfl (.tmp 106) (.tmp 124) 54 rfl w9.heap.size 53 _ _ Tryd.underlying54 lV rfl W gH hln hcap (hz.map wordV) rfl HOw.out (by rw [List.length_map];exact HLz.out) hroom gn 1 (wordV (ea &&& eb)) rfl HBk.out rfl (by omega) (by have:=HS9i.out;omega) ?_);intro w10 ho9 hg9;have HO9:=kp ho9;have HG9:=kp hg9;clear ho9 hg9)
                          exact qW rfl rfl rfl (Only.of_grown HG9.out (.inr rfl)) ⟨W,HBw.out,HG9.out,HO9.out⟩ rfl
                        case o21 => intro p W hO hJ;change wpList _ _ _ _ _ _;go_wp2;exact jA rfl rfl rfl hJ
                        case o22 =>
                          intro W hO hJ;rintro _ rfl;rintro _ rfl;change wpList _ _ _ _ _ _
                          have hJ1 : ∃ W0,Below wi.heap.size wi W0 ∧ W0.grownBy W (some gH) ∧ Own W w9.heap.size 53 (.slice (some ⟨gH,0,none⟩) (hln + 1) hcap) (hz.map wordV ++ [wordV (ea &&& eb)]):=hJ
                          obtain ⟨W0,hb0,hg0,hown0⟩:=hJ1
                          have HK0:=kp (HKi.out.below hb0 HKi.out.lt)
                          have HKw:=kp (HK0.out.grown hg0 (fun e => by cases e;have:=HGl.out;omega))
                          have HG0:=kp (yN (y5 HGi.out hb0) hg0 (by have:=HGl.out;omega))
                          have HOw0:=kp (show WsOwn W w9.heap.size ⟨some ⟨gH,0,none⟩,hln + 1,hcap,hz ++ [ea &&& eb]⟩ from ⟨by show Own _ _ _ _ ((hz ++ [ea &&& eb]).map wordV);rw [List.map_append];exact hown0,HU32.out,by rw [List.length_append,HLz.out];rfl⟩)
                          clear hJ hO hb0 hg0 hown0
                          go_wp2_with (first
                            | ((with_reducible show Sn);go_must (refine jF rfl 54 (.tmp 126) (.tmp 125) rfl gS 5 (.slice (some ⟨gH,0,none⟩) (hln + 1) hcap) rfl rfl rfl rfl 56 _ HKw.out (by simp [scC]) x8 ?_);intro wk hkk hgk hzk;have HKk:=kp hkk;have HGk:=kp (lH HG0.out hgk);have HOk:=kp (HOw0.out.typed15 HKw.out hgk);have HOn:=kp (Only.of_grown (G:=fun k => k = gS ∨ k = gH) hgk (.inl rfl));clear hkk hgk hzk))
                          exact xG rfl HOn.out ⟨HOk.out,by simpa [scC] using HKk.out,HGk.out⟩
                      case hend =>
                        intro W hO hJ;rintro _ rfl;rintro _ rfl;rintro _ rfl;rintro _ rfl;rintro _ rfl;rintro _ rfl;rintro _ rfl;rintro _ rfl;rintro _ rfl;rintro _ rfl;rintro _ rfl;rintro _ rfl;rintro _ rfl;rintro _ rfl;rintro _ rfl;rintro _ rfl;rintro _ rfl;rintro _ rfl;rintro _ rfl;intro v19 _;rintro _ rfl;rintro _ rfl
                        simp only [ggiven,jI,List.set]
                        have hJ2 : WsOwn W w9.heap.size ⟨some ⟨gH,0,none⟩,hln + 1,hcap,hz ++ [ea &&& eb]⟩ ∧ Blk W gS 56 (scC ⟨xs.en,xs.ex,xs.held,xs.le,xs.lx,⟨some ⟨gH,0,none⟩,hln + 1,hcap,hz ++ [ea &&& eb]⟩⟩) ∧ w9.grownBy W (some gS):=hJ
                        have HOk:=kp hJ2.1;have HKk:=kp hJ2.2.1;have HGk:=kp hJ2.2.2
                        clear hJ hJ2 hO
                        go_wp2
                        go_roundw
                        case rel => exact ⟨hln + 1,⟨some ⟨gH,0,none⟩,hln + 1,hcap,hz ++ [ea &&& eb]⟩,by omega,by go_num,HOk.out,rfl,HNext.out,HKk.out,HGk.out⟩
                        case measure => simp [intOf];omega
                    · have HFullV : Kept (∀ g n cap,(⟨some ⟨gH,0,none⟩,hln,hcap,hz⟩ : Ws).v = .slice (some ⟨g,0,none⟩) n cap → cap = n):=kp (fun g n cap (e : Value.slice (some ⟨gH,0,none⟩) hln hcap = .slice (some ⟨g,0,none⟩) n cap) => by
                        injection e with _ e1 e2
                        omega)
                      go_wp2
                      clear hqA2 hqB2
                      apply jJ 22 (.is _ :: .is (.slice (some ⟨gH,0,none⟩) hln hcap) :: .is _ :: .is _ :: .is _ :: .is _ :: .is (.slice (some adAh) xa.live.len xa.live.cap) :: .is _ :: .is _ :: .is (.int .u32 (ea : Int)) :: .is _ :: .is _ :: .is _ :: .is _ :: .is (.slice (some adBh) xb.live.len xb.live.cap) :: .is _ :: .is _ :: .is (.int .u32 (eb : Int)) :: .is (.int .u32 ((ea &&& eb : Nat) : Int)) :: Fact.elem15 53 [wordV (ea &&& eb)] :: (.wset w9.heap.size (hz ++ [ea &&& eb]) (hln + 1)) :: .is _ :: [])
                        [[],[(0,105)],[],[],[(2,107),(3,108)],[(4,109)],[(5,110)],[],[(6,111),(7,112)],[(8,113)],[],[],[(10,115),(11,116)],[(12,117)],[(13,118)],[],[(14,119),(15,120)],[(16,121)],[(9,114),(17,122)],[(18,123)],[(1,106),(19,124)],[],[(21,126),(20,125)]]
                        [(0,105),(1,106),(2,107),(3,108),(4,109),(5,110),(6,111),(7,112),(8,113),(9,114),(10,115),(11,116),(12,117),(13,118),(14,119),(15,120),(16,121),(17,122),(18,123),(19,124),(20,125),(21,126)] (by kernel_rfl) (by kernel_rfl) (by kernel_rfl) (by kernel_rfl) (by kernel_rfl)
                      case hob =>
                        refine ⟨?o0,?o1,?o2,?o3,?o4,?o5,?o6,?o7,?o8,?o9,?o10,?o11,?o12,?o13,?o14,?o15,?o16,?o17,?o18,?o19,?o20,?o21,trivial⟩
                        case o0 => intro W hW;change wpList _ _ _ _ _ _;go_wp2;exact j3 rfl rfl rfl
                        case o1 =>
                          intro W hW;rintro _ rfl;change wpList _ _ _ _ _ _
                          have hbw : Below wi.heap.size wi W:=hW
                          have hq:=(HKi.out.below hbw HKi.out.lt).cell 5
                          simp only [scC,List.getElem?_cons_zero,List.getElem?_cons_succ] at hq
                          go_wp2;exact j3 rfl rfl rfl
                        case o2 => intro W hW;change wpList _ _ _ _ _ _;go_wp2;exact j3 rfl rfl rfl
                        case o3 => intro W hW;change wpList _ _ _ _ _ _;go_wp2;exact j3 rfl rfl rfl
                        case o4 => intro W hW;rintro _ rfl;rintro _ rfl;change wpList _ _ _ _ _ _;go_wp2;exact j3 rfl rfl rfl
                        case o5 => intro W hW;rintro _ rfl;change wpList _ _ _ _ _ _;go_wp2;exact j3 rfl rfl rfl
                        case o6 =>
                          intro W hW;rintro _ rfl;change wpList _ _ _ _ _ _
                          have hbw : Below wi.heap.size wi W:=hW
                          have hWw : Below w.heap.size w W:=HWi.out.trans (hbw.mono hsWi)
                          have hq:=(hWw.cell (p:=⟨(adA.add (f * 6)).block,(adA.add (f * 6)).off + 5,none⟩) (by show (adA.add (f * 6)).block < _;rw [add_block];omega)).trans HA5.out
                          rw [HEA.out] at hq
                          go_wp2;exact j3 rfl rfl rfl
                        case o7 => intro W hW;change wpList _ _ _ _ _ _;go_wp2;exact j3 rfl rfl rfl
                        case o8 => intro W hW;rintro _ rfl;rintro _ rfl;change wpList _ _ _ _ _ _;go_wp2;exact j3 rfl rfl rfl
                        case o9 =>
                          intro W hW;rintro _ rfl;change wpList _ _ _ _ _ _
                          have hbw : Below wi.heap.size wi W:=hW
                          have hWw : Below w.heap.size w W:=HWi.out.trans (hbw.mono hsWi)
                          have hq:=(hWw.cell (p:=adAh.add hln) (by rw [add_block];omega)).trans HEa.out
                          go_wp2;exact j3 rfl rfl rfl
                        case o10 => intro W hW;change wpList _ _ _ _ _ _;go_wp2;exact j3 rfl rfl rfl
                        case o11 => intro W hW;change wpList _ _ _ _ _ _;go_wp2;exact j3 rfl rfl rfl
                        case o12 => intro W hW;rintro _ rfl;rintro _ rfl;change wpList _ _ _ _ _ _;go_wp2;exact j3 rfl rfl rfl
                        case o13 => intro W hW;rintro _ rfl;change wpList _ _ _ _ _ _;go_wp2;exact j3 rfl rfl rfl
                        case o14 =>
                          intro W hW;rintro _ rfl;change wpList _ _ _ _ _ _
                          have hbw : Below wi.heap.size wi W:=hW
                          have hWw : Below w.heap.size w W:=HWi.out.trans (hbw.mono hsWi)
                          have hq:=(hWw.cell (p:=⟨(adB.add (f * 6)).block,(adB.add (f * 6)).off + 5,none⟩) (by show (adB.add (f * 6)).block < _;rw [add_block];omega)).trans HB5.out
                          rw [HEB.out] at hq
                          go_wp2;exact j3 rfl rfl rfl
                        case o15 => intro W hW;change wpList _ _ _ _ _ _;go_wp2;exact j3 rfl rfl rfl
                        case o16 => intro W hW;rintro _ rfl;rintro _ rfl;change wpList _ _ _ _ _ _;go_wp2;exact j3 rfl rfl rfl
                        case o17 =>
                          intro W hW;rintro _ rfl;change wpList _ _ _ _ _ _
                          have hbw : Below wi.heap.size wi W:=hW
                          have hWw : Below w.heap.size w W:=HWi.out.trans (hbw.mono hsWi)
                          have hq:=(hWw.cell (p:=adBh.add hln) (by rw [add_block];omega)).trans HEb.out
                          go_wp2;exact j3 rfl rfl rfl
                        case o18 =>
                          intro W hW;rintro _ rfl;rintro _ rfl;change wpList _ _ _ _ _ _
                          have hor:=HOr3.out
                          go_wp2;exact j3 rfl rfl rfl
                        case o19 =>
                          intro W hW;rintro _ rfl;change wpList _ _ _ _ _ _
                          have HBa:=kp ((Below.refl W.heap.size W).alloc (Nat.le_refl _) (.cells #[.int .u32 ((ea &&& eb : Nat) : Int)] 53))
                          go_wp2
                          exact jE rfl rfl rfl HBa.out ⟨W.heap.size,rfl,Blk.newA W _ _ [wordV (ea &&& eb)] rfl⟩
                        case o20 =>
                          intro W hW;rintro _ rfl;rintro _ ⟨gn,rfl,hbk⟩;change wpList _ _ _ _ _ _
                          have HBk:=kp hbk
                          have hsZ:=hW.size
                          have HS9i:=HS9i
                          have HOw:=kp (HOwn.out.own.below hW (Nat.le_refl _))
                          have HRow1:=kp (Blk.row (f:=fun u => u) (l:=[wordV (ea &&& eb)]) (by simpa using HBk.out) rfl (Nat.le_refl _))
                          clear hbk
                          go_wp2_with (at_builtin;go_must (refine lE rfl (.tmp 106) (.tmp 124) 54 rfl w9.heap.size 53 _ _ Tryd.underlying54 lV rfl W _ (hz.map wordV) rfl HOw.out HFullV.out (some ⟨gn,0,none⟩) 1 1 W.heap.size [wordV (ea &&& eb)] rfl HRow1.out uH (by rw [List.length_map,HLz.out];unfold maxLen;omega) (by rw [List.length_map,HLz.out];omega) (by have:=HS9i.out;omega) ?_);intro v9 w10 ho9 hb9;have HO9:=kp ho9;have HB9:=kp hb9;clear ho9 hb9)
                          exact jE rfl rfl rfl HB9.out (yZ (l:=hz ++ [ea &&& eb]) (by rw [List.map_append];exact HO9.out) HU32.out (by rw [List.length_append,HLz.out];rfl))
                        case o21 => intro W hW;change wpList _ _ _ _ _ _;go_wp2;exact j3 rfl rfl rfl
                      case hend =>
                        intro W hW;rintro _ rfl;rintro _ rfl;rintro _ rfl;rintro _ rfl;rintro _ rfl;rintro _ rfl;rintro _ rfl;rintro _ rfl;rintro _ rfl;rintro _ rfl;rintro _ rfl;rintro _ rfl;rintro _ rfl;rintro _ rfl;rintro _ rfl;rintro _ rfl;rintro _ rfl;rintro _ rfl;rintro _ rfl;intro v19 _;rintro _ ⟨hw2,rfl,hz2,hl2,ho2⟩;rintro _ rfl
                        simp only [given,jI,List.set,List.drop]
                        have HO2:=kp ho2;have HZ2:=kp (And.intro hz2 hl2)
                        have HKw:=kp (HKi.out.below hW HKi.out.lt)
                        have HGw:=kp (y5 HGi.out hW)
                        have hsZ:=hW.size
                        clear hW ho2 hz2 hl2
                        rw [show hw2.v = .slice hw2.A hw2.len hw2.cap from rfl]
                        go_wp2_with (first
                          | ((with_reducible show Sn);go_must (refine jF rfl 54 (.tmp 126) (.tmp 125) rfl gS 5 (.slice hw2.A hw2.len hw2.cap) rfl rfl rfl rfl 56 _ HKw.out (by simp [scC]) x8 ?_);intro wk hkk hgk hzk;have HKk:=kp hkk;have HGk:=kp (lH HGw.out hgk);have HOk:=kp (HO2.out.typed15 HKw.out hgk);clear hkk hgk hzk))
                        go_roundw
                        case rel => exact ⟨hln + 1,hw2,by omega,by go_num,HOk.out,HZ2.out.2,by rw [HZ2.out.1];exact HNext.out,by simpa [scC] using HKk.out,HGk.out⟩
                        case measure => simp [intOf];omega
                · have hie : xa.live.len ≤ i:=by omega
                  obtain ⟨vL,rfl⟩ : ∃ x,x = u11:=⟨_,rfl⟩
                  have HXf : Kept (SecOwn wi w8.heap.size ⟨xs.en,xs.ex,xs.held,xs.le,xs.lx,hw⟩):=kp ⟨HX9.out.en,HX9.out.ex,HX9.out.held.typed15 HK9.out HGi.out,HX9.out.le,HX9.out.lx,HOwn0.out.less hs9⟩
                  have HRi:=kp (HRow9.out.far15 HGi.out HRowN.out HK9.out)
                  have HIs : Kept (Ma.IsM xa xb ⟨xs.en,xs.ex,xs.held,xs.le,xs.lx,hw⟩):=kp ⟨HXe.out.1,HXe.out.2.1,(fun k => by
                    show hw.z.getD k 0 = _
                    rw [HVal.out k]
                    split
                    · rfl
                    · rw [uR (l:=xa.live.z) (by rw [HXa.out.live.row.len];omega),uR (l:=xb.live.z) (by rw [HXb.out.live.row.len,HHl.out];omega)];rfl),HXe.out.2.2.2,by show hw.len = _;omega⟩
                  obtain ⟨xF,hxF⟩ : ∃ x : Sc,(⟨xs.en,xs.ex,xs.held,xs.le,xs.lx,hw⟩ : Sc) = x:=⟨_,rfl⟩
                  rw [hxF] at HXf HIs HKi0
                  have HBi8:=HB9i
                  have hs8i:=HB9i.out.size
                  clear hxF hlt hhl
                  go_wp2_with (first
                    | ((with_reducible show Sl 128);go_must (refine j6 rfl 56 (.tmp 13) rfl gS rfl _ (scC xF) _ HKi0.out Tryd.underlying56 rfl zC ?_);unfold scC)
                    | (at_builtin;go_must (refine qX rfl (.tmp 127) (.tmp 129) 25 rfl w8.heap.size 56 6 _ 64 Tryd.underlying25 L4 rfl (by omega) scV XG wi vL ls xF rfl HRi.out.row ⟨wi.heap.size,0,none⟩ 1 rfl rfl _ rfl (by unfold maxLen;omega) (by omega) hs8i ?_);intro vN wN hownN hgrN;have HRN:=kp (HRi.out.push HXf.out hownN hgrN);have HBN:=kp (HRi.out.grew HBi8.out (Nat.le_refl _) hs8i hgrN);clear hownN hgrN))
                  go_roundw
                  case rel => exact ⟨f + 1,ls ++ [xF],by omega,by go_num,HRN.out,by rw [List.length_append,HLl.out];rfl,(fun j x hx => by
                    by_cases hj : j < f
                    · rw [List.getElem?_append_left (by rw [HLl.out];exact hj)] at hx
                      exact HAll.out j x hx
                    · rw [List.getElem?_append_right (by rw [HLl.out];omega)] at hx
                      have h1:=(List.getElem?_eq_some_iff.1 hx).1
                      simp at h1
                      have h2 : j = f:=by have:=HLl.out;omega
                      subst h2
                      rw [HLl.out,Nat.sub_self] at hx
                      simp at hx
                      subst hx
                      rw [zU HZa.out,zU HZb.out]
                      exact HIs.out),HBN.out⟩
                  case measure => simp [intOf];omega
          · have hge : pg0.len ≤ f:=by omega
            have hfe : f = pg0.len:=by omega
            obtain ⟨A,cap,e3,hc3',hm3,hsecs⟩:=HRow.out.secs
            rw [HLl.out] at e3 hc3' hsecs
            subst e3
            have HSe:=kp hsecs;have HM3:=kp hm3
            have HAns : Kept (Ma.ans pg0 mb ls cc = (0,0,0)):=kp (by
              unfold Ma.ans
              rw [if_pos HCz.out]
              have hU : ∀ g,g < pg0.len → Ma.IsM (Mu.sec z1 g) (Mu.sec z2 g) (Mu.sec ls g):=fun g hg => by
                have hx : ls[g]? = some (Mu.sec ls g):=by unfold Mu.sec;rw [List.getD_eq_getElem?_getD,List.getElem?_eq_getElem (by rw [HLl.out];omega)];rfl
                exact HAll.out g _ hx
              refine Ma.check_meet HCh1.out HCh2.out (Mu.shaped_iff.2 ⟨by rw [HLl.out];exact hfe,fun i hi => ?_⟩) hU fun g n hg hn h7 => ?_
              · have h1:=(Mu.shaped_iff.1 HSh1.out).2 i hi
                unfold Mu.shapedAt at h1 ⊢
                rw [(hU i hi).hlen,(hU i hi).llen]
                exact h1
              · obtain ⟨k,hk⟩:=List.mem_iff_getElem?.1 hn
                have hfn : pg0.fns[g]? = some (Mu.fn pg0 g):=by unfold Mu.fn;rw [List.getD_eq_getElem?_getD,List.getElem?_eq_getElem (by rw [HLen.out];exact hg)];rfl
                obtain ⟨j,hj1,hj2⟩:=(zZ HF.out hfn (rfl : pg0.len = pg0.len) (rfl : (Mu.fn pg0 g).nodes.length = (Mu.fn pg0 g).nodes.length) k n hk).1 h7
                omega)
            have HPr:=kp ((HP.out.below HW.out).more hsW)
            unfold maxLen at hm3
            obtain ⟨hc0,hc1,hc2,hc3⟩:=j8 HKr.out
            clear hsecs hlt hfe
            go_wp2_with fail
            refine (qA wr.heap.size pg0 wr HPr.out (Nat.le_refl _) HR.out (HTab.out.below HW.out hw01) ca cb cc HC.out mb HMb.out A f cap ls HSe.out hc3' HM3.out (0,0,0) HAns.out).mono ?_
            rintro e w13 ⟨rfl,hb13⟩
            have HW13:=kp (HW.out.trans (hb13.mono hsW));have hs13:=HW13.out.size
            have HK13:=kp (HKr.out.below hb13 HKr.out.lt)
            clear hb13 hc0 hc1 hc2 hc3
            obtain ⟨hc0,hc1,hc2,hc3⟩:=j8 HK13.out
            have hcc0 : ((cc : Int) == 0) = true:=by have:=HCz.out;simp;omega
            go_wp2_with (first
              | ((with_reducible show Sl 15);go_must (refine j7 rfl 30 rfl (ftC 0 0 0) lT ?_);intro gJ w14 hg14 hk14 hb14;have HgJ:=kp hg14;have HFb14:=kp hk14;have HW14:=kp (HW13.out.trans (hb14.mono hs13));have hs14:=HW14.out.size;have HK14:=kp (HK13.out.below hb14 HK13.out.lt);clear hg14 hk14 hb14 hc0 hc1 hc2 hc3)
              | ((with_reducible show Sn);go_must (refine j5 rfl 30 (.tmp 15) (.tmp 135) rfl gJ (ftC 0 0 0) rfl rfl _ _ HFb14.out jT rfl (l5 _ _ _) ?_);intro w15 hk15 hg15 hz15;have HFgJ15:=kp hk15;have HW15:=kp (HW14.out.grown hg15 hs14 (fun k e => by cases e;have:=HgJ.out;omega));have hs15:=HW15.out.size;have HK15:=kp (HK14.out.grown hg15 (fun e => by cases e;have:=HgJ.out;have:=HK13.out.lt;omega));obtain ⟨hc0,hc1,hc2,hc3⟩:=j8 HK15.out;obtain ⟨hf0,hf1,hf2⟩:=l2 HFgJ15.out;clear hk15 hg15 hz15))
            go_ret
            exact ⟨rfl,HW15.out⟩
end Go.Proofs.YtoekiejipdabmaaDoor
