/- MayChecks, walked. -/
import Derived.Test.YtoekiejipdabmaaDoorPk2
import Derived.Test.YtoekiejipdabmaaDoorPk7
import Derived.Test.YtoekiejipdabmaaDoorMayR3
import Derived.Test.YtoekiejipdabmaaDoorProgRef5
import Derived.Test.YtoekiejipdabmaaDoorPk10
namespace Go.Proofs.YtoekiejipdabmaaDoor
open Go.RowKit
set_option maxRecDepth 1000000 in
set_option maxHeartbeats 8000000 in
theorem walkMayChecks (pg0 : Pg) (a1 : Option Addr) (len1 cap1 : Nat) (z1 : List Sc) (w : World) (w0 : pg0.Ok w w.heap.size) (w1 : Secs w w.heap.size a1 len1 z1) (c1 : len1 ≤ cap1 ∧ cap1 ≤ maxLen) (hL : Tab w) :
    Calls Tryd.prog 3 #[pgA pg0,.slice a1 len1 cap1] w fun e w' => e = .returned (.bool true) ∧ Below w.heap.size w w':=by
  have HL1:=kp w1
  have hlc1:=c1.1;have HLm1:=kp c1.2;have hlm1:=c1.2
  unfold maxLen at hlm1
  obtain ⟨fw1,hfw1⟩ : ∃ q,few z1 = q:=⟨_,rfl⟩
  have HFw1:=kp hfw1
  clear w1 c1 hfw1
  have HP:=kp w0;have HTab:=kp hL
  have hw01:=hL.size
  clear w0 hL
  obtain ⟨r,hr⟩ : ∃ r,Q.small pg0 = r:=⟨_,rfl⟩
  have HR:=kp hr
  clear hr
  rw [jM]
  cases r
  · go_enter Tryd.func3,Tryd.ntmps3
    go_wp2_with (first
      | ((with_reducible refine j4 rfl 24 (.tmp 0) rfl (pgC pg0) rfl ?_);intro g1 u1 hg1 hk1 hu1;have HK1:=kp hk1;have HG1:=kp hg1;have HU1:=kp hu1;have hz1:=hu1.size;clear hg1 hk1 hu1))
    refine (jP u1).mono ?_
    rintro e w1 ⟨rfl,hb1⟩
    have HW1 : Kept (Below w.heap.size w w1):=kp (HU1.out.trans (hb1.mono hz1))
    have hs1:=HW1.out.size
    have HP1:=kp (HP.out.below HW1.out)
    have HKa:=kp (HK1.out.below hb1 HK1.out.lt)
    obtain ⟨hc0,hc1,hc2,hc3⟩:=j8 HKa.out
    clear hb1
    go_wp2_with fail
    refine (l0 _ pg0 w1 HP1.out hs1 _ HR.out).mono ?_
    rintro e w2 ⟨rfl,hb2⟩
    have HW2 : Kept (Below w.heap.size w w2):=kp (HW1.out.trans (hb2.mono hs1))
    have hs2:=HW2.out.size
    have HP2:=kp (HP.out.below HW2.out)
    have HKb:=kp (HKa.out.below hb2 HKa.out.lt)
    clear hb2 hc0 hc1 hc2 hc3
    obtain ⟨hc0,hc1,hc2,hc3⟩:=j8 HKb.out
    go_wp2_with fail
    refine (jP w2).mono ?_
    rintro e w9 ⟨rfl,hb9⟩
    have HW9:=kp (HW2.out.trans (hb9.mono hs2))
    clear hb9
    go_wp2
    go_ret
    exact ⟨rfl,HW9.out⟩
  · cases fw1
    · go_enter Tryd.func3,Tryd.ntmps3
      go_wp2_with (first
        | ((with_reducible refine j4 rfl 24 (.tmp 0) rfl (pgC pg0) rfl ?_);intro g1 u1 hg1 hk1 hu1;have HK1:=kp hk1;have HG1:=kp hg1;have HU1:=kp hu1;have hz1:=hu1.size;clear hg1 hk1 hu1))
      refine (jP u1).mono ?_
      rintro e w1 ⟨rfl,hb1⟩
      have HW1 : Kept (Below w.heap.size w w1):=kp (HU1.out.trans (hb1.mono hz1))
      have hs1:=HW1.out.size
      have HP1:=kp (HP.out.below HW1.out)
      have HKa:=kp (HK1.out.below hb1 HK1.out.lt)
      obtain ⟨hc0,hc1,hc2,hc3⟩:=j8 HKa.out
      clear hb1
      go_wp2_with fail
      refine (l0 _ pg0 w1 HP1.out hs1 _ HR.out).mono ?_
      rintro e w2 ⟨rfl,hb2⟩
      have HW2 : Kept (Below w.heap.size w w2):=kp (HW1.out.trans (hb2.mono hs1))
      have hs2:=HW2.out.size
      have HP2:=kp (HP.out.below HW2.out)
      have HKb:=kp (HKa.out.below hb2 HKa.out.lt)
      clear hb2 hc0 hc1 hc2 hc3
      obtain ⟨hc0,hc1,hc2,hc3⟩:=j8 HKb.out
      go_wp2_with fail
      refine (qE w.heap.size w2 a1 len1 cap1 z1 (HL1.out.below HW2.out) hlc1 HLm1.out _ HFw1.out).mono ?_
      rintro e w9 ⟨rfl,rfl⟩
      go_wp2_with fail
      refine (jP w2).mono ?_
      rintro e w9 ⟨rfl,hb9⟩
      have HW9:=kp (HW2.out.trans (hb9.mono hs2))
      clear hb9
      go_wp2
      go_ret
      exact ⟨rfl,HW9.out⟩
    · go_enter Tryd.func3,Tryd.ntmps3
      go_wp2_with (first
        | ((with_reducible refine j4 rfl 24 (.tmp 0) rfl (pgC pg0) rfl ?_);intro g1 u1 hg1 hk1 hu1;have HK1:=kp hk1;have HG1:=kp hg1;have HU1:=kp hu1;have hz1:=hu1.size;clear hg1 hk1 hu1))
      refine (jP u1).mono ?_
      rintro e w1 ⟨rfl,hb1⟩
      have HW1 : Kept (Below w.heap.size w w1):=kp (HU1.out.trans (hb1.mono hz1))
      have hs1:=HW1.out.size
      have HP1:=kp (HP.out.below HW1.out)
      have HKa:=kp (HK1.out.below hb1 HK1.out.lt)
      obtain ⟨hc0,hc1,hc2,hc3⟩:=j8 HKa.out
      clear hb1
      go_wp2_with fail
      refine (l0 _ pg0 w1 HP1.out hs1 _ HR.out).mono ?_
      rintro e w2 ⟨rfl,hb2⟩
      have HW2 : Kept (Below w.heap.size w w2):=kp (HW1.out.trans (hb2.mono hs1))
      have hs2:=HW2.out.size
      have HP2:=kp (HP.out.below HW2.out)
      have HKb:=kp (HKa.out.below hb2 HKa.out.lt)
      clear hb2 hc0 hc1 hc2 hc3
      obtain ⟨hc0,hc1,hc2,hc3⟩:=j8 HKb.out
      go_wp2_with fail
      refine (qE w.heap.size w2 a1 len1 cap1 z1 (HL1.out.below HW2.out) hlc1 HLm1.out _ HFw1.out).mono ?_
      rintro e w9 ⟨rfl,rfl⟩
      obtain ⟨⟨ca,cb,cc⟩,hcc⟩ : ∃ x,Q.check pg0 = x:=⟨_,rfl⟩
      have HC:=kp hcc
      clear hcc
      obtain ⟨mb,hmb⟩ : ∃ mb,BeginsAre pg0 cc mb:=xR pg0 cc
      have HMb:=kp hmb
      clear hmb
      obtain ⟨⟨ra,rb,rd⟩,hans⟩ : ∃ x,Ma.ans pg0 mb z1 cc = x:=⟨_,rfl⟩
      have HAns:=kp hans
      clear hans
      go_wp2_with fail
      refine (qA w.heap.size pg0 w2 (HP.out.below HW2.out) hs2 HR.out (HTab.out.below HW2.out hw01) ca cb cc HC.out mb HMb.out (a1) len1 cap1 z1 (HL1.out.below HW2.out) hlc1 HLm1.out (ra,rb,rd) HAns.out).mono ?_
      rintro e w3 ⟨rfl,hb3⟩
      have HW3 : Kept (Below w.heap.size w w3):=kp (HW2.out.trans (hb3.mono hs2))
      have hs3:=HW3.out.size
      have HK3:=kp (HKb.out.below hb3 HKb.out.lt)
      clear hb3 hc0 hc1 hc2 hc3
      obtain ⟨hc0,hc1,hc2,hc3⟩:=j8 HK3.out
      go_wp2_with (first
        | ((with_reducible show Sl 5);go_must (refine j7 rfl 30 rfl (ftC 0 0 0) lT ?_);intro gF w4 hg4 hk4 hb4;have HgF:=kp hg4;have HFb4:=kp hk4;have HW4:=kp (HW3.out.trans (hb4.mono hs3));have hs4:=HW4.out.size;have HK4:=kp (HK3.out.below hb4 HK3.out.lt);clear hg4 hk4 hb4 hc0 hc1 hc2 hc3)
        | ((with_reducible show Sn);go_must (refine j5 rfl 30 (.tmp 5) (.tmp 27) rfl gF (ftC ra rb (rd : Int)) rfl rfl _ _ HFb4.out jT rfl (l5 _ _ _) ?_);intro w5 hk5 hg5 hz5;have HFgF5:=kp hk5;have HW5:=kp (HW4.out.grown hg5 hs4 (fun k e => by cases e;have:=HgF.out;omega));have hs5:=HW5.out.size;have HK5:=kp (HK4.out.grown hg5 (fun e => by cases e;have:=HgF.out;have:=HK3.out.lt;omega));obtain ⟨hc0,hc1,hc2,hc3⟩:=j8 HK5.out;clear hk5 hg5 hz5))
      go_wp2
      apply jR (.is (pgA pg0) :: .is (.int .i64 pg0.s) :: .is _ :: .is (.int .i64 pg0.s) :: .is (.bool false) :: [])
        [[],[(0,29)],[],[(2,31)],[(1,30),(3,32)]]
        [(0,29),(1,30),(2,31),(3,32),(4,33)] (by kernel_rfl) (by kernel_rfl)
      case hob =>
        refine ⟨?o0,?o1,?o2,?o3,?o4,trivial⟩
        case o0 =>
          intro W hW;change wpList _ _ _ _ _ _
          go_must (refine j6 rfl 24 (.tmp 2) rfl g1 rfl _ (pgC pg0) _ (HK5.out.below hW HK5.out.lt) Tryd.underlying24 rfl jL ?_)
          go_wp2;exact j3 rfl rfl rfl
        case o1 =>
          intro W hW;rintro _ rfl;change wpList _ _ _ _ _ _
          go_wp2_with fail
          refine (uJ pg0 W).mono ?_
          rintro e w2 ⟨rfl,hb2⟩
          have HBq:=kp hb2;clear hb2
          go_wp2
          exact jE rfl rfl rfl HBq.out rfl
        case o2 => intro W hW;change wpList _ _ _ _ _ _;go_wp2;exact j3 rfl rfl rfl
        case o3 =>
          intro W hW;rintro _ rfl;change wpList _ _ _ _ _ _
          have hq:=(HK5.out.below hW HK5.out.lt).cell 2
          simp only [pgC,List.getElem?_cons_zero,List.getElem?_cons_succ] at hq
          go_wp2;exact j3 rfl rfl rfl
        case o4 =>
          intro W hW;rintro _ rfl;rintro _ rfl;change wpList _ _ _ _ _ _
          have hq : (pg0.s != pg0.s) = false:=by simp
          go_wp2;exact j3 rfl rfl rfl
      case hend =>
        intro W hW;rintro _ rfl;rintro _ rfl;rintro _ rfl;rintro _ rfl;rintro _ rfl
        simp only [given,jI,List.set]
        have HW6:=kp (HW5.out.trans (hW.mono hs5));have hs6:=HW6.out.size
        have HK6:=kp (HK5.out.below hW HK5.out.lt);have HF6:=kp (HFgF5.out.below hW HFgF5.out.lt)
        clear hW hc0 hc1 hc2 hc3
        obtain ⟨hc0,hc1,hc2,hc3⟩:=j8 HK6.out

        go_wp2_with fail
        refine (J3 w.heap.size pg0 W (HP.out.below HW6.out) hs6 ca cb cc HC.out).mono ?_
        rintro e w7 ⟨rfl,hb7⟩
        have HW7 : Kept (Below w.heap.size w w7):=kp (HW6.out.trans (hb7.mono hs6))
        have hs7:=HW7.out.size
        have HK7:=kp (HK6.out.below hb7 HK6.out.lt)
        have HF7:=kp (HF6.out.below hb7 HF6.out.lt)
        clear hb7 hc0 hc1 hc2 hc3
        obtain ⟨hc0,hc1,hc2,hc3⟩:=j8 HK7.out
        have hce : ((cc : Int) == (cc : Int)) = true:=by simp
        by_cases hz : cc = 0
        rotate_left
        · have hb0 : ((cc : Int) != 0) = true:=by simp;omega
          have HA0 : Kept (((0 : Int),(0 : Int),0) = (ra,rb,rd)):=kp (by rw [← HAns.out];unfold Ma.ans;rw [if_neg hz])
          have h1:=HA0.out
          simp only [Prod.mk.injEq] at h1
          obtain ⟨rfl,rfl,rfl⟩:=h1
          obtain ⟨hf0,hf1,hf2⟩:=l2 HF7.out
          clear hz HA0
          go_wp2
          go_ret
          exact ⟨rfl,HW7.out⟩
        have hb0 : ((cc : Int) != 0) = false:=by rw [hz];rfl
        have hb1 : ((cc : Int) == 0) = true:=by rw [hz];rfl
        have HFine:=kp (qZ (p:=pg0) (a:=ca) (b:=cb) (by rw [HC.out,hz]))
        have HBg:=kp (HMb.out.2 hz)
        have HRd : Kept (Ma.check pg0 mb z1 = (ra,rb,rd)):=kp (by
          have h1:=HAns.out
          unfold Ma.ans at h1
          rw [if_pos hz] at h1
          exact h1)
        clear hz hc0 hc1 hc2 hc3
        go_wp2
        apply jJ 9 (.is _ :: .is _ :: .is _ :: .is (ftA (ra,rb,rd)) :: .is (pgA pg0) :: .is _ :: .is (ftA (ra,rb,rd)) :: .is (.bool true) :: .is _ :: [])
          [[],[(0,50)],[(1,51)],[(2,52)],[(2,52)],[(2,52)],[(4,54),(5,55),(2,52)],[(3,53),(6,56),(2,52)],[(2,52),(7,57)],[(8,58)]]
          [(0,50),(1,51),(2,52),(3,53),(4,54),(5,55),(6,56),(7,57),(8,58)] (by kernel_rfl) (by kernel_rfl) (by kernel_rfl) (by kernel_rfl) (by kernel_rfl)
        case hob =>
          refine ⟨?o0,?o1,?o2,?o3,?o4,?o5,?o6,?o7,?o8,trivial⟩
          case o0 => intro W hW;change wpList _ _ _ _ _ _;go_wp2;exact j3 rfl rfl rfl
          case o1 => intro W hW;rintro _ rfl;change wpList _ _ _ _ _ _;go_wp2;exact j3 rfl rfl rfl
          case o2 => intro W hW;rintro _ rfl;change wpList _ _ _ _ _ _;go_wp2;exact j3 rfl rfl rfl
          case o3 =>
            intro W hW;rintro _ rfl;change wpList _ _ _ _ _ _
            go_must (refine jN rfl 30 (.tmp 5) rfl gF rfl _ (ftC ra rb (rd : Int)) _ (HF7.out.below hW HF7.out.lt) Tryd.underlying30 rfl jT ?_)
            go_wp2;exact j3 rfl rfl rfl
          case o4 =>
            intro W hW;rintro _ rfl;change wpList _ _ _ _ _ _
            go_must (refine jN rfl 24 (.tmp 2) rfl g1 rfl _ (pgC pg0) _ (HK7.out.below hW HK7.out.lt) Tryd.underlying24 rfl jL ?_)
            go_wp2;exact j3 rfl rfl rfl
          case o5 => intro W hW;rintro _ rfl;change wpList _ _ _ _ _ _;go_wp2;exact j3 rfl rfl rfl
          case o6 =>
            intro W hW;rintro _ rfl;rintro _ rfl;rintro _ rfl;change wpList _ _ _ _ _ _
            have hWw : Below w.heap.size w W:=HW7.out.trans (hW.mono hs7)
            go_wp2_with fail
            refine (L8 w.heap.size pg0 W (HP.out.below hWw) hWw.size HR.out HFine.out mb HBg.out a1 len1 cap1 z1 (HL1.out.below hWw) hlc1 HLm1.out (ra,rb,rd) HRd.out).mono ?_
            rintro e w2 ⟨rfl,hb2⟩
            have HBq:=kp hb2;clear hb2
            go_wp2
            exact jE rfl rfl rfl HBq.out rfl
          case o7 =>
            intro W hW;rintro _ rfl;rintro _ rfl;rintro _ rfl;change wpList _ _ _ _ _ _
            rw [show ftA (ra,rb,rd) = .agg #[.int .i64 ra,.int .i64 rb,.int .i64 (rd : Int)] from rfl]
            go_wp2;exact j3 rfl rfl rfl
          case o8 => intro W hW;rintro _ rfl;rintro _ rfl;change wpList _ _ _ _ _ _;go_wp2;exact j3 rfl rfl rfl
        case hend =>
          intro W hW;rintro _ rfl;rintro _ rfl;rintro _ rfl;rintro _ rfl;rintro _ rfl;rintro _ rfl;rintro _ rfl;rintro _ rfl;rintro _ rfl
          simp only [given,jI,List.set,List.drop]
          have HWz:=kp (HW7.out.trans (hW.mono hs7))
          clear hW
          go_wp2
          go_ret
          exact ⟨rfl,HWz.out⟩
end Go.Proofs.YtoekiejipdabmaaDoor
