/- MustLess, walked. -/
import Derived.Test.YtlgaefenhfmjfaaDoorMustRow
import Derived.Test.YtlgaefenhfmjfaaDoorProgRef5
import Derived.Test.YtlgaefenhfmjfaaDoorPk1
import Derived.Test.YtlgaefenhfmjfaaDoorGraphP3
namespace Go.Proofs.YtlgaefenhfmjfaaDoor
open Go.RowKit
theorem small_of {p : Pg} (h : Q.small p = true) : p.fns.length ≤ 40 ∧ ∀ g ∈ p.fns,g.nodes.length ≤ 100:=by
  unfold Q.small at h
  rw [Bool.and_eq_true] at h
  exact ⟨by simpa using h.1,fun g hg => by simpa using List.all_eq_true.1 h.2 g hg⟩
set_option maxRecDepth 1000000 in
set_option maxHeartbeats 8000000 in
theorem walkMustLess (pg0 : Pg) (w : World) (w0 : pg0.Ok w w.heap.size) (hL : Tab w) :
    Calls Tryd.prog 5 #[pgA pg0] w fun e w' => e = .returned (.bool true) ∧ Below w.heap.size w w':=by
  have HP:=kp w0;have HTab:=kp hL
  have hw01:=hL.size
  clear w0 hL
  obtain ⟨r,hr⟩ : ∃ r,Q.small pg0 = r:=⟨_,rfl⟩
  have HR:=kp hr
  clear hr
  rw [jL]
  cases r
  · go_enter Tryd.func5,Tryd.ntmps5
    go_wp2_with (first
      | ((with_reducible refine j4 rfl 24 (.tmp 0) rfl (pgC pg0) rfl ?_);intro g1 u1 hg1 hk1 hu1;have HK1:=kp hk1;have HG1:=kp hg1;have HU1:=kp hu1;have hz1:=hu1.size;clear hg1 hk1 hu1))
    refine (jQ u1 (HTab.out.below HU1.out hw01)).mono ?_
    rintro e w1 ⟨rfl,hb1⟩
    have HW1 : Kept (Below w.heap.size w w1):=kp (HU1.out.trans (hb1.mono hz1))
    have hs1:=HW1.out.size
    have HP1:=kp (HP.out.below HW1.out)
    have HKa:=kp (HK1.out.below hb1 HK1.out.lt)
    obtain ⟨hc0,hc1,hc2,hc3⟩:=j8 HKa.out
    clear hb1
    go_wp2_with fail
    refine (lF _ pg0 w1 HP1.out hs1 _ HR.out).mono ?_
    rintro e w2 ⟨rfl,hb2⟩
    have HW2 : Kept (Below w.heap.size w w2):=kp (HW1.out.trans (hb2.mono hs1))
    have hs2:=HW2.out.size
    have HP2:=kp (HP.out.below HW2.out)
    have HKb:=kp (HKa.out.below hb2 HKa.out.lt)
    clear hb2 hc0 hc1 hc2 hc3
    obtain ⟨hc0,hc1,hc2,hc3⟩:=j8 HKb.out
    go_wp2_with fail
    refine (jQ w2 (HTab.out.below HW2.out hw01)).mono ?_
    rintro e w9 ⟨rfl,hb9⟩
    have HW9:=kp (HW2.out.trans (hb9.mono hs2))
    clear hb9
    go_wp2
    go_ret
    exact ⟨rfl,HW9.out⟩
  · go_enter Tryd.func5,Tryd.ntmps5
    go_wp2_with (first
      | ((with_reducible refine j4 rfl 24 (.tmp 0) rfl (pgC pg0) rfl ?_);intro g1 u1 hg1 hk1 hu1;have HK1:=kp hk1;have HG1:=kp hg1;have HU1:=kp hu1;have hz1:=hu1.size;clear hg1 hk1 hu1))
    refine (jQ u1 (HTab.out.below HU1.out hw01)).mono ?_
    rintro e w1 ⟨rfl,hb1⟩
    have HW1 : Kept (Below w.heap.size w w1):=kp (HU1.out.trans (hb1.mono hz1))
    have hs1:=HW1.out.size
    have HP1:=kp (HP.out.below HW1.out)
    have HKa:=kp (HK1.out.below hb1 HK1.out.lt)
    obtain ⟨hc0,hc1,hc2,hc3⟩:=j8 HKa.out
    clear hb1
    go_wp2_with fail
    refine (lF _ pg0 w1 HP1.out hs1 _ HR.out).mono ?_
    rintro e w2 ⟨rfl,hb2⟩
    have HW2 : Kept (Below w.heap.size w w2):=kp (HW1.out.trans (hb2.mono hs1))
    have hs2:=HW2.out.size
    have HP2:=kp (HP.out.below HW2.out)
    have HKb:=kp (HKa.out.below hb2 HKa.out.lt)
    clear hb2 hc0 hc1 hc2 hc3
    obtain ⟨hc0,hc1,hc2,hc3⟩:=j8 HKb.out
    obtain ⟨⟨ca,cb,cc⟩,hcc⟩ : ∃ x,Q.check pg0 = x:=⟨_,rfl⟩
    have HC:=kp hcc
    clear hcc
    obtain ⟨us,hus⟩ : ∃ us,killA pg0 4 4 cc = us:=⟨_,rfl⟩
    have HUs:=kp hus
    clear hus
    have HSm:=kp (small_of HR.out)
    have hl40:=HSm.out.1
    have HLen:=kp HP.out.row.len
    have hpc:=HP.out.lc;have hpm:=HP.out.cm
    unfold maxLen at hpm
    have hlkb:=HKb.out.lt
    go_wp2
    go_loopw [3,4] (fun v3 v4 wr => ∃ (f : Nat) (ls : List Sc),f ≤ pg0.len ∧ v4 = .int .i64 f ∧ SecRow wr w2.heap.size v3 ls ∧ ls.length = f ∧ (∀ (i : Nat) (x : Sc),ls[i]? = some x → SecZ x (Mu.fn pg0 i).len) ∧ Below w2.heap.size w2 wr) (fun _ v4 _ => pg0.len - (intOf v4).toNat)
    case atStart => exact ⟨0,[],by omega,rfl,SecRow.nil _ _,rfl,fun i x hx => by simp at hx,Below.refl _ _⟩
    case round =>
      clear hc0 hc1 hc2 hc3
      obtain ⟨f,ls,hf,rfl,hrow,hll,hall,hbr⟩:=hrel
      have HRow:=kp hrow;have HLl:=kp hll;have HAll:=kp hall;have HBr:=kp hbr
      have hsr:=hbr.size
      have HS2r:=kp hbr.size
      have HW:=kp (HW2.out.trans (hbr.mono hs2));have hsW:=HW.out.size
      have HKr:=kp (HKb.out.below hbr hlkb)
      obtain ⟨hc0,hc1,hc2,hc3⟩:=j8 HKr.out
      have hls40 : ls.length ≤ 40:=by rw [HLl.out];have:=HLen.out;omega
      clear hrow hll hall hbr
      by_cases hlt : f < pg0.len
      · obtain ⟨ad,fn,e0,_,hfn,hfok,hcf⟩:=(HP.out.below HW.out).fn hlt
        have HFn:=kp hfn
        rw [e0] at hc3
        obtain ⟨nn,hnn⟩ : ∃ nn,fn.len = nn:=⟨_,rfl⟩
        have HNn:=kp hnn
        have hn100 : nn ≤ 100:=by rw [← hnn,← hfok.nodes.1.len];exact HSm.out.2 fn (List.mem_of_getElem? hfn)
        have hfc:=hfok.lc;have hfm:=hfok.cm
        unfold maxLen at hfm
        rw [hnn] at hcf hfc
        clear hfn hfok hnn
        go_wp2
        clear hc0 hc1 hc2 hc3 hcf
        apply jJ 7 (.is u3 :: .is (.int .i64 (nn : Int)) :: (.zeros w2.heap.size nn) :: .is (.int .i64 (nn : Int)) :: (.zeros w2.heap.size nn) :: (.zsec w2.heap.size nn) :: (.zel w2.heap.size nn) :: [])
          [[],[],[(1,33)],[],[(3,35)],[(2,34),(4,36)],[(5,37)],[(0,32),(6,38)],[(7,39)]]
          [(0,32),(1,33),(2,34),(3,35),(4,36),(5,37),(6,38)] (by kernel_rfl) (by kernel_rfl) (by kernel_rfl) (by kernel_rfl) (by kernel_rfl)
        case hob =>
          refine ⟨?o0,?o1,?o2,?o3,?o4,?o5,?o6,trivial⟩
          case o0 => intro W hW;change wpList _ _ _ _ _ _;go_wp2;exact j3 rfl rfl rfl
          case o1 => intro W hW;change wpList _ _ _ _ _ _;go_wp2;exact j3 rfl rfl rfl
          case o2 =>
            intro W hW;rintro _ rfl;change wpList _ _ _ _ _ _
            have hsW:=hW.size
            go_must (refine jW rfl 52 (.tmp 33) (.tmp 33) rfl 51 (.int .u32 0) 4 Tryd.underlying52 xQ rfl .i64 .i64 nn nn rfl rfl (Nat.le_refl _) (by omega) (by omega) ?_)
            intro gx wx hgx hkx hbx
            have HKx:=kp hkx;have HGx:=kp hgx;have HBx:=kp hbx
            clear hgx hkx hbx
            go_wp2
            exact jE rfl rfl rfl HBx.out ⟨⟨some ⟨gx,0,none⟩,nn,nn,List.replicate nn 0⟩,rfl,rfl,rfl,JH HKx.out (by have:=HGx.out;have:=HS2r.out;omega) (by unfold maxLen;omega)⟩
          case o3 => intro W hW;change wpList _ _ _ _ _ _;go_wp2;exact j3 rfl rfl rfl
          case o4 =>
            intro W hW;rintro _ rfl;change wpList _ _ _ _ _ _
            have hsW:=hW.size
            go_must (refine jW rfl 52 (.tmp 35) (.tmp 35) rfl 51 (.int .u32 0) 4 Tryd.underlying52 xQ rfl .i64 .i64 nn nn rfl rfl (Nat.le_refl _) (by omega) (by omega) ?_)
            intro gx wx hgx hkx hbx
            have HKx:=kp hkx;have HGx:=kp hgx;have HBx:=kp hbx
            clear hgx hkx hbx
            go_wp2
            exact jE rfl rfl rfl HBx.out ⟨⟨some ⟨gx,0,none⟩,nn,nn,List.replicate nn 0⟩,rfl,rfl,rfl,JH HKx.out (by have:=HGx.out;have:=HS2r.out;omega) (by unfold maxLen;omega)⟩
          case o5 =>
            intro W hW;intro v2 hv2;intro v4 hv4;change wpList _ _ _ _ _ _
            obtain ⟨x2,rfl,hz2,hl2,ho2⟩:=hv2
            obtain ⟨x4,rfl,hz4,hl4,ho4⟩:=hv4
            have HZ:=kp (And.intro hz2 hl2);have HL4:=kp hl4;have HO2:=kp ho2;have HO4:=kp ho4
            clear hz2 hl2 ho2 hz4 hl4 ho4
            have hz0 : (0 : Nat) < 4294967296:=by decide
            rw [show x2.v = .slice x2.A x2.len x2.cap from rfl,show x4.v = .slice x4.A x4.len x4.cap from rfl]
            go_wp2
            exact jE rfl rfl rfl (Below.refl _ _) ⟨⟨0,0,x2,0,0,x4⟩,rfl,⟨rfl,rfl,HZ.out.1,HZ.out.2,HL4.out⟩,⟨hz0,hz0,HO2.out,hz0,hz0,HO4.out⟩⟩
          case o6 =>
            intro W hW;intro v5 hv5;change wpList _ _ _ _ _ _
            obtain ⟨x,rfl,hz,ho⟩:=hv5
            have HZ:=kp hz;have HO:=kp ho
            clear hz ho
            have HBa:=kp ((Below.refl W.heap.size W).alloc (Nat.le_refl _) (.cells (scC x).toArray 54))
            rw [scA_is]
            unfold scC
            go_wp2
            exact jE rfl rfl rfl HBa.out ⟨W.heap.size,x,rfl,Blk.newA W _ _ (scC x) rfl,HZ.out,HO.out.below HBa.out (Nat.le_refl _)⟩
        case hend =>
          intro W hW;rintro _ rfl;rintro _ rfl;intro v2 _;rintro _ rfl;intro v4 _;intro v5 _;rintro _ ⟨gE,xE,rfl,hkE,hzE,hoE⟩
          simp only [given,jK,List.set,List.drop]
          have HB8:=kp (HBr.out.trans (hW.mono hsr))
          have HRw:=kp (HRow.out.below hW (Nat.le_refl _))
          have HKE:=kp hkE;have HZE:=kp hzE;have HOE:=kp hoE
          have hs8:=HB8.out.size
          clear hW hkE hzE hoE
          go_wp2_with (at_builtin;go_must (refine lN rfl (.tmp 32) (.tmp 38) 25 rfl w2.heap.size 54 6 _ 64 Tryd.underlying25 sec_info rfl (by omega) scV scV_one _ _ ls rfl HRw.out.row (some ⟨gE,0,none⟩) 1 1 W.heap.size [xE] rfl (JM HKE.out HOE.out.ok (Nat.le_refl _)).1 (by unfold maxLen;omega) (by omega) hs8 ?_);intro v9 w9 hown9 hgr9;have HR9:=kp (HRw.out.push HOE.out hown9 hgr9);have HB9:=kp (HRw.out.grew HB8.out (Nat.le_refl _) hs8 hgr9);clear hown9 hgr9)
          go_roundw
          case rel => exact ⟨f + 1,by omega,by go_num,ls ++ [xE],HR9.out,by rw [List.length_append,HLl.out];rfl,(fun i x hx => by
            by_cases hi : i < f
            · rw [List.getElem?_append_left (by rw [HLl.out];exact hi)] at hx
              exact HAll.out i x hx
            · rw [List.getElem?_append_right (by rw [HLl.out];omega)] at hx
              have h1:=(List.getElem?_eq_some_iff.1 hx).1
              simp at h1
              have h2 : i = f:=by have:=HLl.out;omega
              subst h2
              rw [HLl.out,Nat.sub_self] at hx
              simp at hx
              subst hx
              rw [J4 HFn.out,HNn.out]
              exact HZE.out),HB9.out⟩
          case measure => simp [intOf];omega
      · have hge : pg0.len ≤ f:=by omega
        have hfe : f = pg0.len:=by omega
        obtain ⟨A,cap,e3,hc3',hm3,hsecs⟩:=HRow.out.secs
        rw [HLl.out] at e3 hc3' hsecs
        subst e3
        have HSe:=kp hsecs;have HM3:=kp hm3
        have HAns : Kept (Mu.ans pg0 us ls cc = (0,0,0)):=kp (by
          unfold Mu.ans
          by_cases hz : cc = 0
          · rw [if_pos hz]
            refine Mu.check_zero (Mu.shaped_iff.2 ⟨by rw [HLl.out];exact hfe,fun i hi => ?_⟩) fun x hx => ?_
            · have hx : ls[i]? = some (Mu.sec ls i):=by unfold Mu.sec;rw [List.getD_eq_getElem?_getD,List.getElem?_eq_getElem (by rw [HLl.out];omega)];rfl
              obtain ⟨_,_,_,h4,h5⟩:=HAll.out i _ hx
              unfold Mu.shapedAt
              rw [h4,h5]
              simp
            · obtain ⟨i,hi⟩:=List.mem_iff_getElem?.1 hx
              exact ⟨_,HAll.out i x hi⟩
          · rw [if_neg hz])
        have HPr:=kp ((HP.out.below HW.out).more hsW)
        unfold maxLen at hm3
        clear hsecs hlt hfe
        go_wp2_with fail
        refine (x6 wr.heap.size pg0 wr HPr.out (Nat.le_refl _) HR.out (HTab.out.below HW.out hw01) ca cb cc HC.out us HUs.out A f cap ls HSe.out hc3' HM3.out (0,0,0) HAns.out).mono ?_
        rintro e w3 ⟨rfl,hb3⟩
        have HW3:=kp (HW.out.trans (hb3.mono hsW));have hs3:=HW3.out.size
        have HK3:=kp (HKr.out.below hb3 HKr.out.lt)
        clear hb3 hc0 hc1 hc2 hc3
        obtain ⟨hc0,hc1,hc2,hc3⟩:=j8 HK3.out
        go_wp2_with (first
          | ((with_reducible show Sl 6);go_must (refine j7 rfl 30 rfl (ftC 0 0 0) xW ?_);intro gF w4 hg4 hk4 hb4;have HgF:=kp hg4;have HFb4:=kp hk4;have HW4:=kp (HW3.out.trans (hb4.mono hs3));have hs4:=HW4.out.size;have HK4:=kp (HK3.out.below hb4 HK3.out.lt);clear hg4 hk4 hb4 hc0 hc1 hc2 hc3)
          | ((with_reducible show Sn);go_must (refine j5 rfl 30 (.tmp 6) (.tmp 44) rfl gF (ftC 0 0 0) rfl rfl _ _ HFb4.out jM rfl (jZ _ _ _) ?_);intro w5 hk5 hg5 hz5;have HFgF5:=kp hk5;have HW5:=kp (HW4.out.grown hg5 hs4 (fun k e => by cases e;have:=HgF.out;omega));have hs5:=HW5.out.size;have HK5:=kp (HK4.out.grown hg5 (fun e => by cases e;have:=HgF.out;have:=HK3.out.lt;omega));obtain ⟨hc0,hc1,hc2,hc3⟩:=j8 HK5.out;clear hk5 hg5 hz5))
        go_wp2_with fail
        refine (uK w.heap.size pg0 w5 (HP.out.below HW5.out) hs5 ca cb cc HC.out).mono ?_
        rintro e w6 ⟨rfl,hb6⟩
        have HW6 : Kept (Below w.heap.size w w6):=kp (HW5.out.trans (hb6.mono hs5))
        have hs6:=HW6.out.size
        have HK6:=kp (HK5.out.below hb6 HK5.out.lt)
        have HF6:=kp (HFgF5.out.below hb6 HFgF5.out.lt)
        clear hb6 hc0 hc1 hc2 hc3
        obtain ⟨hc0,hc1,hc2,hc3⟩:=j8 HK6.out
        have hce : ((cc : Int) == (cc : Int)) = true:=by simp
        obtain ⟨hf0,hf1,hf2⟩:=qS HF6.out
        go_wp2
        go_ret
        exact ⟨rfl,HW6.out⟩
end Go.Proofs.YtlgaefenhfmjfaaDoor
